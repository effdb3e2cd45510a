/- The document's own Trim and Full. -/
import Derived.Test.YtgijkgcekfbgeaaDoorInF
namespace Go.Proofs.YtgijkgcekfbgeaaDoor
set_option linter.unusedVariables false
open Go.RowKit

set_option maxHeartbeats 800000 in
theorem rtrim_of (w : World) (L : List UInt8) (hl : (str L).size ≤ 140737488351232) :
    Calls Tryd.prog 18 #[.string (str L)] w fun e w' => e = .returned (.string (str (trimmed L))) ∧ w' = w := by
  have hsz := str_size L
  obtain ⟨m, hm⟩ : ∃ m : Nat, min ((str L).size : Int) 32 = (m : Int) := ⟨min L.length 32, by rw [hsz]; omega⟩
  have hm2 : m ≤ L.length ∧ m ≤ 32 ∧ (m = L.length ∨ m = 32) := by rw [hsz] at hm; omega
  have hml : (L.take 32).length = m := by rw [List.length_take]; omega
  have Hx : ∀ k, (str L).extract 0 k = str (L.take k) := ext_take L
  have Ht : ∀ k, k ≤ m → L.take k = (L.take 32).take k := fun k hk => by rw [List.take_take, Nat.min_eq_left (by omega)]
  have Hlt : ∀ k : Nat, k ≤ m → (k : Int) ≤ ((str L).size : Int) := fun k hk => by rw [hsz]; omega
  have Hi : ∀ k : Nat, k < m → ∃ b, L[k]? = some b ∧ ∀ y, (Instr.index 9 (.string (str L)) (.int .i64 (k : Int))).run Tryd.prog y = .ok (.int .u8 (b.toNat : Int)) y := fun k hk =>
    ⟨L[k]'(by omega), List.getElem?_eq_getElem _, idx_at (str L) k _ (by rw [str_list]; exact List.getElem?_eq_getElem _)⟩
  have HT : Hid (trimmed L = Lib.trimRightB (L.take 32) 0) := rfl
  generalize trimmed L = R at HT ⊢
  generalize str L = S at *
  have hm32 : m ≤ 32 := hm2.2.1
  clear hsz hm2
  go_enter Tryd.func18, Tryd.ntmps18
  go_wp2_with fail
  go_loop [3] (fun v => ∃ k : Nat, k ≤ m ∧ v = .int .i64 (k : Int) ∧ ∀ (j : Nat) b, k ≤ j → (L.take 32)[j]? = some b → b = 0) (fun v => (intOf v).toNat)
  case atStart => exact ⟨m, Nat.le_refl _, by first | rfl | simp [hm], fun j b hj hb => absurd (List.getElem?_eq_some_iff.1 hb).1 (by omega)⟩
  case round =>
    obtain ⟨k, hk, rfl, hz⟩ := hrel
    have HZ : Hid (∀ (j : Nat) b, k ≤ j → (L.take 32)[j]? = some b → b = 0) := hz
    clear hz hm
    cases k with
    | zero =>
      have hx := Hx 0
      have h0 : Hid (R = L.take 0) := HT.out.trans ((Lib.trimRightB_take (L.take 32) 0 0 (Nat.zero_le _) HZ.out fun b h _ => absurd h (by omega)).trans (by rw [List.take_zero, List.take_zero]))
      clear HT HZ Hi Hx Ht Hlt
      go_wp2
      go_ret
      exact ⟨by rw [h0.out]; first | rfl | simp, rfl⟩
    | succ g =>
      obtain ⟨b, hb, hidx⟩ := Hi g (by omega)
      have hb32 : (L.take 32)[g]? = some b := by rw [List.getElem?_take_of_lt (by omega)]; exact hb
      have hlt := Hlt (g + 1) hk
      have hlt1 : (g : Int) + 1 ≤ (S.size : Int) := by omega
      have hpos : (0 : Int) < (g : Int) + 1 := by omega
      by_cases h0 : b = 0
      · subst h0
        have hb' : (((0 : UInt8).toNat : Int) == 0) = true := rfl
        have HB : Hid ((L.take 32)[g]? = some (0 : UInt8)) := hb32
        clear hb hb32 Hi Hx Ht Hlt HT hlt
        go_wp2
        go_round
        case rel =>
          refine ⟨g, by omega, by first | rfl | simp | go_num, fun j b hj hbj => ?_⟩
          by_cases e : j = g
          · subst e
            have h1 := HB.out.symm.trans hbj
            exact (Option.some.inj h1).symm
          · exact HZ.out j b (by omega) hbj
        case measure => simp [intOf]
      · have hb' : ((b.toNat : Int) == 0) = false := by
          have : b.toNat ≠ 0 := fun e => h0 (UInt8.toNat_inj.1 e)
          simpa using this
        have hx := Hx (g + 1)
        have hR : Hid (R = L.take (g + 1)) := HT.out.trans ((Lib.trimRightB_take (L.take 32) 0 (g + 1) (by omega) HZ.out (fun c _ hc => by
          rw [Nat.add_sub_cancel] at hc
          have h1 := hb32.symm.trans hc
          rw [← Option.some.inj h1]
          exact h0)).trans (Ht (g + 1) hk).symm)
        have hnn : ((g : Int) + 1).toNat = g + 1 := by omega
        clear hb hb32 Hi Hx Ht Hlt HT hlt HZ h0
        go_wp2
        go_ret
        exact ⟨by rw [hR.out]; first | rfl | simp_all, rfl⟩
theorem rtrim_calls (w : World) (L : List UInt8) (hl : L.length ≤ 140737488351232) :
    Calls Tryd.prog 18 #[.string (str L)] w fun e w' => e = .returned (.string (str (trimmed L))) ∧ w' = w := rtrim_of w L (by rw [str_size]; exact hl)

set_option maxHeartbeats 800000 in
theorem rfull_of (w : World) (A S : ByteArray) (d : Nat) (hxA : A.extract 0 (min (A.size : Int) 32).toNat = S) (hd : 32 - (S.size : Int) = (d : Int)) :
    Calls Tryd.prog 20 #[.string A] w fun e w' => e = .returned (.string (S ++ str (List.replicate d 0))) ∧ Below w.heap.size w w' := by
  have hd32 : d ≤ 32 := by omega
  have hmk := run_make_row' (P := Tryd.prog) 55 5 (.int .u8 0) 1 Tryd.underlying55 Tryd.info_u8 rfl .i64 .i64 d (by omega) (by omega)
  have hcv : (convert 55 9 (.slice (some ⟨w.heap.size, 0, none⟩) d d)).run Tryd.prog (w.alloc (.cells (madeCells #[.int .u8 0] d) 5)) = .ok (.string (str (List.replicate d 0))) (w.alloc (.cells (madeCells #[.int .u8 0] d) 5)) := by
    refine conv_bytes (r := some w.heap.size) ⟨_, d, by simp, by simp, .inr ⟨w.heap.size, 0, rfl, rfl, by simp, fun j u hu => ?_⟩⟩
    have hj := bc_get hu
    rw [bc_at _ _ hj] at hu
    have hc := cell_of_row (w.alloc (.cells (madeCells #[.int .u8 0] d) 5)) w.heap.size (0 + j) (madeCells #[.int .u8 0] d) 5 (0, 0) (heap_alloc_new _ _)
    refine Eq.trans (show _ = _ from hc) ?_
    rw [← Array.getElem?_toList, toList_madeCells_one]
    simp at hj
    simpa [hj] using hu
  have hsz : (str (List.replicate d 0)).size = d := by rw [str_size]; simp
  have hsum : (S.size : Int) + (d : Int) ≤ 9223372036854775807 := by omega
  go_enter Tryd.func20, Tryd.ntmps20
  go_wp2
  go_ret
  exact ⟨rfl, (Below.refl _ _).alloc (Nat.le_refl _) _⟩
theorem rfull_calls (w : World) (L : List UInt8) :
    Calls Tryd.prog 20 #[.string (str L)] w fun e w' => e = .returned (.string (str (fullP L))) ∧ Below w.heap.size w w' := by
  have hlt : (L.take 32).length ≤ 32 := by rw [List.length_take]; omega
  have h := rfull_of w (str L) (str (L.take 32)) (32 - (L.take 32).length) (by
    rw [ext_take, str_size]
    by_cases hl : L.length ≤ 32
    · rw [List.take_of_length_le (i := 32) hl, List.take_of_length_le (by omega)]
    · congr 2
      omega) (by rw [str_size]; omega)
  rw [str_append, str_list] at h
  exact h
end Go.Proofs.YtgijkgcekfbgeaaDoor
