/- What each call on the document's own writer (wainscotref01.Writer) comes to, in the same words as for pack's. -/
import Derived.Test.YtgijkgcekfbgeaaDoorRoom
import Derived.Laws.CopyOwn
namespace Go.Proofs.YtgijkgcekfbgeaaDoor
set_option linter.unusedVariables false
open Go.RowKit

theorem byte_wrap (x : Nat) : ((UInt8.ofNat x).toNat : Int) = (x : Int) % 256 := by simp

theorem be_get (v : Nat) : ∀ (n j : Nat), j < n → (be v n)[j]? = some (UInt8.ofNat (v / 256 ^ (n - 1 - j)))
  | 0, j, h => by omega
  | n + 1, 0, h => by simp [be]
  | n + 1, j + 1, h => by
    rw [be, List.getElem?_cons_succ, be_get v n j (by omega)]
    congr 4
    omega
theorem be_cells (v n : Nat) (xs : List Value) (hl : xs.length = n) (h : ∀ j, j < n → xs[j]? = some (.int .u8 ((UInt8.ofNat (v / 256 ^ (n - 1 - j))).toNat : Int))) : xs = bc (be v n) := by
  apply List.ext_getElem?
  intro j
  by_cases hj : j < n
  · rw [h j hj]
    unfold bc
    rw [List.getElem?_map, be_get v n j hj]
    rfl
  · rw [List.getElem?_eq_none (by omega), List.getElem?_eq_none (by rw [bc_length, be_length]; omega)]

set_option maxHeartbeats 400000 in
theorem big_calls' (w : World) (v n : Nat) (hn : n ≤ 8) (hv : Hid (v < 18446744073709551616)) :
    Calls Tryd.prog 44 #[.int .u64 (v : Int), .int .i64 (n : Int)] w fun e w' => e = .returned (.string (str (be v n))) ∧ Below w.heap.size w w' := by
  obtain ⟨i0, hi, hz0, hz1, hz2⟩ := info_parts Tryd.info_u8
  go_enter Tryd.func44, Tryd.ntmps44
  go_wp2_with (at_make; refine wpList_make_full _ rfl (.tmp 7) (.tmp 7) 55 rfl w.heap.size 5 i0 (.int .u8 0) 1 Tryd.underlying55 hi hz0 hz1 .i64 .i64 n n n rfl rfl rfl rfl (by rw [hz2]; omega) (by unfold maxLen; omega) (Nat.le_refl _) ?_; intro w1 hown hgrow)
  have hb1 : Below w.heap.size w w1 := (Below.refl _ _).grown hgrow (Nat.le_refl _) (fun k hk => by cases hk)
  clear hgrow
  go_loopw [0, 6] (fun u i wr => ∃ (k : Nat) (xs : List Value), k ≤ n ∧ i = .int .i64 (k : Int) ∧ u = .int .u64 ((v / 256 ^ (n - k) : Nat) : Int) ∧ wr.ownsRow w.heap.size 5 1 (.slice (some ⟨w.heap.size, 0, none⟩) n n) n xs ∧
      (∀ j, k ≤ j → j < n → xs[j]? = some (.int .u8 ((UInt8.ofNat (v / 256 ^ (n - 1 - j))).toNat : Int))) ∧ Below w.heap.size w wr)
    (fun _ i _ => (intOf i).toNat)
  case atStart => exact ⟨n, _, Nat.le_refl _, rfl, by simp, hown, fun j h1 h2 => by omega, hb1⟩
  case round =>
    obtain ⟨k, xs, hk, rfl, rfl, ho, hxs, hbel⟩ := hrel
    clear hown hb1
    by_cases hk0 : 0 < k
    · obtain ⟨i, rfl⟩ : ∃ i, k = i + 1 := ⟨k - 1, by omega⟩
      have hc := ho.cellAt i (by omega)
      have hfz := ho.frozenAt i
      have hxl : i < xs.length := by have := ho.1; omega
      rw [List.getElem?_eq_getElem hxl] at hc
      generalize hx : v / 256 ^ (n - (i + 1)) = x at *
      have hxb : (x : Int) ≤ 18446744073709551615 := by
        have h1 := Nat.div_le_self v (256 ^ (n - (i + 1)))
        have h2 := hv.out
        omega
      have Hx : Hid (v / 256 ^ (n - (i + 1)) = x) := hx
      clear hx
      go_wp2
      go_roundw
      case rel =>
        have hst := ho.stored i (.int .u8 ((x : Int) % 256))
        refine ⟨i, xs.set i (.int .u8 ((x : Int) % 256)), by omega, rfl, ?_, hst.1, fun j h1 h2 => ?_, hbel.grown hst.2 hbel.size (fun k hk => by cases hk; exact Nat.le_refl _)⟩
        · have e : v / 256 ^ (n - i) = x / 256 := by
            rw [← Hx.out, show n - i = n - (i + 1) + 1 by omega, Nat.pow_succ, Nat.div_div_eq_div_mul]
          rw [e]
          try rw [u64_nonneg (by omega) (by omega)]
          rfl
        · by_cases hji : j = i
          · subst hji
            rw [List.getElem?_set_self (by omega), byte_wrap, show n - 1 - j = n - (j + 1) by omega, Hx.out]
          · rw [List.getElem?_set_ne (by omega)]
            exact hxs j (by omega) h2
      case measure => simp [intOf]
    · have e : k = 0 := by omega
      subst e
      have hxe := be_cells v n xs (by have := ho.1; omega) (fun j hj => hxs j (by omega) hj)
      subst hxe
      have ho2 : wr.ownsRow w.heap.size 5 1 (.slice (some ⟨w.heap.size, 0, none⟩) n n) (be v n).length (bc (be v n)) := by rw [be_length]; exact ho
      have hcv := conv_bytes (own_bytes ho2)
      clear hxs ho2
      go_wp2
      go_ret
      exact ⟨rfl, hbel⟩
end Go.Proofs.YtgijkgcekfbgeaaDoor
