/- The document's own words on nodes: Number, at, text, key, First. -/
import Derived.Test.YtggbnacpgkbieaaNodF1
import Derived.Test.YtggbnacpgkbieaaNodX
namespace Go.Proofs.Ytggbnacpgkbieaa
set_option linter.unusedVariables false
open Go.RowKit

theorem str_cons (b : UInt8) (l : List UInt8) : str [b] ++ str l = str (b :: l) := by
  apply ByteArray.ext
  simp [str]
theorem wrap_div (x : Nat) (h : x < 9223372036854775808) : wrap64 ((x : Int) / 256) = ((x / 256 : Nat) : Int) := by
  unfold wrap64
  omega
theorem be_next (N k : Nat) : be N (k + 1) = UInt8.ofNat (N / 256 ^ k) :: be N k := rfl
set_option maxHeartbeats 1000000 in
theorem number_calls4 (w : World) (N W : Nat) (hW : W ≤ 8) (hN : Hid (N < 9223372036854775808)) :
    Calls Try.prog 29 #[.int .i64 (N : Int), .int .i64 (W : Int)] w fun e w' => e = .returned (.string (str (be N W))) ∧ Below w.heap.size w w' := by
  go_enter Try.func29, Try.ntmps29
  go_wp2
  go_loopw [0, 5, 6] (fun u t i wr => ∃ (k : Nat), k ≤ W ∧ i = .int .i64 (k : Int) ∧ t = .string (str (be N k)) ∧ u = .int .i64 ((N / 256 ^ k : Nat) : Int) ∧ Below w.heap.size w wr) (fun _ _ i _ => W - (intOf i).toNat)
  case atStart => exact ⟨0, Nat.zero_le _, rfl, rfl, by simp, Below.refl _ _⟩
  case round =>
    obtain ⟨k, hk, rfl, rfl, rfl, hbel⟩ := hrel
    by_cases hlt : k < W
    · obtain ⟨x, hx⟩ : ∃ x : Nat, x = N / 256 ^ k := ⟨_, rfl⟩
      rw [← hx]
      have HX : Hid (x = N / 256 ^ k) := hx
      clear hx
      have hcv := conv_bytes (byt_one wr (UInt8.ofNat x)).choose_spec.1
      have eb : ((UInt8.ofNat x).toNat : Int) = (x : Int) % 256 := by simp
      rw [eb] at hcv
      have HS : Hid (str [UInt8.ofNat x] ++ str (be N k) = str (be N (k + 1))) := (show _ = _ by rw [str_cons, HX.out]; rfl)
      have HD : Hid (N / 256 ^ (k + 1) = x / 256) := (show _ = _ by rw [HX.out, Nat.pow_succ, Nat.div_div_eq_div_mul])
      have z1 : (str [UInt8.ofNat x]).size = 1 := str_size _
      have z2 : (str (be N k)).size = k := by rw [str_size, be_length]
      have hk8 : k < 8 := by omega
      go_wp2
      go_round
      case rel => exact ⟨k + 1, by omega, by go_num, by rw [← HS.out], by rw [HD.out, wrap_div x (by rw [HX.out]; exact Nat.lt_of_le_of_lt (Nat.div_le_self _ _) hN.out)], hbel.alloc hbel.size _⟩
      case measure => simp [intOf]; omega
    · have e : k = W := by omega
      subst e
      go_wp2
      go_ret
      exact ⟨rfl, hbel⟩
/-- W bytes from a place on; behind the end there are noughts. -/
def win (L : List UInt8) (p : Nat) : Nat → List UInt8
  | 0 => []
  | k + 1 => win L p k ++ [L.getD (p + k) 0]
theorem win_length (L : List UInt8) (p k : Nat) : (win L p k).length = k := by
  induction k with
  | zero => rfl
  | succ k ih => simp [win, ih]
theorem win_in {L : List UInt8} {p : Nat} : ∀ {k : Nat}, p + k ≤ L.length → win L p k = (L.drop p).take k
  | 0, _ => by simp [win]
  | k + 1, h => by
    rw [win, win_in (by omega), List.take_succ_eq_append_getElem (by simp; omega)]
    simp [List.getElem?_eq_getElem (show p + k < L.length by omega)]
theorem get_byte (L : List UInt8) (i : Nat) (h : i < (str L).size) : wrap64 (((str L)[i]).toNat : Int) = ((L.getD i 0).toNat : Int) := by
  have hl : i < L.length := by rw [str_size] at h; exact h
  have e : (str L)[i] = L.getD i 0 := by
    show (str L).data[i] = _
    simp [str, List.getElem?_eq_getElem hl]
  refine (congrArg (fun b : UInt8 => wrap64 (b.toNat : Int)) e).trans ?_
  have := (L.getD i 0).toNat_lt
  simp only [wrap64]
  omega
set_option maxHeartbeats 2000000 in
theorem rat_calls (w : World) (L : List UInt8) (i : Nat) (hi : i ≤ 100000) (hL : L.length ≤ 1000) :
    Calls Try.prog 40 #[.string (str L), .int .i64 (i : Int)] w fun e w' => e = .returned (.int .i64 ((L.getD i 0).toNat : Int)) ∧ w' = w := by
  have hz : (str L).size = L.length := str_size L
  by_cases hin : i < L.length
  · have hb : ∃ b : UInt8, (L.getD i 0) = b ∧ (str L).data[i]? = some b := ⟨_, rfl, by simp [str, hin]⟩
    go_enter Try.func40, Try.ntmps40
    go_wp2
    go_ret
    exact ⟨by rw [← get_byte]; rfl, rfl⟩
  · have e0 : L.getD i 0 = 0 := by simp [show L.length ≤ i by omega]
    go_enter Try.func40, Try.ntmps40
    go_wp2
    go_ret
    exact ⟨by rw [e0]; rfl, rfl⟩
theorem u8_back (B : UInt8) : ((B.toNat : Nat) : Int) % 256 = (B.toNat : Int) := by
  have := B.toNat_lt
  omega
theorem add_small {p k : Nat} (h : p + k ≤ 200000) : wrap64 ((p : Int) + (k : Int)) = ((p + k : Nat) : Int) := by
  unfold wrap64
  omega
set_option maxRecDepth 100000 in
set_option maxHeartbeats 4000000 in
theorem rtext_calls (w : World) (L : List UInt8) (p n : Nat) (hp : p ≤ 90000) (hn : n ≤ 255) (hL : L.length ≤ 1000) :
    Calls Try.prog 42 #[.string (str L), .int .i64 (p : Int), .int .i64 (n : Int)] w fun e w' => e = .returned (.string (str (win L p n))) ∧ Below w.heap.size w w' := by
  obtain ⟨i0, hi, hz0, hz1, hz2⟩ := info_parts Try.info_u8
  have own0 := own_empty w w.heap.size (Nat.le_refl _)
  have HS : Hid ((w.alloc (.cells #[] 5)).ownsRow w.heap.size 5 1 (.slice (some ⟨w.heap.size, 0, none⟩) 0 0) 0 (bc (win L p 0)) ∧ Below w.heap.size w (w.alloc (.cells #[] 5))) := ⟨own0, (Below.refl _ w).alloc (Nat.le_refl _) _⟩
  clear own0
  go_enter Try.func42, Try.ntmps42
  go_wp2_with fail
  go_loopg [7, 8] n (fun g v i wr => ∃ (k : Nat) (a : Option Addr) (c : Nat), k + g = n ∧ v = .slice a k c ∧ i = .int .i64 (k : Int) ∧ Hid (wr.ownsRow w.heap.size 5 1 (.slice a k c) k (bc (win L p k)) ∧ Below w.heap.size w wr))
  case atStart => exact ⟨0, _, _, by omega, rfl, rfl, HS.out⟩
  case round =>
    obtain ⟨k, a, c, hkg, rfl, rfl, HP⟩ := hrel
    cases gk with
    | zero =>
      obtain rfl : k = n := by omega
      have hcv := conv_bytes (own_byt HP.out.1).choose_spec.1
      have BF := HP.out.2
      have q1 : ¬ ((k : Int) < (k : Int)) := by omega
      go_wp2_with fail
      go_ret
      exact ⟨rfl, BF⟩
    | succ g =>
      have hkn : (k : Int) < (n : Int) := by omega
      have hadd0 := add_small (p := p) (k := k) (by omega)
      have cA0 := rat_calls wr L (p + k) (by omega) hL
      have HW : Hid (bc (win L p k) ++ bc [L.getD (p + k) 0] = bc (win L p (k + 1))) := (show _ = _ by rw [win, bc_append])
      have u8 := u8_back (L.getD (p + k) 0)
      obtain ⟨u, hu⟩ : ∃ u : Nat, u = p + k := ⟨_, rfl⟩
      have hadd : wrap64 ((p : Int) + (k : Int)) = (u : Int) := by rw [hu]; exact hadd0
      have hadd2 : (p : Int) + (k : Int) = (u : Int) := by omega
      have cA := cA0
      rw [← hu] at cA HW u8
      clear hu hadd0 cA0
      generalize L.getD u 0 = B at *
      have own1 : (wr.alloc (.cells #[.int .u8 (B.toNat : Int)] 5)).ownsRow w.heap.size 5 1 (.slice a k c) k (bc (win L p k)) := HP.out.1.alloc _
      have HO : Hid ((wr.alloc (.cells #[.int .u8 (B.toNat : Int)] 5)).ownsRow w.heap.size 5 1 (.slice a k c) k (bc (win L p k)) ∧ Below w.heap.size w (wr.alloc (.cells #[.int .u8 (B.toNat : Int)] 5))) := ⟨own1, HP.out.2.alloc HP.out.2.size _⟩
      have HN : Hid (∀ j u, (bc [B])[j]? = some u → (wr.alloc (.cells #[.int .u8 (B.toNat : Int)] 5)).cell? ((⟨wr.heap.size, 0, none⟩ : Addr).add j) = some u) := fun j u hu => by
        rw [add_lit, Nat.zero_add, cell_of_row _ wr.heap.size j _ _ _ (heap_alloc_new _ _)]
        simpa [bc] using hu
      clear own1 HP
      have HM : Hid (k + 1 ≤ maxLen ∧ (k + 1) * 1 ≤ 140737488355328) := (show _ ∧ _ by unfold maxLen; omega)
      go_wp2_with (first
        | (go_at_call 40; refine cA.mono ?_; rintro e w1 ⟨rfl, rfl⟩)
        | (at_builtin; (refine wpList_append_own _ rfl (.tmp 15) (.tmp 22) 26 rfl w.heap.size 5 i0 (.int .u8 0) 1 1 Try.underlying26 hi hz0 hz1 hz2 rfl (by decide) (.slice a k c) k (bc (win L p k)) rfl HO.out.1 ⟨_, 0, none⟩ 1 1 (bc [B]) rfl rfl HN.out (bc_one _) HM.out.1 HM.out.2 HO.out.2.size ?_; intro v' w2 ow gr _; obtain ⟨a', c', rfl⟩ := own_form ow; have HNEW : Hid (w2.ownsRow w.heap.size 5 1 (.slice a' (k + 1) c') (k + 1) (bc (win L p (k + 1))) ∧ Below w.heap.size w w2) := ⟨by rw [← HW.out]; exact ow, HO.out.2.grown gr HO.out.2.size (fun q hq => (HO.out.1.lt q hq).1)⟩)))
      go_roundg g
      case measure => omega
      case rel => exact ⟨k + 1, _, _, by omega, rfl, congrArg _ (by omega), HNEW.out⟩
end Go.Proofs.Ytggbnacpgkbieaa
