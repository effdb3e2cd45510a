/- One character as bytes: what it is as a name, how many pieces it has; bytes that are built and made a text. -/
import Derived.Test.YtdmgmicabofmiaaDoorNaG
import Derived.Test.YtdmgmicabofmiaaDoorBe
namespace Go.Proofs.YtdmgmicabofmiaaDoor
set_option linter.unusedVariables false
open Go.RowKit

theorem chr_tail0 (b : UInt8) (r : List UInt8) (h1 : 128 ≤ b.toNat) (h2 : b.toNat < 192) : chr (b :: r) = (0, 0) := by
  simp only [chr, if_neg (show ¬ b.toNat < 128 by omega), if_neg (show ¬ (192 ≤ b.toNat ∧ b.toNat < 224) by omega), if_neg (show ¬ (224 ≤ b.toNat ∧ b.toNat < 240) by omega), if_neg (show ¬ (240 ≤ b.toNat ∧ b.toNat < 248) by omega)]
theorem dec_bad (L : List UInt8) (h : chr L = (0, 0)) : dec L = (65533, 1) := by unfold dec; rw [h]; rfl
theorem wid_bad : ∀ l : List UInt8, (∀ b ∈ l, 128 ≤ b.toNat ∧ b.toNat < 192) → wid l = l.length
  | [], _ => wid_nil
  | b :: l, h => by
    have hb := h b (by simp)
    rw [wid_one b l (by rw [dec_bad _ (chr_tail0 b l hb.1 hb.2)]), wid_bad l (fun x hx => h x (by simp [hx])), List.length_cons]
    omega
theorem wid_badly (a : UInt8) (l : List UInt8) (h : chr (a :: l) = (0, 0)) (hl : ∀ b ∈ l, 128 ≤ b.toNat ∧ b.toNat < 192) : wid (a :: l) = l.length + 1 := by
  rw [wid_one a l (by rw [dec_bad _ h]), wid_bad l hl]; omega
theorem right_badly (L : List UInt8) (h : chr L = (0, 0)) : rightP L = false := by
  by_cases hne : L = []
  · subst hne; decide
  have : okC L = false := by
    rw [okC_cons L hne, okH, h]
    rfl
  rw [rightP, this]
  simp
theorem wid_whole (L : List UInt8) (v : Nat) (hne : L ≠ []) (h : chr L = (L.length, v)) : wid L = 1 := by
  have h0 : L.length ≠ 0 := fun e => hne (List.eq_nil_of_length_eq_zero e)
  rw [wid_cons L hne]
  unfold dec
  rw [h, if_neg h0]
  dsimp only
  rw [List.drop_length, wid_nil]
theorem right_whole (L : List UInt8) (v : Nat) (h : chr L = (L.length, v)) (h2 : 2 ≤ L.length) (h18 : L.length ≤ 18) (hv : 128 ≤ v) (hd : L ≠ [46, 46]) : rightP L = true := by
  have hne : L ≠ [] := fun e => by rw [e] at h2; simp at h2
  have h0 : L.length ≠ 0 := by omega
  have hd1 : L ≠ [46] := fun e => by rw [e] at h2; simp at h2
  have hok : okC L = true := by
    rw [okC_cons L hne]
    unfold dec okH
    rw [h, if_neg h0]
    dsimp only
    rw [List.drop_length, okC_nil]
    simp [h0]
    omega
  simp only [rightP, hok, Bool.and_true, Bool.and_eq_true, decide_eq_true_eq, Bool.not_eq_true', beq_eq_false_iff_ne]
  exact ⟨by omega, h18, hd1, hd⟩
theorem right_ascii (b : UInt8) (h : b.toNat < 128) : rightP [b] = decide (32 ≤ b.toNat ∧ b.toNat ≠ 127 ∧ b.toNat ≠ 47 ∧ b.toNat ≠ 46) ∧ wid [b] = 1 := by
  have hc : chr [b] = (1, b.toNat) := by simp only [chr, if_pos h]
  refine ⟨?_, wid_whole [b] b.toNat (by simp) (by rw [hc]; rfl)⟩
  have hok : okC [b] = okH [b] := by
    rw [okC_cons _ (by simp)]
    unfold dec
    rw [hc]
    simp [okC_nil]
  have h46 : (b = 46) ↔ b.toNat = 46 := ⟨fun e => by rw [e]; rfl, fun e => UInt8.toNat_inj.1 (by rw [e]; rfl)⟩
  rw [rightP, hok, okH, hc]
  by_cases e : b.toNat = 46
  · have := h46.2 e
    subst this
    decide
  · have e2 : ([b] == [46]) = false := by
      apply beq_eq_false_iff_ne.2
      intro h; exact e (h46.1 (by simpa using h))
    rw [e2]
    by_cases a1 : 32 ≤ b.toNat <;> by_cases a2 : b.toNat = 127 <;> by_cases a3 : b.toNat = 47 <;> simp [a1, a2, a3, e]
/-- Two bytes. -/
theorem enc2 (a q : Nat) (ha : a < 32) (hq : q < 64) (h : 128 ≤ a * 64 + q) (L : List UInt8) (hL : L = [UInt8.ofNat (192 + a), UInt8.ofNat (128 + q)]) : rightP L = true ∧ wid L = 1 := by
  have e1 : (UInt8.ofNat (192 + a)).toNat = 192 + a := by rw [UInt8.toNat_ofNat']; omega
  have e2 : (UInt8.ofNat (128 + q)).toNat = 128 + q := by rw [UInt8.toNat_ofNat']; omega
  have hc : chr L = (L.length, a * 64 + q) := by
    subst hL
    simp only [chr, e1, e2, if_neg (show ¬ 192 + a < 128 by omega), if_pos (show 192 ≤ 192 + a ∧ 192 + a < 224 by omega), List.length_cons, List.length_nil]
    rw [if_pos ⟨(tlB_iff _).2 (by rw [e2]; omega), by omega⟩]
    refine Prod.ext rfl ?_
    show (192 + a - 192) * 64 + (128 + q - 128) = a * 64 + q
    omega
  have hl : L.length = 2 := by subst hL; rfl
  refine ⟨right_whole L _ hc (by omega) (by omega) h (fun e => ?_), wid_whole L _ (fun e => by rw [e] at hl; cases hl) hc⟩
  rw [hL] at e
  have := congrArg UInt8.toNat (List.cons.inj e).1
  rw [e1] at this
  have h46 : (46 : UInt8).toNat = 46 := rfl
  omega
/-- Three bytes. -/
theorem enc3 (a b q : Nat) (ha : a < 16) (hb : b < 64) (hq : q < 64) (h : 2048 ≤ a * 4096 + b * 64 + q) (L : List UInt8) (hL : L = [UInt8.ofNat (224 + a), UInt8.ofNat (128 + b), UInt8.ofNat (128 + q)]) :
    (a * 4096 + b * 64 + q < 55296 ∨ 57343 < a * 4096 + b * 64 + q → rightP L = true ∧ wid L = 1) ∧ (¬ (a * 4096 + b * 64 + q < 55296 ∨ 57343 < a * 4096 + b * 64 + q) → rightP L = false ∧ wid L = 3) := by
  have e1 : (UInt8.ofNat (224 + a)).toNat = 224 + a := by rw [UInt8.toNat_ofNat']; omega
  have e2 : (UInt8.ofNat (128 + b)).toNat = 128 + b := by rw [UInt8.toNat_ofNat']; omega
  have e3 : (UInt8.ofNat (128 + q)).toNat = 128 + q := by rw [UInt8.toNat_ofNat']; omega
  have t2 : tlB (UInt8.ofNat (128 + b)) = true := (tlB_iff _).2 (by rw [e2]; omega)
  have t3 : tlB (UInt8.ofNat (128 + q)) = true := (tlB_iff _).2 (by rw [e3]; omega)
  have ev : (224 + a - 224) * 4096 + (128 + b - 128) * 64 + (128 + q - 128) = a * 4096 + b * 64 + q := by omega
  have hl : L.length = 3 := by subst hL; rfl
  refine ⟨fun hw => ?_, fun hw => ?_⟩
  · have hc : chr L = (L.length, a * 4096 + b * 64 + q) := by
      subst hL
      simp only [chr, e1, e2, e3, ev, if_neg (show ¬ 224 + a < 128 by omega), if_neg (show ¬ (192 ≤ 224 + a ∧ 224 + a < 224) by omega), if_pos (show 224 ≤ 224 + a ∧ 224 + a < 240 by omega), List.length_cons, List.length_nil]
      rw [if_pos ⟨⟨t2, t3⟩, h, hw⟩]
    exact ⟨right_whole L _ hc (by omega) (by omega) (by omega) (fun e => by rw [e] at hl; cases hl), wid_whole L _ (fun e => by rw [e] at hl; cases hl) hc⟩
  · have hc : chr L = (0, 0) := by
      subst hL
      simp only [chr, e1, e2, e3, ev, if_neg (show ¬ 224 + a < 128 by omega), if_neg (show ¬ (192 ≤ 224 + a ∧ 224 + a < 224) by omega), if_pos (show 224 ≤ 224 + a ∧ 224 + a < 240 by omega)]
      rw [if_neg (fun hh => hw hh.2.2)]
    refine ⟨right_badly L hc, ?_⟩
    subst hL
    rw [wid_badly _ _ hc (by
      intro x hx
      simp only [List.mem_cons, List.not_mem_nil, or_false] at hx
      rcases hx with rfl | rfl
      · rw [e2]; omega
      · rw [e3]; omega)]
    rfl
/-- Four bytes. -/
theorem enc4 (a b d q : Nat) (ha : a < 8) (hb : b < 64) (hd : d < 64) (hq : q < 64) (h : 65536 ≤ a * 262144 + b * 4096 + d * 64 + q) (L : List UInt8) (hL : L = [UInt8.ofNat (240 + a), UInt8.ofNat (128 + b), UInt8.ofNat (128 + d), UInt8.ofNat (128 + q)]) :
    (a * 262144 + b * 4096 + d * 64 + q ≤ 1114111 → rightP L = true ∧ wid L = 1) ∧ (¬ a * 262144 + b * 4096 + d * 64 + q ≤ 1114111 → rightP L = false ∧ wid L = 4) := by
  have e1 : (UInt8.ofNat (240 + a)).toNat = 240 + a := by rw [UInt8.toNat_ofNat']; omega
  have e2 : (UInt8.ofNat (128 + b)).toNat = 128 + b := by rw [UInt8.toNat_ofNat']; omega
  have e4 : (UInt8.ofNat (128 + d)).toNat = 128 + d := by rw [UInt8.toNat_ofNat']; omega
  have e3 : (UInt8.ofNat (128 + q)).toNat = 128 + q := by rw [UInt8.toNat_ofNat']; omega
  have t2 : tlB (UInt8.ofNat (128 + b)) = true := (tlB_iff _).2 (by rw [e2]; omega)
  have t4 : tlB (UInt8.ofNat (128 + d)) = true := (tlB_iff _).2 (by rw [e4]; omega)
  have t3 : tlB (UInt8.ofNat (128 + q)) = true := (tlB_iff _).2 (by rw [e3]; omega)
  have ev : (240 + a - 240) * 262144 + (128 + b - 128) * 4096 + (128 + d - 128) * 64 + (128 + q - 128) = a * 262144 + b * 4096 + d * 64 + q := by omega
  have hl : L.length = 4 := by subst hL; rfl
  refine ⟨fun hw => ?_, fun hw => ?_⟩
  · have hc : chr L = (L.length, a * 262144 + b * 4096 + d * 64 + q) := by
      subst hL
      simp only [chr, e1, e2, e3, e4, ev, if_neg (show ¬ 240 + a < 128 by omega), if_neg (show ¬ (192 ≤ 240 + a ∧ 240 + a < 224) by omega), if_neg (show ¬ (224 ≤ 240 + a ∧ 240 + a < 240) by omega), if_pos (show 240 ≤ 240 + a ∧ 240 + a < 248 by omega), List.length_cons, List.length_nil]
      rw [if_pos ⟨⟨t2, t4, t3⟩, h, hw⟩]
    exact ⟨right_whole L _ hc (by omega) (by omega) (by omega) (fun e => by rw [e] at hl; cases hl), wid_whole L _ (fun e => by rw [e] at hl; cases hl) hc⟩
  · have hc : chr L = (0, 0) := by
      subst hL
      simp only [chr, e1, e2, e3, e4, ev, if_neg (show ¬ 240 + a < 128 by omega), if_neg (show ¬ (192 ≤ 240 + a ∧ 240 + a < 224) by omega), if_neg (show ¬ (224 ≤ 240 + a ∧ 240 + a < 240) by omega), if_pos (show 240 ≤ 240 + a ∧ 240 + a < 248 by omega)]
      rw [if_neg (fun hh => hw hh.2.2)]
    refine ⟨right_badly L hc, ?_⟩
    subst hL
    rw [wid_badly _ _ hc (by
      intro x hx
      simp only [List.mem_cons, List.not_mem_nil, or_false] at hx
      rcases hx with rfl | rfl | rfl
      · rw [e2]; omega
      · rw [e4]; omega
      · rw [e3]; omega)]
    rfl
/-- Bytes that were built, as a text. -/
theorem conv_new (w : World) (L : List UInt8) (cs : Array Value) (hcs : cs = (bc L).toArray) (n : Nat) (hn : L.length = n) :
    (convert 37 9 (.slice (some ⟨w.heap.size, 0, none⟩) n n)).run Tryd.prog (w.alloc (.cells cs 5)) = .ok (.string ⟨L.toArray⟩) (w.alloc (.cells cs 5)) := by
  have hr : (w.alloc (.cells cs 5)).rangeAt w.heap.size 0 (bc L) := fun j v hv => by
    rw [cell_of_row _ _ _ _ _ _ (heap_alloc_new _ _), hcs]
    simpa using hv
  have := run_convert_bytes_arg (P := Tryd.prog) (w.alloc (.cells cs 5)) 37 5 Tryd.underlying37 Tryd.underlying5 w.heap.size 0 n n (L.map fun b => (b.toNat : Int)) (by simp [hn]) (fun i hi => by
    have hi' : i < L.length := by omega
    rw [hr i (.int .u8 ((L[i]).toNat : Int)) (by simp [bc, hi'])]
    simp [hi']) 9 Tryd.underlying9
  rw [str_of] at this
  exact this
theorem and_ones32 (n : Int) (m j : Nat) (hm : (BitVec.ofInt 32 (m : Int)).toNat = 2 ^ j - 1) : (BitVec.ofInt 32 n &&& BitVec.ofInt 32 (m : Int)).toNat = (n % ((2 ^ 32 : Nat) : Int)).toNat % 2 ^ j := by
  rw [BitVec.toNat_and, BitVec.toNat_ofInt, hm, Nat.and_two_pow_sub_one_eq_mod]
theorem and63u (n : Nat) (hn : n < 4294967296) : bits .and .u32 (n : Int) 63 = ((n % 64 : Nat) : Int) := by
  show IntKind.u32.wrap ((BitVec.ofInt 32 (n : Int) &&& BitVec.ofInt 32 ((63 : Nat) : Int)).toNat : Nat) = _
  rw [and_ones32 _ 63 6 (by decide), IntKind.wrap_u32]
  omega
theorem and21u (c : Int) : ∃ k : Nat, bits .and .u32 c 2097151 = (k : Int) ∧ k < 2097152 := by
  have e : bits .and .u32 c 2097151 = c % 2097152 := by
    show IntKind.u32.wrap ((BitVec.ofInt 32 c &&& BitVec.ofInt 32 ((2097151 : Nat) : Int)).toNat : Nat) = _
    rw [and_ones32 _ 2097151 21 (by decide), IntKind.wrap_u32]
    omega
  exact ⟨(c % 2097152).toNat, by rw [e]; omega, by omega⟩
theorem and127u (c : Int) (hc : 0 ≤ c ∧ c ≤ 255) : ∃ k : Nat, bits .and .u8 c 127 = (k : Int) ∧ k < 128 := by
  have e : bits .and .u8 c 127 = c % 128 := by
    show IntKind.u8.wrap ((BitVec.ofInt 8 c &&& BitVec.ofInt 8 ((127 : Nat) : Int)).toNat : Nat) = _
    rw [BitVec.toNat_and, BitVec.toNat_ofInt, show (BitVec.ofInt 8 ((127 : Nat) : Int)).toNat = 2 ^ 7 - 1 by decide, Nat.and_two_pow_sub_one_eq_mod, IntKind.wrap_u8]
    omega
  exact ⟨(c % 128).toNat, by rw [e]; omega, by omega⟩
end Go.Proofs.YtdmgmicabofmiaaDoor
