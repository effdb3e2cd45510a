/- Bytes behind bytes, in a walk; what blocks that are turned are. -/
import Derived.Test.YtnpohjbhfoebcaaSupV
namespace Go.Proofs.Ytnpohjbhfoebcaa
set_option linter.unusedVariables false
open Go.RowKit

theorem append_byt {ops : Array Oper} {rest : List Oper} {o : Oper} {a : Act} {w : World} {Q : Exit → Act → World → Prop} (hgd : o.guard = none) (s x : Operand) (ho : o.op = .call { callee := .builtin .append, args := #[s, x], argTypes := #[25, 25] })
    (base nL n : Nat) (sv : Value) (L : List UInt8) (hs : a.eval s = sv) (hown : w.ownsRow base 5 1 sv nL (bc L)) (xv : Value) (M : List UInt8) (hx : a.eval x = xv) (hM : Byt w xv M) (hn : L.length + M.length = n) (hM0 : 0 < M.length) (hlen : n ≤ 100000) (hb : base ≤ w.heap.size) (w0 : World) (hw0 : Below base w0 w)
    (h : ∀ a' c' w', w'.ownsRow base 5 1 (.slice a' n c') n (bc (L ++ M)) → Below base w0 w' → wpList Try.prog ops Q rest (a.put o.dst (.slice a' n c')) w') : wpList Try.prog ops Q (o :: rest) a w := by
  obtain ⟨i0, hi, hz0, hz1, hz2⟩ := info_parts Try.info_u8
  have e : nL = L.length := by have := hown.1; rw [bc_length] at this; omega
  subst e hn
  obtain ⟨r, ⟨ad, cap, rfl, hcap, hh⟩, hr⟩ := hM
  rcases hh with ⟨_, e, _⟩ | ⟨g, off, rfl, _, hg, hat⟩
  · rw [e] at hM0
    simp at hM0
  · refine wpList_append_own _ hgd s x 25 ho base 5 i0 (.int .u8 0) 1 1 Try.underlying25 hi hz0 hz1 hz2 rfl (by decide) sv L.length (bc L) hs hown ⟨g, off, none⟩ M.length cap (bc M) hx (by rw [bc_length]; omega) (fun j u hu => by rw [add_lit]; exact hat j u hu) (bc_one M) (by unfold maxLen; omega) (by omega) hb ?_
    intro v' w' hown' hgrow _
    rw [← bc_append] at hown'
    obtain ⟨a', c', rfl⟩ := own_form hown'
    exact h a' c' w' hown' (hw0.grown hgrow hb (fun k hk => (hown.lt k hk).1))
theorem byt_one (W : World) (b : UInt8) : Byt (W.alloc (.cells #[.int .u8 (b.toNat : Int)] 5)) (.slice (some ⟨W.heap.size, 0, none⟩) 1 1) [b] := by
  refine ⟨some W.heap.size, ⟨_, 1, rfl, Nat.le_refl _, .inr ⟨W.heap.size, 0, rfl, rfl, by simp, fun j u hu => ?_⟩⟩, fun k hk => by cases hk; simp⟩
  rw [Nat.zero_add, cell_of_row _ _ _ _ _ _ (heap_alloc_new _ _)]
  simpa [bc] using hu
theorem own_byt {x : World} {base n : Nat} {sv : Value} {L : List UInt8} (h : x.ownsRow base 5 1 sv n (bc L)) : Byt x sv L := ⟨_, own_in h (Below.refl _ _)⟩
theorem own_empty (W : World) (base : Nat) (hb : base ≤ W.heap.size) : (W.alloc (.cells #[] 5)).ownsRow base 5 1 (.slice (some ⟨W.heap.size, 0, none⟩) 0 0) 0 (bc []) := World.ownsRow_made (base := base) (e := 5) (size := 1) W #[] 0 hb (by unfold maxLen; omega) rfl
theorem byt_cut {x : World} {a : Option Addr} {c : Nat} {L : List UInt8} (n : Nat) (h : Byt x (.slice a L.length c) L) (hn : n ≤ L.length) (h0 : 0 < L.length) : Byt x (.slice a n c) (L.take n) := by
  obtain ⟨r, h1, h2⟩ := h
  exact ⟨r, in_cut n h1 hn h0, h2⟩
theorem byt_form {x : World} {a : Option Addr} {c n : Nat} {L : List UInt8} (h : Byt x (.slice a n c) L) : n = L.length ∧ n ≤ c ∧ (0 < n → ∃ g off, a = some ⟨g, off, none⟩ ∧ g < x.heap.size) := by
  obtain ⟨r, ⟨ad, cap, e, hcap, hh⟩, h2⟩ := h
  cases e
  refine ⟨rfl, hcap, fun h0 => ?_⟩
  rcases hh with ⟨_, e, _⟩ | ⟨g, off, h3, _, h4, _⟩
  · rw [e] at h0; simp at h0
  · exact ⟨g, off, h3, h4⟩
theorem xor_u8 (b t : UInt8) : bits .xor .u8 (b.toNat : Int) (t.toNat : Int) = ((b ^^^ t).toNat : Int) := by
  have hb := b.toNat_lt
  have ht := t.toNat_lt
  have hx : b.toNat ^^^ t.toNat < 2 ^ 8 := Nat.xor_lt_two_pow (by omega) (by omega)
  have e1 : (BitVec.ofInt 8 (b.toNat : Int)).toNat = b.toNat := by rw [BitVec.toNat_ofInt]; omega
  have e2 : (BitVec.ofInt 8 (t.toNat : Int)).toNat = t.toNat := by rw [BitVec.toNat_ofInt]; omega
  show IntKind.u8.wrap ((BitVec.ofInt 8 (b.toNat : Int) ^^^ BitVec.ofInt 8 (t.toNat : Int)).toNat : Int) = _
  rw [BitVec.toNat_xor, e1, e2, IntKind.wrap_u8, UInt8.toNat_xor]
  omega
theorem ofP_len {L : List UInt8} (h : L.length ≠ 512) : ofP L = none := by
  cases hh : ofP L with
  | none => rfl
  | some S =>
    obtain ⟨h1, h2⟩ := (of_iff _ _).1 hh
    have := (fits h1).enc
    rw [h2] at this
    exact absurd this h
theorem code_ok (o : Option Sup) : code o = 0 ∨ code o = 12 := by cases o; exact .inr rfl; exact .inl rfl
/-- A block that is another one is not the superblock's. -/
theorem other_of {S : Sup} (hr : right S = true) {L : List UInt8} (hL : L ≠ enc S) : ¬ (ofP L).getD nilU = S := by
  cases h : ofP L with
  | none =>
    intro e
    have := (fits hr).g0
    rw [← e] at this
    exact absurd this (by simp [nilU])
  | some T =>
    intro e
    obtain ⟨_, h2⟩ := (of_iff _ _).1 h
    exact hL (by rw [← h2]; exact congrArg enc e)
end Go.Proofs.Ytnpohjbhfoebcaa
