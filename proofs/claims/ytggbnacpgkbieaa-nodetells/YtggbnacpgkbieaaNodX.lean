/- Masks; bytes behind bytes. -/
import Derived.Test.YtggbnacpgkbieaaArgN
namespace Go.Proofs.Ytggbnacpgkbieaa
set_option linter.unusedVariables false
open Go.RowKit

theorem and_ones (n : Int) (m j : Nat) (hm : (BitVec.ofInt 64 (m : Int)).toNat = 2 ^ j - 1) : (BitVec.ofInt 64 n &&& BitVec.ofInt 64 (m : Int)).toNat = (n % ((2 ^ 64 : Nat) : Int)).toNat % 2 ^ j := by
  rw [BitVec.toNat_and, BitVec.toNat_ofInt, hm, Nat.and_two_pow_sub_one_eq_mod]
theorem and15 (n : Int) : bits .and .i64 n 15 = n % 16 := by
  show IntKind.i64.wrap ((BitVec.ofInt 64 n &&& BitVec.ofInt 64 ((15 : Nat) : Int)).toNat : Nat) = n % 16
  rw [and_ones n 15 4 (by decide), IntKind.wrap_i64]
  omega
theorem and31 (n : Int) : bits .and .i64 n 31 = n % 32 := by
  show IntKind.i64.wrap ((BitVec.ofInt 64 n &&& BitVec.ofInt 64 ((31 : Nat) : Int)).toNat : Nat) = n % 32
  rw [and_ones n 31 5 (by decide), IntKind.wrap_i64]
  omega
theorem and63 (n : Int) : bits .and .i64 n 63 = n % 64 := by
  show IntKind.i64.wrap ((BitVec.ofInt 64 n &&& BitVec.ofInt 64 ((63 : Nat) : Int)).toNat : Nat) = n % 64
  rw [and_ones n 63 6 (by decide), IntKind.wrap_i64]
  omega
theorem and511 (n : Int) : bits .and .i64 n 511 = n % 512 := by
  show IntKind.i64.wrap ((BitVec.ofInt 64 n &&& BitVec.ofInt 64 ((511 : Nat) : Int)).toNat : Nat) = n % 512
  rw [and_ones n 511 9 (by decide), IntKind.wrap_i64]
  omega
theorem and65535 (n : Int) : bits .and .i64 n 65535 = n % 65536 := by
  show IntKind.i64.wrap ((BitVec.ofInt 64 n &&& BitVec.ofInt 64 ((65535 : Nat) : Int)).toNat : Nat) = n % 65536
  rw [and_ones n 65535 16 (by decide), IntKind.wrap_i64]
  omega
theorem append_byt {ops : Array Oper} {rest : List Oper} {o : Oper} {a : Act} {w : World} {Q : Exit → Act → World → Prop} (hgd : o.guard = none) (s x : Operand) (ho : o.op = .call { callee := .builtin .append, args := #[s, x], argTypes := #[26, 26] })
    (base nL n : Nat) (sv : Value) (L : List UInt8) (hs : a.eval s = sv) (hown : w.ownsRow base 5 1 sv nL (bc L)) (xv : Value) (M : List UInt8) (hx : a.eval x = xv) (hM : Byt w xv M) (hn : L.length + M.length = n) (hM0 : 0 < M.length) (hlen : n ≤ 100000) (hb : base ≤ w.heap.size) (w0 : World) (hw0 : Below base w0 w)
    (h : ∀ a' c' w', w'.ownsRow base 5 1 (.slice a' n c') n (bc (L ++ M)) → Below base w0 w' → wpList Try.prog ops Q rest (a.put o.dst (.slice a' n c')) w') : wpList Try.prog ops Q (o :: rest) a w := by
  obtain ⟨i0, hi, hz0, hz1, hz2⟩ := info_parts Try.info_u8
  have e : nL = L.length := by have := hown.1; rw [bc_length] at this; omega
  subst e hn
  obtain ⟨r, ⟨ad, cap, rfl, hcap, hh⟩, hr⟩ := hM
  rcases hh with ⟨_, e, _⟩ | ⟨g, off, rfl, _, hg, hat⟩
  · rw [e] at hM0
    simp at hM0
  · refine wpList_append_own _ hgd s x 26 ho base 5 i0 (.int .u8 0) 1 1 Try.underlying26 hi hz0 hz1 hz2 rfl (by decide) sv L.length (bc L) hs hown ⟨g, off, none⟩ M.length cap (bc M) hx (by rw [bc_length]; omega) (fun j u hu => by rw [add_lit]; exact hat j u hu) (bc_one M) (by unfold maxLen; omega) (by omega) hb ?_
    intro v' w' hown' hgrow _
    rw [← bc_append] at hown'
    obtain ⟨a', c', rfl⟩ := own_form hown'
    exact h a' c' w' hown' (hw0.grown hgrow hb (fun k hk => (hown.lt k hk).1))
theorem byt_one (W : World) (b : UInt8) : Byt (W.alloc (.cells #[.int .u8 (b.toNat : Int)] 5)) (.slice (some ⟨W.heap.size, 0, none⟩) 1 1) [b] := by
  refine ⟨some W.heap.size, ⟨_, 1, rfl, Nat.le_refl _, .inr ⟨W.heap.size, 0, rfl, rfl, by simp, fun j u hu => ?_⟩⟩, fun k hk => by cases hk; simp⟩
  rw [Nat.zero_add, cell_of_row _ _ _ _ _ _ (heap_alloc_new _ _)]
  simpa [bc] using hu
theorem xor_u8 (b t : UInt8) : bits .xor .u8 (b.toNat : Int) (t.toNat : Int) = ((b ^^^ t).toNat : Int) := by
  have hb := b.toNat_lt
  have ht := t.toNat_lt
  have hx : b.toNat ^^^ t.toNat < 2 ^ 8 := Nat.xor_lt_two_pow (by omega) (by omega)
  have e1 : (BitVec.ofInt 8 (b.toNat : Int)).toNat = b.toNat := by rw [BitVec.toNat_ofInt]; omega
  have e2 : (BitVec.ofInt 8 (t.toNat : Int)).toNat = t.toNat := by rw [BitVec.toNat_ofInt]; omega
  show IntKind.u8.wrap ((BitVec.ofInt 8 (b.toNat : Int) ^^^ BitVec.ofInt 8 (t.toNat : Int)).toNat : Int) = _
  rw [BitVec.toNat_xor, e1, e2, IntKind.wrap_u8, UInt8.toNat_xor]
  omega
theorem xor_ne (b t : UInt8) (h : t ≠ 0) : b ^^^ t ≠ b := fun e => h (by
  have := congrArg (fun z => b ^^^ z) e
  simpa [← UInt8.xor_assoc] using this)
end Go.Proofs.Ytggbnacpgkbieaa
