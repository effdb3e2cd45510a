/- What each call on a pack.Reader comes to: the state of a reader as plain data. -/
import Derived.Test.YtmemhckkfhlnmaaPackD
import Derived.Laws.BitsAllLaws
import Derived.Laws.BytesArg
namespace Go.Proofs.Ytmemhckkfhlnmaa
set_option linter.unusedVariables false
open Go.RowKit

/-- A reader as plain data: the bytes that are left, wrong. -/
structure RS where
  l : List UInt8
  bad : Bool

/-- A slice of bytes: they are L, and lie in the row r. -/
def BytesIn (w : World) (sv : Value) (L : List UInt8) (r : Option Nat) : Prop :=
  ∃ ad cap, sv = .slice ad L.length cap ∧ L.length ≤ cap ∧
    ((ad = none ∧ L = [] ∧ cap = 0) ∨ ∃ g off, ad = some ⟨g, off, none⟩ ∧ r = some g ∧ g < w.heap.size ∧ ∀ j u, (bc L)[j]? = some u → w.cell? ⟨g, off + j, none⟩ = some u)
theorem BytesIn.kept {w w' : World} {sv : Value} {L : List UInt8} {r : Option Nat} (h : BytesIn w sv L r) (hr : ∀ k, r = some k → w'.heap[k]? = w.heap[k]?) : BytesIn w' sv L r := by
  obtain ⟨ad, cap, h1, h2, h3⟩ := h
  refine ⟨ad, cap, h1, h2, ?_⟩
  rcases h3 with h3 | ⟨g, off, h4, h5, h6, h7⟩
  · exact .inl h3
  · have hb := hr g h5
    refine .inr ⟨g, off, h4, h5, ?_, fun j u hu => (World.cell?_of_block (w := w) hb).trans (h7 j u hu)⟩
    have h8 : w'.heap[g]? = some w.heap[g] := hb.trans (by simp [h6])
    exact (Array.getElem?_eq_some_iff.1 h8).1
def RS.got (s : RS) (n : Int) : List UInt8 := if s.bad = true ∨ n < 0 ∨ (s.l.length : Int) < n then [] else s.l.take n.toNat
def RS.take (s : RS) (n : Int) : RS := if s.bad = true ∨ n < 0 ∨ (s.l.length : Int) < n then ⟨[], true⟩ else ⟨s.l.drop n.toNat, false⟩
theorem RS.got_length (s : RS) (n : Int) : ((s.got n).length : Int) ≤ n ∨ (s.got n).length = 0 := by
  unfold RS.got
  split
  · exact .inr rfl
  · left
    simp
    omega
theorem bc_at (l : List UInt8) (j : Nat) (h : j < l.length) : (bc l)[j]? = some (.int .u8 (l[j].toNat : Int)) := by simp [bc, h]
theorem add_lit (g off n : Nat) : (⟨g, off, none⟩ : Addr).add n = ⟨g, off + n, none⟩ := by unfold Addr.add; split <;> simp_all
theorem bc_get {l : List UInt8} {j : Nat} {u : Value} (h : (bc l)[j]? = some u) : j < l.length := by
  have := (List.getElem?_eq_some_iff.1 h).1
  rwa [bc_length] at this
theorem bc_take {l : List UInt8} {n j : Nat} {u : Value} (h : (bc (l.take n))[j]? = some u) : (bc l)[j]? = some u := by
  have hj := bc_get h
  rw [List.length_take] at hj
  rw [bc_at _ _ (by rw [List.length_take]; omega)] at h
  rw [bc_at _ _ (by omega)]
  simpa using h
theorem bc_drop {l : List UInt8} {n j : Nat} {u : Value} (h : (bc (l.drop n))[j]? = some u) : (bc l)[n + j]? = some u := by
  have hj := bc_get h
  rw [List.length_drop] at hj
  rw [bc_at _ _ (by rw [List.length_drop]; omega)] at h
  rw [bc_at _ _ (by omega)]
  simpa using h

/-- The number that bytes are, the highest first. -/
def num (l : List UInt8) : Nat := l.foldl (fun a b => 256 * a + b.toNat) 0
theorem num_snoc (l : List UInt8) (b : UInt8) : num (l ++ [b]) = 256 * num l + b.toNat := by simp [num]
theorem foldl_lt : ∀ (l : List UInt8) (a : Nat), l.foldl (fun a b => 256 * a + b.toNat) a < (a + 1) * 256 ^ l.length
  | [], a => by simp
  | b :: l, a => by
    have ih := foldl_lt l (256 * a + b.toNat)
    have hb := b.toNat_lt
    have h2 : (256 * a + b.toNat + 1) * 256 ^ l.length ≤ (256 * (a + 1)) * 256 ^ l.length := Nat.mul_le_mul_right _ (by omega)
    rw [List.foldl_cons, List.length_cons, Nat.pow_succ]
    have h3 : (a + 1) * (256 ^ l.length * 256) = (256 * (a + 1)) * 256 ^ l.length := by rw [Nat.mul_comm (256 ^ l.length) 256, ← Nat.mul_assoc, Nat.mul_comm (a + 1) 256]
    omega
theorem num_lt (l : List UInt8) : num l < 256 ^ l.length := by
  have := foldl_lt l 0
  simpa [num] using this
theorem num_small {l : List UInt8} (h : l.length ≤ 8) : num l < 18446744073709551616 := by
  have h1 := num_lt l
  have h2 : 256 ^ l.length ≤ 256 ^ 8 := Nat.pow_le_pow_right (by omega) h
  have h3 : (256 : Nat) ^ 8 = 18446744073709551616 := by decide
  omega
theorem num_small7 {l : List UInt8} (h : l.length ≤ 7) : num l < 72057594037927936 := by
  have h1 := num_lt l
  have h2 : 256 ^ l.length ≤ 256 ^ 7 := Nat.pow_le_pow_right (by omega) h
  have h3 : (256 : Nat) ^ 7 = 72057594037927936 := by decide
  omega
theorem take_snoc8 (l : List UInt8) (k : Nat) (h : k < l.length) : l.take (k + 1) = l.take k ++ [l[k]] := List.take_succ_eq_append_getElem h

theorem or_byte (a b : Nat) (ha : a < 72057594037927936) (hb : b < 256) : bits .or .u64 ((a : Int) * 256) (b : Int) = ((256 * a + b : Nat) : Int) := by
  have e : ((a : Int) * 256) = ((256 * a : Nat) : Int) := by omega
  rw [e, u64_or_nat (256 * a) b (by omega) (by omega)]
  have := Nat.two_pow_add_eq_or_of_lt (i := 8) (b := b) (by omega) a
  rw [show (2 : Nat) ^ 8 = 256 from rfl] at this
  rw [this]
end Go.Proofs.Ytmemhckkfhlnmaa
