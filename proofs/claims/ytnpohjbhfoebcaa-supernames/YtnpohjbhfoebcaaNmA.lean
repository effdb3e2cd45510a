/- SuperNames: the names that came in, the snapshots that are made of them, and when they are right: plain mathematics. -/
import Derived.Test.YtnpohjbhfoebcaaSupA
namespace Go.Proofs.Ytnpohjbhfoebcaa
set_option linter.unusedVariables false
open Go.RowKit

/-- A slice of strings that came in. -/
def StrsIn (w : World) (a : Option Addr) (len : Nat) (ss : Nat → ByteArray) : Prop :=
  ∀ i, i < len → ∃ b off, a = some ⟨b, off, none⟩ ∧ b < w.heap.size ∧ w.cell? ⟨b, off + i, none⟩ = some (.string (ss i)) ∧ (ss i).size ≤ maxLen
def mS (ss : Nat → ByteArray) (k : Nat) : Snp := ⟨ss k, 0, ((k % 4 : Nat) : Int)⟩
def nms (ss : Nat → ByteArray) : Nat → List Snp
  | 0 => []
  | k + 1 => nms ss k ++ [mS ss k]
theorem nms_length (ss : Nat → ByteArray) : ∀ k, (nms ss k).length = k
  | 0 => rfl
  | k + 1 => by simp [nms, nms_length ss k]
/-- The name ahead. -/
def prevN (ss : Nat → ByteArray) : Nat → List UInt8
  | 0 => []
  | k + 1 => (ss k).toList
def okN (n : Nat) (ss : Nat → ByteArray) : Nat → Bool
  | 0 => decide (n ≤ 8)
  | k + 1 => okN n ss k && decide (1 ≤ (ss k).size) && decide ((ss k).size ≤ 18) && (decide (k = 0) || Op.bytesLess (ss (k - 1)).toList (ss k).toList)
def lastOf (last : List UInt8) : List Snp → List UInt8
  | [] => last
  | s :: l => lastOf s.n.toList l
theorem okFrom_snoc (c : Int) (s : Snp) : ∀ (l : List Snp) (last : List UInt8), okFrom last c (l ++ [s]) = (okFrom last c l && okFrom (lastOf last l) c [s])
  | [], last => by simp [okFrom, lastOf]
  | t :: l, last => by
    rw [List.cons_append]
    simp only [okFrom, okFrom_snoc c s l, lastOf, Bool.and_assoc]
theorem lastOf_snoc (s : Snp) : ∀ (l : List Snp) (last : List UInt8), lastOf last (l ++ [s]) = s.n.toList
  | [], _ => rfl
  | _ :: l, _ => by rw [List.cons_append, lastOf, lastOf_snoc s l]
theorem last_nms (ss : Nat → ByteArray) : ∀ k, lastOf [] (nms ss k) = prevN ss k
  | 0 => rfl
  | k + 1 => by rw [nms, lastOf_snoc]; rfl
theorem less_size {x : List UInt8} {t : ByteArray} (h : Op.bytesLess x t.toList = true) : 1 ≤ t.size := by
  have e : t.toList.length = t.size := by rw [ByteArray.toList_eq]; rfl
  cases hl : t.toList with
  | nil => rw [hl] at h; cases x <;> simp [Op.bytesLess] at h
  | cons a b => rw [hl] at e; simp at e; omega
theorem less_nil (t : ByteArray) : Op.bytesLess [] t.toList = decide (1 ≤ t.size) := by
  have e : t.toList.length = t.size := by rw [ByteArray.toList_eq]; rfl
  cases hl : t.toList with
  | nil => rw [hl] at e; simp at e; rw [← e]; rfl
  | cons a b => rw [hl] at e; simp at e; rw [decide_eq_true (by omega)]; rfl
theorem names_step (ss : Nat → ByteArray) (k : Nat) : okFrom (prevN ss k) 3 [mS ss k] = (decide (1 ≤ (ss k).size) && (decide ((ss k).size ≤ 18) && (decide (k = 0) || Op.bytesLess (ss (k - 1)).toList (ss k).toList))) := by
  have h1 : decide ((0 : Int) ≤ ((k % 4 : Nat) : Int)) = true := decide_eq_true (by omega)
  have h2 : decide (((k % 4 : Nat) : Int) ≤ (3 : Int)) = true := decide_eq_true (by omega)
  have h3 : okRoot 0 = true := rfl
  have e : okFrom (prevN ss k) 3 [mS ss k] = (decide ((ss k).size ≤ 18) && Op.bytesLess (prevN ss k) (ss k).toList && okRoot 0 && decide ((0 : Int) ≤ ((k % 4 : Nat) : Int)) && decide (((k % 4 : Nat) : Int) ≤ (3 : Int)) && true) := rfl
  rw [e, h1, h2, h3, Bool.and_true, Bool.and_true, Bool.and_true, Bool.and_true]
  clear e h1 h2 h3
  cases k with
  | zero =>
    rw [prevN, less_nil, Bool.and_comm]
    simp
  | succ k =>
    rw [prevN, Nat.add_sub_cancel]
    cases hb : Op.bytesLess (ss k).toList (ss (k + 1)).toList with
    | false => simp
    | true => simp [less_size hb]
theorem names_ok (n : Nat) (ss : Nat → ByteArray) : ∀ k, (decide (n ≤ 8) && okFrom [] 3 (nms ss k)) = okN n ss k
  | 0 => by simp [nms, okFrom, okN]
  | k + 1 => by rw [nms, okFrom_snoc, last_nms, names_step, ← Bool.and_assoc, names_ok n ss k, okN]; simp only [Bool.and_assoc]
theorem right_names (n : Nat) (ss : Nat → ByteArray) : right ⟨7, 9, 5, 3, nms ss (min n 10)⟩ = okN n ss (min n 10) := by
  rw [← names_ok]
  have e : right ⟨7, 9, 5, 3, nms ss (min n 10)⟩ = (decide ((nms ss (min n 10)).length ≤ 8) && okFrom [] 3 (nms ss (min n 10))) := by
    have h : okRoot 9 = true := by decide
    simp [right, h]
  rw [e, nms_length]
  congr 1
  exact decide_eq_decide.2 (by omega)
end Go.Proofs.Ytnpohjbhfoebcaa
