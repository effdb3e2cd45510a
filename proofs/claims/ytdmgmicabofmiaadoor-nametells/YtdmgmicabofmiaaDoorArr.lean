/- Arrays of bytes by value: one put into a greater one, two held against one another; nothing here speaks of a program. -/
import Derived.Test.YtdmgmicabofmiaaDoorBe
import Derived.Laws.Tables
import Derived.Laws.StructEq
import Derived.Laws.CopyRow
namespace Go.Proofs.YtdmgmicabofmiaaDoor
set_option linter.unusedVariables false
open Go.RowKit

theorem fold_put : ∀ (vs : List Value) (i off : Nat) (C : Array Value), off + i + vs.length ≤ C.size →
    ((vs.zipIdx i).foldl (fun cs x => cs.setIfInBounds (off + x.2) x.1) C) = (C.toList.take (off + i) ++ vs ++ C.toList.drop (off + i + vs.length)).toArray
  | [], i, off, C, _ => by simp
  | v :: rest, i, off, C, h => by
    have hl : off + i < C.size := by simp at h; omega
    have ih := fold_put rest (i + 1) off (C.setIfInBounds (off + i) v) (by simp at h ⊢; omega)
    rw [List.zipIdx_cons, List.foldl_cons, ih]
    have e := list_seg_step C.toList (off + i) v rest (by simp at h ⊢; omega)
    congr 1
    simpa [Array.toList_setIfInBounds, Nat.add_assoc] using e

theorem fill_put {place : Nat → Option (Nat × Nat)} {C : Array Value} {i off size : Nat} {v : Value} {rest : List (Nat × Value)} (hp : place i = some (off, size)) (hs : v.cells.size = size) (ho : off + size ≤ C.size) :
    Instr.fill place C ((i, v) :: rest) = Instr.fill place (C.toList.take off ++ v.cells.toList ++ C.toList.drop (off + size)).toArray rest := by
  rw [Instr.fill]
  simp only [hp]
  have hcond : (decide (v.cells.size ≠ size) || decide (off + v.cells.size > C.size)) = false := by simp; omega
  rw [if_neg (by simpa using hcond)]
  have e := fold_put v.cells.toList 0 off C (by simp; omega)
  congr 1
  rw [← Array.foldl_toList, Array.toList_zipIdx, e]
  simp [hs]

end Go.Proofs.YtdmgmicabofmiaaDoor
