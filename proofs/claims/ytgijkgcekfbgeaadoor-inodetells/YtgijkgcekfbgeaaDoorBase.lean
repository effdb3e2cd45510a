/- Words and plain lemmas for the proofs over package pack: bytes as cells, what a call may touch, a writer and a reader in memory; nothing here speaks of a program. -/
import Derived.WalkKit
import Derived.WalkSpells
import Derived.WalkLawsBesides
import Derived.Lib.AppendStr
import Derived.Deep.AppendLies
namespace Go.Proofs.YtgijkgcekfbgeaaDoor
set_option linter.unusedVariables false
open Go.RowKit

/-- Bytes as cells. -/
def bc (l : List UInt8) : List Value := l.map fun b => Value.int .u8 b.toNat
theorem bc_nil : bc [] = [] := rfl
theorem bc_length (l : List UInt8) : (bc l).length = l.length := by simp [bc]
theorem bc_append (a b : List UInt8) : bc (a ++ b) = bc a ++ bc b := by simp [bc]
theorem bc_one (l : List UInt8) : ∀ u ∈ bc l, u.oneCell' = true := by
  intro u hu
  simp only [bc, List.mem_map] at hu
  obtain ⟨b, _, rfl⟩ := hu
  rfl

/-- Of the blocks that were there all but p, and but the row r, are as they were. -/
structure Touch (p : Nat) (r : Option Nat) (w w' : World) : Prop where
  os : w'.os = w.os
  tape : w'.tape = w.tape
  output : w'.output = w.output
  size : w.heap.size ≤ w'.heap.size
  block : ∀ k, k < w.heap.size → k ≠ p → r ≠ some k → w'.heap[k]? = w.heap[k]?

theorem Touch.refl (p : Nat) (r : Option Nat) (w : World) : Touch p r w w := ⟨rfl, rfl, rfl, Nat.le_refl _, fun _ _ _ _ => rfl⟩

/-- The row is the old one, or one made since there were n blocks, or none. -/
def Near (r r' : Option Nat) (n : Nat) : Prop := ∀ k, r' = some k → r = some k ∨ n ≤ k
theorem Near.refl (r : Option Nat) (n : Nat) : Near r r n := fun _ h => .inl h
theorem Near.none (r : Option Nat) (n : Nat) : Near r none n := fun _ h => by cases h
theorem Near.trans {r r' r'' : Option Nat} {n m : Nat} (h : Near r r' n) (k : Near r' r'' m) (hnm : n ≤ m) : Near r r'' n := fun i hi => by
  rcases k i hi with hh | hh
  · exact h i hh
  · exact .inr (by omega)

theorem Touch.trans {p : Nat} {r r' : Option Nat} {a b c : World} (h : Touch p r a b) (k : Touch p r' b c) (hn : Near r r' a.heap.size) : Touch p r a c :=
  ⟨k.os.trans h.os, k.tape.trans h.tape, k.output.trans h.output, Nat.le_trans h.size k.size, fun i hi hp hr =>
    (k.block i (by have := h.size; omega) hp (fun e => by rcases hn i e with hh | hh; exact hr hh; omega)).trans (h.block i hi hp hr)⟩

theorem Touch.below {p : Nat} {r : Option Nat} {w w' : World} {B : Nat} (h : Touch p r w w') (hB : B ≤ w.heap.size) (hp : B ≤ p) (hr : ∀ k, r = some k → B ≤ k) : Below B w w' :=
  ⟨h.os, h.tape, h.output, h.size, fun k hk => h.block k (by omega) (by omega) (fun e => by have := hr k e; omega)⟩

theorem Touch.drewN {p : Nat} {r : Option Nat} {w w' : World} (h : Touch p r w w') (n : Nat) : Touch p r w (w'.drewN n) := ⟨h.os, h.tape, h.output, h.size, h.block⟩
theorem Touch.drew {p : Nat} {r : Option Nat} {w w' : World} (h : Touch p r w w') : Touch p r w w'.drew := ⟨h.os, h.tape, h.output, h.size, h.block⟩

theorem Touch.setCell {p : Nat} {r : Option Nat} {w w' : World} (h : Touch p r w w') (o : Nat) (u : Value) : Touch p r w (w'.setCell ⟨p, o, none⟩ u) :=
  ⟨h.os, h.tape, h.output, by have := h.size; simpa [World.setCell] using this, fun k hk hp hr => by
    rw [Below.heap_setCell _ _ _ _ (by simpa using hp)]; exact h.block k hk hp hr⟩

theorem Touch.alloc {p : Nat} {r : Option Nat} {w w' : World} (h : Touch p r w w') (o : Obj) : Touch p r w (w'.alloc o) :=
  ⟨h.os, h.tape, h.output, by have := h.size; simp; omega, fun k hk hp hr => by
    rw [Below.heap_alloc _ _ _ (by have := h.size; omega)]; exact h.block k hk hp hr⟩

theorem Touch.grown {p : Nat} {r : Option Nat} {w w' w'' : World} (h : Touch p r w w') (g : w'.grownBy w'' r) : Touch p r w w'' :=
  ⟨g.os.trans h.os, g.tape.trans h.tape, g.output.trans h.output, Nat.le_trans h.size g.size, fun k hk hp hr =>
    (g.block k (by have := h.size; omega) (fun e => hr e.symm)).trans (h.block k hk hp hr)⟩

theorem below_drewN {B : Nat} {a w : World} (h : Below B a w) (n : Nat) : Below B a (w.drewN n) := h.trans ⟨rfl, rfl, rfl, Nat.le_refl _, fun _ _ => rfl⟩
theorem ownsRow_drewN {w : World} {base : Nat} {e : TypeId} {size : Nat} {v : Value} {n : Nat} {xs : List Value} (h : w.ownsRow base e size v n xs) (k : Nat) : (w.drewN k).ownsRow base e size v n xs := h

/-! Three cells, two cells: a struct that lies alone in its block. -/
theorem cells3 {w : World} {b : Nat} {x y z : Value} {t : TypeId} (h : w.heap[b]? = some (.cells #[x, y, z] t (0, 0))) :
    w.cell? ⟨b, 0, none⟩ = some x ∧ w.cell? ⟨b, 1, none⟩ = some y ∧ w.cell? ⟨b, 2, none⟩ = some z := by
  refine ⟨?_, ?_, ?_⟩ <;> simp [World.cell?, h]
theorem free3 {w : World} {b : Nat} {x y z : Value} {t : TypeId} (h : w.heap[b]? = some (.cells #[x, y, z] t (0, 0))) :
    w.frozen? ⟨b, 0, none⟩ = false ∧ w.frozen? ⟨b, 1, none⟩ = false ∧ w.frozen? ⟨b, 2, none⟩ = false := by
  refine ⟨?_, ?_, ?_⟩ <;> simp [World.frozen?, h]
theorem cells2 {w : World} {b : Nat} {x y : Value} {t : TypeId} (h : w.heap[b]? = some (.cells #[x, y] t (0, 0))) :
    w.cell? ⟨b, 0, none⟩ = some x ∧ w.cell? ⟨b, 1, none⟩ = some y := by
  refine ⟨?_, ?_⟩ <;> simp [World.cell?, h]
theorem free2 {w : World} {b : Nat} {x y : Value} {t : TypeId} (h : w.heap[b]? = some (.cells #[x, y] t (0, 0))) :
    w.frozen? ⟨b, 0, none⟩ = false ∧ w.frozen? ⟨b, 1, none⟩ = false := by
  refine ⟨?_, ?_⟩ <;> simp [World.frozen?, h]
theorem set3 {w : World} {b : Nat} {x y z u : Value} {t : TypeId} (h : w.heap[b]? = some (.cells #[x, y, z] t (0, 0))) :
    (w.setCell ⟨b, 0, none⟩ u).heap[b]? = some (.cells #[u, y, z] t (0, 0)) ∧ (w.setCell ⟨b, 1, none⟩ u).heap[b]? = some (.cells #[x, u, z] t (0, 0)) ∧ (w.setCell ⟨b, 2, none⟩ u).heap[b]? = some (.cells #[x, y, u] t (0, 0)) := by
  refine ⟨?_, ?_, ?_⟩ <;> simp [World.setCell, Array.getElem?_modify, h]
theorem set2 {w : World} {b : Nat} {x y u : Value} {t : TypeId} (h : w.heap[b]? = some (.cells #[x, y] t (0, 0))) :
    (w.setCell ⟨b, 0, none⟩ u).heap[b]? = some (.cells #[u, y] t (0, 0)) ∧ (w.setCell ⟨b, 1, none⟩ u).heap[b]? = some (.cells #[x, u] t (0, 0)) := by
  refine ⟨?_, ?_⟩ <;> simp [World.setCell, Array.getElem?_modify, h]

end Go.Proofs.YtgijkgcekfbgeaaDoor
