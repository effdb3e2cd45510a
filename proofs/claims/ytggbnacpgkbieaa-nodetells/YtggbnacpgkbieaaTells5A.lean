/- NodeTells, walked. -/
import Derived.Test.YtggbnacpgkbieaaNtO
import Derived.Test.YtggbnacpgkbieaaNodS
import Derived.Deep.RegionHeld3
namespace Go.Proofs.Ytggbnacpgkbieaa
set_option linter.unusedVariables false
open Go.RowKit

structure TS (w y : World) (us : List (Nat × Nod × Value × Value)) (bs : List (Value × List UInt8)) (ss : List (Nod × Value × Value)) (ad : Option Addr) (n c : Nat) (L : List UInt8) : Prop where
  held : Held w y us bs ss
  arg : ArgB y ad n c L
section
variable {w y z : World} {us : List (Nat × Nod × Value × Value)} {bs : List (Value × List UInt8)} {ss : List (Nod × Value × Value)} {ad : Option Addr} {n c : Nat} {L : List UInt8}
theorem TS.called (h : TS w y us bs ss ad n c L) (b : Below y.heap.size y z) : TS w z us bs ss ad n c L := ⟨h.held.called b, h.arg.below b⟩
theorem TS.drew (h : TS w y us bs ss ad n c L) : TS w y.drew us bs ss ad n c L := h.called ⟨rfl, rfl, rfl, Nat.le_refl _, fun _ _ => rfl⟩
end
theorem boole_same (b : Bool) : (b == b) = true := by cases b <;> rfl
end Go.Proofs.Ytggbnacpgkbieaa
