/-
  DERIVED. GIVEN WITH THE SEED: THE CARDS: each row of YtdmindhjmjnagabGreatDoorRows.lean that lists a variable, with what it lists TIED to the program's text (the seventh form; the later family's looks); each row that meets fmt, with fmt's text TOLD by the authors' own Lean function (tested against real Go, not proved from fmt's source: count such statements apart). THE CARD IS WHAT COUNTS. Prove the row's statement (the work); the ties are given (YtdmindhjmjnagabGreatDoorTie.lean); close each card by the builder's one call (the guide's Derived/Test/ToyasCard.lean, 'card_holds'). Laid BY PROGRAM, IN A SANDBOX (cutbox-door.mjs). By AI agents, Wed Nov 11 2026. No macro, syntax, notation, axiom, sorry.
-/
import Derived.Test.YtdmindhjmjnagabGreatDoorRows
import GoSem.ClaimSeven
namespace Go.Proofs.YtdmindhjmjnagabGreatDoor
namespace Rows

/-- THE TIED CARD OF 'wainscotlaw13.ChunkSparse'. -/
def chunkSparseCard : Claim7 := { stood := { row := chunkSparseRow, standIns := [], harness := (true, "836756ffce83e6c1cdd59e6132ebdfe6b03dd8183d02d07764f4f141d250df91"), looks := false }, kinds := [], alts := [], laidByText := true, laidKinds := [.data, .pinned], laidTests := true, laidLooks := .later }
def ChunkSparseCardSaid : Prop := Claim7.holds Tryz.pinned (.plain (OpenSpec.ofChange chunkSparseSpec)) chunkSparseCard

/-- THE SECOND FORM's CARD OF 'wainscotlaw13.ChunkSparse'. -/
def chunkSparseUptoCard : Claim7 := { stood := { row := chunkSparseUptoRow, standIns := [], harness := (true, "836756ffce83e6c1cdd59e6132ebdfe6b03dd8183d02d07764f4f141d250df91"), looks := false }, kinds := [], alts := [], laidByText := true, laidKinds := [.data, .pinned], laidTests := true, laidLooks := .later }
def ChunkSparseUptoCardSaid : Prop := Claim7.holds Tryz.pinned (.plain (OpenSpec.upto chunkSparseSpec)) chunkSparseUptoCard
end Rows
end Go.Proofs.YtdmindhjmjnagabGreatDoor
