/-
  DERIVED. GIVEN WITH THE SEED: THE CARDS: each row of YtdmgmicabofmiabDoorRows.lean that lists a variable, with what it lists TIED to the program's text (the seventh form; the later family's looks); each row that meets fmt, with fmt's text TOLD by the authors' own Lean function (tested against real Go, not proved from fmt's source: count such statements apart). THE CARD IS WHAT COUNTS. Prove the row's statement (the work); the ties are given (YtdmgmicabofmiabDoorTie.lean); close each card by the builder's one call (the guide's Derived/Test/ToyasCard.lean, 'card_holds'). Laid BY PROGRAM, IN A SANDBOX (cutbox-door.mjs). By AI agents, Wed Nov 11 2026. No macro, syntax, notation, axiom, sorry.
-/
import Derived.Test.YtdmgmicabofmiabDoorRows
import GoSem.ClaimSeven
namespace Go.Proofs.YtdmgmicabofmiabDoor
namespace Rows

/-- THE TIED CARD OF 'wainscotlaw10.NameWidths'. -/
def nameWidthsCard : Claim7 := { stood := { row := nameWidthsRow, standIns := [], harness := (true, "d45d2d7821e0888d4704b0c99eee9f7b09bb706c576d8fe281358a4d3c4d8138"), looks := false }, kinds := [], alts := [], laidByText := true, laidKinds := [.data, .pinned], laidTests := true, laidLooks := .later }
def NameWidthsCardSaid : Prop := Claim7.holds Tryd.pinned (.plain (OpenSpec.ofChange nameWidthsSpec)) nameWidthsCard

/-- THE SECOND FORM's CARD OF 'wainscotlaw10.NameWidths'. -/
def nameWidthsUptoCard : Claim7 := { stood := { row := nameWidthsUptoRow, standIns := [], harness := (true, "d45d2d7821e0888d4704b0c99eee9f7b09bb706c576d8fe281358a4d3c4d8138"), looks := false }, kinds := [], alts := [], laidByText := true, laidKinds := [.data, .pinned], laidTests := true, laidLooks := .later }
def NameWidthsUptoCardSaid : Prop := Claim7.holds Tryd.pinned (.plain (OpenSpec.upto nameWidthsSpec)) nameWidthsUptoCard
end Rows
end Go.Proofs.YtdmgmicabofmiabDoor
