/-
  DERIVED. GIVEN WITH THE SEED: THE CARDS: each row of YtdmgmicabofmiaaDoorRows.lean that lists a variable, with what it lists TIED to the program's text (the seventh form; the later family's looks); each row that meets fmt, with fmt's text TOLD by the authors' own Lean function (tested against real Go, not proved from fmt's source: count such statements apart). THE CARD IS WHAT COUNTS. Prove the row's statement (the work); the ties are given (YtdmgmicabofmiaaDoorTie.lean); close each card by the builder's one call (the guide's Derived/Test/ToyasCard.lean, 'card_holds'). Laid BY PROGRAM, IN A SANDBOX (cutbox-door.mjs). By AI agents, Wed Nov 11 2026. No macro, syntax, notation, axiom, sorry.
-/
import Derived.Test.YtdmgmicabofmiaaDoorRows
import GoSem.ClaimSeven
namespace Go.Proofs.YtdmgmicabofmiaaDoor
namespace Rows

/-- THE TIED CARD OF 'wainscotlaw10.NameTells'. -/
def nameTellsCard : Claim7 := { stood := { row := nameTellsRow, standIns := [], harness := (true, "95b031039fe6f0952dce5928dab19859a554aad72cd14a5f1461bc1cdfefa687"), looks := false }, kinds := [], alts := [], laidByText := true, laidKinds := [.data, .pinned], laidTests := true, laidLooks := .later }
def NameTellsCardSaid : Prop := Claim7.holds Tryd.pinned (.plain (OpenSpec.ofChange nameTellsSpec)) nameTellsCard

/-- THE TIED CARD OF 'wainscotlaw10.NameBack'. -/
def nameBackCard : Claim7 := { stood := { row := nameBackRow, standIns := [], harness := (true, "95b031039fe6f0952dce5928dab19859a554aad72cd14a5f1461bc1cdfefa687"), looks := false }, kinds := [], alts := [], laidByText := true, laidKinds := [.data, .pinned], laidTests := true, laidLooks := .later }
def NameBackCardSaid : Prop := Claim7.holds Tryd.pinned (.plain (OpenSpec.ofChange nameBackSpec)) nameBackCard

/-- THE TIED CARD OF 'wainscotlaw10.NameBelow'. -/
def nameBelowCard : Claim7 := { stood := { row := nameBelowRow, standIns := [], harness := (true, "95b031039fe6f0952dce5928dab19859a554aad72cd14a5f1461bc1cdfefa687"), looks := false }, kinds := [], alts := [], laidByText := true, laidKinds := [.data, .pinned], laidTests := true, laidLooks := .later }
def NameBelowCardSaid : Prop := Claim7.holds Tryd.pinned (.plain (OpenSpec.ofChange nameBelowSpec)) nameBelowCard

/-- THE TIED CARD OF 'wainscotlaw10.NameShort'. -/
def nameShortCard : Claim7 := { stood := { row := nameShortRow, standIns := [], harness := (true, "95b031039fe6f0952dce5928dab19859a554aad72cd14a5f1461bc1cdfefa687"), looks := false }, kinds := [], alts := [], laidByText := true, laidKinds := [.data, .pinned], laidTests := true, laidLooks := .later }
def NameShortCardSaid : Prop := Claim7.holds Tryd.pinned (.plain (OpenSpec.ofChange nameShortSpec)) nameShortCard

/-- THE TIED CARD OF 'wainscotlaw10.NameChars'. -/
def nameCharsCard : Claim7 := { stood := { row := nameCharsRow, standIns := [], harness := (true, "95b031039fe6f0952dce5928dab19859a554aad72cd14a5f1461bc1cdfefa687"), looks := false }, kinds := [], alts := [], laidByText := true, laidKinds := [.data, .pinned], laidTests := true, laidLooks := .later }
def NameCharsCardSaid : Prop := Claim7.holds Tryd.pinned (.plain (OpenSpec.ofChange nameCharsSpec)) nameCharsCard

/-- THE TIED CARD OF 'wainscotlaw10.NamePaths'. -/
def namePathsCard : Claim7 := { stood := { row := namePathsRow, standIns := [], harness := (true, "95b031039fe6f0952dce5928dab19859a554aad72cd14a5f1461bc1cdfefa687"), looks := false }, kinds := [], alts := [], laidByText := true, laidKinds := [.data, .pinned], laidTests := true, laidLooks := .later }
def NamePathsCardSaid : Prop := Claim7.holds Tryd.pinned (.plain (OpenSpec.ofChange namePathsSpec)) namePathsCard

/-- THE SECOND FORM's CARD OF 'wainscotlaw10.NameTells'. -/
def nameTellsUptoCard : Claim7 := { stood := { row := nameTellsUptoRow, standIns := [], harness := (true, "95b031039fe6f0952dce5928dab19859a554aad72cd14a5f1461bc1cdfefa687"), looks := false }, kinds := [], alts := [], laidByText := true, laidKinds := [.data, .pinned], laidTests := true, laidLooks := .later }
def NameTellsUptoCardSaid : Prop := Claim7.holds Tryd.pinned (.plain (OpenSpec.upto nameTellsSpec)) nameTellsUptoCard

/-- THE SECOND FORM's CARD OF 'wainscotlaw10.NameBack'. -/
def nameBackUptoCard : Claim7 := { stood := { row := nameBackUptoRow, standIns := [], harness := (true, "95b031039fe6f0952dce5928dab19859a554aad72cd14a5f1461bc1cdfefa687"), looks := false }, kinds := [], alts := [], laidByText := true, laidKinds := [.data, .pinned], laidTests := true, laidLooks := .later }
def NameBackUptoCardSaid : Prop := Claim7.holds Tryd.pinned (.plain (OpenSpec.upto nameBackSpec)) nameBackUptoCard

/-- THE SECOND FORM's CARD OF 'wainscotlaw10.NameBelow'. -/
def nameBelowUptoCard : Claim7 := { stood := { row := nameBelowUptoRow, standIns := [], harness := (true, "95b031039fe6f0952dce5928dab19859a554aad72cd14a5f1461bc1cdfefa687"), looks := false }, kinds := [], alts := [], laidByText := true, laidKinds := [.data, .pinned], laidTests := true, laidLooks := .later }
def NameBelowUptoCardSaid : Prop := Claim7.holds Tryd.pinned (.plain (OpenSpec.upto nameBelowSpec)) nameBelowUptoCard

/-- THE SECOND FORM's CARD OF 'wainscotlaw10.NameShort'. -/
def nameShortUptoCard : Claim7 := { stood := { row := nameShortUptoRow, standIns := [], harness := (true, "95b031039fe6f0952dce5928dab19859a554aad72cd14a5f1461bc1cdfefa687"), looks := false }, kinds := [], alts := [], laidByText := true, laidKinds := [.data, .pinned], laidTests := true, laidLooks := .later }
def NameShortUptoCardSaid : Prop := Claim7.holds Tryd.pinned (.plain (OpenSpec.upto nameShortSpec)) nameShortUptoCard

/-- THE SECOND FORM's CARD OF 'wainscotlaw10.NameChars'. -/
def nameCharsUptoCard : Claim7 := { stood := { row := nameCharsUptoRow, standIns := [], harness := (true, "95b031039fe6f0952dce5928dab19859a554aad72cd14a5f1461bc1cdfefa687"), looks := false }, kinds := [], alts := [], laidByText := true, laidKinds := [.data, .pinned], laidTests := true, laidLooks := .later }
def NameCharsUptoCardSaid : Prop := Claim7.holds Tryd.pinned (.plain (OpenSpec.upto nameCharsSpec)) nameCharsUptoCard

/-- THE SECOND FORM's CARD OF 'wainscotlaw10.NamePaths'. -/
def namePathsUptoCard : Claim7 := { stood := { row := namePathsUptoRow, standIns := [], harness := (true, "95b031039fe6f0952dce5928dab19859a554aad72cd14a5f1461bc1cdfefa687"), looks := false }, kinds := [], alts := [], laidByText := true, laidKinds := [.data, .pinned], laidTests := true, laidLooks := .later }
def NamePathsUptoCardSaid : Prop := Claim7.holds Tryd.pinned (.plain (OpenSpec.upto namePathsSpec)) namePathsUptoCard
end Rows
end Go.Proofs.YtdmgmicabofmiaaDoor
