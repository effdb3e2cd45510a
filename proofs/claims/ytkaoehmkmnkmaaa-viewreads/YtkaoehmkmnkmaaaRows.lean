/-
  No cell of these rows narrows 'for every input' (looked for: loops, veiled, ifaces, maps, wideKeys, modest, calm, conditions, laid).
  DERIVED. THE GIVEN ROWS OF THIS SEAT. 3 by the template 'for every input the law returns true; each argument reads behind the call as it read before'; 0 by the template 'total and deterministic' (their statements: YtkaoehmkmnkmaaaTotals.lean).
  GIVEN WITH THE SEED: the statements are not yours to turn. If you find one false, say at which input.
  Laid BY PROGRAM, IN A SANDBOX (cutbox-rows.mjs): the forced cells as the released guide's own fill.sh prints them over the translation 11f54b93253c10ef… (all of the seat's roots in one cut). By AI agents, Wed Nov 11 2026. No macro, syntax, notation, axiom, sorry.
-/
import Derived.Test.YtkaoehmkmnkmaaaChecked
import GoSem.Claim
import GoSem.ClaimJoined
import GoSem.ClaimMapViews
import Derived.JoinedTies
import Derived.KernelRfl
namespace Go.Proofs.Ytkaoehmkmnkmaaa
/- THE CELL 'sum', in the pinned program and in every row, IS THE sha256 OF THE DUMP (.gsa) THAT YtkaoehmkmnkmaaaProg.lean LOADS. Nothing in Lean hashes anything: it is a label: what it is worth is what the hold of that sum in a sandbox is worth. -/
noncomputable def Try.pinned : Pinned := { name := "ytkaoehmkmnkmaaa", sum := "11f54b93253c10efc8e8528a0fed66751bc308f6c8081f6e270dac3e292327b3", checked := Try.checked }
namespace Rows
def none {H : Type} : Left H := { results := [], args := [] }

/-- 'wainscotlaw12.ViewErrors': WHATEVER THE INPUT: true; the input reads as it did. -/
def viewErrorsSpec : ChangeSpec := { name := "viewErrors", fn := fun _ => fun
  | [d1, d2, d3, d4] => { results := [.lit (.bool true)], args := [d1, d2, d3, d4] }
  | _ => none }
def viewErrorsRow : OpenClaim := { program := "ytkaoehmkmnkmaaa", sum := "11f54b93253c10efc8e8528a0fed66751bc308f6c8081f6e270dac3e292327b3", func := "wainscot/wainscotlaw12.ViewErrors", spec := "viewErrors", inPlace := ["internal/bytealg.Compare"], unfollowed := true, recurses := true, plainKeys := false, apart := false }
def ViewErrorsSaid : Prop := viewErrorsRow.holds Try.pinned (OpenSpec.ofChange viewErrorsSpec)

/-- ITS FALSE NEIGHBOUR: 'it returns false'. Refute it at one input. -/
def viewErrorsWrong : ChangeSpec := { name := "viewErrors", fn := fun _ => fun
  | [d1, d2, d3, d4] => { results := [.lit (.bool false)], args := [d1, d2, d3, d4] }
  | _ => none }
def ViewErrorsWrongFalsely : Prop := viewErrorsRow.holds Try.pinned (OpenSpec.ofChange viewErrorsWrong)

/-- 'wainscotlaw12.ViewBases': WHATEVER THE INPUT: true; the input reads as it did. -/
def viewBasesSpec : ChangeSpec := { name := "viewBases", fn := fun _ => fun
  | [d1, d2, d3] => { results := [.lit (.bool true)], args := [d1, d2, d3] }
  | _ => none }
def viewBasesRow : OpenClaim := { program := "ytkaoehmkmnkmaaa", sum := "11f54b93253c10efc8e8528a0fed66751bc308f6c8081f6e270dac3e292327b3", func := "wainscot/wainscotlaw12.ViewBases", spec := "viewBases", inPlace := ["internal/bytealg.Compare"], unfollowed := true, recurses := true, plainKeys := false, apart := false }
def ViewBasesSaid : Prop := viewBasesRow.holds Try.pinned (OpenSpec.ofChange viewBasesSpec)

/-- ITS FALSE NEIGHBOUR: 'it returns false'. Refute it at one input. -/
def viewBasesWrong : ChangeSpec := { name := "viewBases", fn := fun _ => fun
  | [d1, d2, d3] => { results := [.lit (.bool false)], args := [d1, d2, d3] }
  | _ => none }
def ViewBasesWrongFalsely : Prop := viewBasesRow.holds Try.pinned (OpenSpec.ofChange viewBasesWrong)

/-- 'wainscotlaw12.ViewReads': WHATEVER THE INPUT: true; the input reads as it did. -/
def viewReadsSpec : ChangeSpec := { name := "viewReads", fn := fun _ => fun
  | [d1, d2, d3, d4, d5] => { results := [.lit (.bool true)], args := [d1, d2, d3, d4, d5] }
  | _ => none }
def viewReadsRow : OpenClaim := { program := "ytkaoehmkmnkmaaa", sum := "11f54b93253c10efc8e8528a0fed66751bc308f6c8081f6e270dac3e292327b3", func := "wainscot/wainscotlaw12.ViewReads", spec := "viewReads", inPlace := ["internal/bytealg.Compare"], unfollowed := true, recurses := true, plainKeys := false, apart := false }
def ViewReadsSaid : Prop := viewReadsRow.holds Try.pinned (OpenSpec.ofChange viewReadsSpec)

/-- ITS FALSE NEIGHBOUR: 'it returns false'. Refute it at one input. -/
def viewReadsWrong : ChangeSpec := { name := "viewReads", fn := fun _ => fun
  | [d1, d2, d3, d4, d5] => { results := [.lit (.bool false)], args := [d1, d2, d3, d4, d5] }
  | _ => none }
def ViewReadsWrongFalsely : Prop := viewReadsRow.holds Try.pinned (OpenSpec.ofChange viewReadsWrong)

/- THE SECOND FORM. 'bulk': how many values and letters a reading holds, each counted each time it is reached (what is shared counts as often as it is met; a slice's spare places count too). A statement '..UptoSaid' is the law's where the arguments, and the package variables that the reading takes, are together of bulk at most 1048576: NARROWER than '..Said'. Prove '..Said' where nothing that the law and all that it calls make is longer than what came in: it says more and counts as full. Else prove '..UptoSaid'. A law counts once. -/
mutual
def uptoBulk {H : Type} : DataW H → Nat
  | .lit (.string bytes) => bytes.length + 1
  | .lit _ => 1
  | .nil => 1
  | .ptr d => uptoBulk d + 1
  | .slice elems spare => uptoBulkAll elems + uptoBulkAll spare + 1
  | .agg parts => uptoBulkAll parts + 1
  | .iface _ d => uptoBulk d + 1
  | .map entries => uptoBulkEntries entries + 1
  | .held _ => 1
def uptoBulkAll {H : Type} : List (DataW H) → Nat
  | [] => 0
  | d :: r => uptoBulk d + uptoBulkAll r
def uptoBulkEntries {H : Type} : List (Lit × DataW H) → Nat
  | [] => 0
  | x :: r => uptoBulkEntry x + uptoBulkEntries r
def uptoBulkEntry {H : Type} : Lit × DataW H → Nat
  | (.string bytes, d) => bytes.length + uptoBulk d + 1
  | (_, d) => uptoBulk d + 1
 end
def uptoSmall : (H : Type) → List (DataW H) → Bool := fun _ ds => decide (uptoBulkAll ds ≤ 1048576)
def OpenSpec.upto (s : _root_.Go.ChangeSpec) : _root_.Go.OpenSpec := { _root_.Go.OpenSpec.ofChange s with cond := some uptoSmall }

/-- 'wainscotlaw12.ViewErrors', WHERE WHAT IT READS IS OF BULK AT MOST 1048576: true; the input reads as it did. -/
def viewErrorsUptoRow : OpenClaim := { program := "ytkaoehmkmnkmaaa", sum := "11f54b93253c10efc8e8528a0fed66751bc308f6c8081f6e270dac3e292327b3", func := "wainscot/wainscotlaw12.ViewErrors", spec := "viewErrors", inPlace := ["internal/bytealg.Compare"], unfollowed := true, recurses := true, plainKeys := false, apart := false, narrowed := true }
def ViewErrorsUptoSaid : Prop := viewErrorsUptoRow.holds Try.pinned (OpenSpec.upto viewErrorsSpec)

/-- 'wainscotlaw12.ViewBases', WHERE WHAT IT READS IS OF BULK AT MOST 1048576: true; the input reads as it did. -/
def viewBasesUptoRow : OpenClaim := { program := "ytkaoehmkmnkmaaa", sum := "11f54b93253c10efc8e8528a0fed66751bc308f6c8081f6e270dac3e292327b3", func := "wainscot/wainscotlaw12.ViewBases", spec := "viewBases", inPlace := ["internal/bytealg.Compare"], unfollowed := true, recurses := true, plainKeys := false, apart := false, narrowed := true }
def ViewBasesUptoSaid : Prop := viewBasesUptoRow.holds Try.pinned (OpenSpec.upto viewBasesSpec)

/-- 'wainscotlaw12.ViewReads', WHERE WHAT IT READS IS OF BULK AT MOST 1048576: true; the input reads as it did. -/
def viewReadsUptoRow : OpenClaim := { program := "ytkaoehmkmnkmaaa", sum := "11f54b93253c10efc8e8528a0fed66751bc308f6c8081f6e270dac3e292327b3", func := "wainscot/wainscotlaw12.ViewReads", spec := "viewReads", inPlace := ["internal/bytealg.Compare"], unfollowed := true, recurses := true, plainKeys := false, apart := false, narrowed := true }
def ViewReadsUptoSaid : Prop := viewReadsUptoRow.holds Try.pinned (OpenSpec.upto viewReadsSpec)

end Rows
end Go.Proofs.Ytkaoehmkmnkmaaa
