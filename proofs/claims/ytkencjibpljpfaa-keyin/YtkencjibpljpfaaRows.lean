/-
  No cell of these rows narrows 'for every input' (looked for: loops, veiled, ifaces, maps, wideKeys, modest, calm, conditions, laid).
  DERIVED. THE GIVEN ROWS OF THIS SEAT. 6 by the template 'for every input the law returns true; each argument reads behind the call as it read before'; 0 by the template 'total and deterministic' (their statements: YtkencjibpljpfaaTotals.lean).
  GIVEN WITH THE SEED: the statements are not yours to turn. If you find one false, say at which input.
  Laid BY PROGRAM, IN A SANDBOX (cutbox-rows.mjs): the forced cells as the released guide's own fill.sh prints them over the translation 6b78c092100c6d64… (all of the seat's roots in one cut). By AI agents, Wed Nov 11 2026. No macro, syntax, notation, axiom, sorry.
-/
import Derived.Test.YtkencjibpljpfaaChecked
import GoSem.Claim
import GoSem.ClaimJoined
import GoSem.ClaimMapViews
import Derived.JoinedTies
import Derived.KernelRfl
namespace Go.Proofs.Ytkencjibpljpfaa
/- THE CELL 'sum', in the pinned program and in every row, IS THE sha256 OF THE DUMP (.gsa) THAT YtkencjibpljpfaaProg.lean LOADS. Nothing in Lean hashes anything: it is a label: what it is worth is what the hold of that sum in a sandbox is worth. -/
noncomputable def Try.pinned : Pinned := { name := "ytkencjibpljpfaa", sum := "6b78c092100c6d643b82f4ecb434da63653b3ef4f54bbe924174b3f8a7cf289f", checked := Try.checked }
namespace Rows
def none {H : Type} : Left H := { results := [], args := [] }

/-- 'wainscotlaw03.KeyTells': WHATEVER THE INPUT: true; the input reads as it did. -/
def keyTellsSpec : ChangeSpec := { name := "keyTells", fn := fun _ => fun
  | [d1, d2, d3] => { results := [.lit (.bool true)], args := [d1, d2, d3] }
  | _ => none }
def keyTellsRow : OpenClaim := { program := "ytkencjibpljpfaa", sum := "6b78c092100c6d643b82f4ecb434da63653b3ef4f54bbe924174b3f8a7cf289f", func := "wainscot/wainscotlaw03.KeyTells", spec := "keyTells", inPlace := ["internal/bytealg.IndexByteString", "internal/bytealg.Compare"], apart := false }
def KeyTellsSaid : Prop := keyTellsRow.holds Try.pinned (OpenSpec.ofChange keyTellsSpec)

/-- ITS FALSE NEIGHBOUR: 'it returns false'. Refute it at one input. -/
def keyTellsWrong : ChangeSpec := { name := "keyTells", fn := fun _ => fun
  | [d1, d2, d3] => { results := [.lit (.bool false)], args := [d1, d2, d3] }
  | _ => none }
def KeyTellsWrongFalsely : Prop := keyTellsRow.holds Try.pinned (OpenSpec.ofChange keyTellsWrong)

/-- 'wainscotlaw03.KeyReads': WHATEVER THE INPUT: true; the input reads as it did. -/
def keyReadsSpec : ChangeSpec := { name := "keyReads", fn := fun _ => fun
  | [d] => { results := [.lit (.bool true)], args := [d] }
  | _ => none }
def keyReadsRow : OpenClaim := { program := "ytkencjibpljpfaa", sum := "6b78c092100c6d643b82f4ecb434da63653b3ef4f54bbe924174b3f8a7cf289f", func := "wainscot/wainscotlaw03.KeyReads", spec := "keyReads", inPlace := ["internal/bytealg.IndexByteString", "internal/bytealg.Compare"], apart := false }
def KeyReadsSaid : Prop := keyReadsRow.holds Try.pinned (OpenSpec.ofChange keyReadsSpec)

/-- ITS FALSE NEIGHBOUR: 'it returns false'. Refute it at one input. -/
def keyReadsWrong : ChangeSpec := { name := "keyReads", fn := fun _ => fun
  | [d] => { results := [.lit (.bool false)], args := [d] }
  | _ => none }
def KeyReadsWrongFalsely : Prop := keyReadsRow.holds Try.pinned (OpenSpec.ofChange keyReadsWrong)

/-- 'wainscotlaw03.KeySpans': WHATEVER THE INPUT: true; the input reads as it did. -/
def keySpansSpec : ChangeSpec := { name := "keySpans", fn := fun _ => fun
  | [d1, d2, d3, d4] => { results := [.lit (.bool true)], args := [d1, d2, d3, d4] }
  | _ => none }
def keySpansRow : OpenClaim := { program := "ytkencjibpljpfaa", sum := "6b78c092100c6d643b82f4ecb434da63653b3ef4f54bbe924174b3f8a7cf289f", func := "wainscot/wainscotlaw03.KeySpans", spec := "keySpans", inPlace := ["internal/bytealg.IndexByteString", "internal/bytealg.Compare"], apart := false }
def KeySpansSaid : Prop := keySpansRow.holds Try.pinned (OpenSpec.ofChange keySpansSpec)

/-- ITS FALSE NEIGHBOUR: 'it returns false'. Refute it at one input. -/
def keySpansWrong : ChangeSpec := { name := "keySpans", fn := fun _ => fun
  | [d1, d2, d3, d4] => { results := [.lit (.bool false)], args := [d1, d2, d3, d4] }
  | _ => none }
def KeySpansWrongFalsely : Prop := keySpansRow.holds Try.pinned (OpenSpec.ofChange keySpansWrong)

/-- 'wainscotlaw03.KeyBack': WHATEVER THE INPUT: true; the input reads as it did. -/
def keyBackSpec : ChangeSpec := { name := "keyBack", fn := fun _ => fun
  | [d1, d2, d3, d4] => { results := [.lit (.bool true)], args := [d1, d2, d3, d4] }
  | _ => none }
def keyBackRow : OpenClaim := { program := "ytkencjibpljpfaa", sum := "6b78c092100c6d643b82f4ecb434da63653b3ef4f54bbe924174b3f8a7cf289f", func := "wainscot/wainscotlaw03.KeyBack", spec := "keyBack", inPlace := ["internal/bytealg.IndexByteString", "internal/bytealg.Compare"], apart := false }
def KeyBackSaid : Prop := keyBackRow.holds Try.pinned (OpenSpec.ofChange keyBackSpec)

/-- ITS FALSE NEIGHBOUR: 'it returns false'. Refute it at one input. -/
def keyBackWrong : ChangeSpec := { name := "keyBack", fn := fun _ => fun
  | [d1, d2, d3, d4] => { results := [.lit (.bool false)], args := [d1, d2, d3, d4] }
  | _ => none }
def KeyBackWrongFalsely : Prop := keyBackRow.holds Try.pinned (OpenSpec.ofChange keyBackWrong)

/-- 'wainscotlaw03.KeyOrder': WHATEVER THE INPUT: true; the input reads as it did. -/
def keyOrderSpec : ChangeSpec := { name := "keyOrder", fn := fun _ => fun
  | [d1, d2, d3, d4, d5, d6] => { results := [.lit (.bool true)], args := [d1, d2, d3, d4, d5, d6] }
  | _ => none }
def keyOrderRow : OpenClaim := { program := "ytkencjibpljpfaa", sum := "6b78c092100c6d643b82f4ecb434da63653b3ef4f54bbe924174b3f8a7cf289f", func := "wainscot/wainscotlaw03.KeyOrder", spec := "keyOrder", inPlace := ["internal/bytealg.IndexByteString", "internal/bytealg.Compare"], apart := false }
def KeyOrderSaid : Prop := keyOrderRow.holds Try.pinned (OpenSpec.ofChange keyOrderSpec)

/-- ITS FALSE NEIGHBOUR: 'it returns false'. Refute it at one input. -/
def keyOrderWrong : ChangeSpec := { name := "keyOrder", fn := fun _ => fun
  | [d1, d2, d3, d4, d5, d6] => { results := [.lit (.bool false)], args := [d1, d2, d3, d4, d5, d6] }
  | _ => none }
def KeyOrderWrongFalsely : Prop := keyOrderRow.holds Try.pinned (OpenSpec.ofChange keyOrderWrong)

/-- 'wainscotlaw03.KeyIn': WHATEVER THE INPUT: true; the input reads as it did. -/
def keyInSpec : ChangeSpec := { name := "keyIn", fn := fun _ => fun
  | [d1, d2, d3, d4] => { results := [.lit (.bool true)], args := [d1, d2, d3, d4] }
  | _ => none }
def keyInRow : OpenClaim := { program := "ytkencjibpljpfaa", sum := "6b78c092100c6d643b82f4ecb434da63653b3ef4f54bbe924174b3f8a7cf289f", func := "wainscot/wainscotlaw03.KeyIn", spec := "keyIn", inPlace := ["internal/bytealg.IndexByteString", "internal/bytealg.Compare"], apart := false }
def KeyInSaid : Prop := keyInRow.holds Try.pinned (OpenSpec.ofChange keyInSpec)

/-- ITS FALSE NEIGHBOUR: 'it returns false'. Refute it at one input. -/
def keyInWrong : ChangeSpec := { name := "keyIn", fn := fun _ => fun
  | [d1, d2, d3, d4] => { results := [.lit (.bool false)], args := [d1, d2, d3, d4] }
  | _ => none }
def KeyInWrongFalsely : Prop := keyInRow.holds Try.pinned (OpenSpec.ofChange keyInWrong)

/- THE SECOND FORM. 'bulk': how many values and letters a reading holds, each counted each time it is reached (what is shared counts as often as it is met; a slice's spare places count too). A statement '..UptoSaid' is the law's where the arguments, and the package variables that the reading takes, are together of bulk at most 1048576: NARROWER than '..Said'. Prove '..Said' where nothing that the law and all that it calls make is longer than what came in: it says more and counts as full. Else prove '..UptoSaid'. A law counts once. -/
mutual
def uptoBulk {H : Type} : DataW H → Nat
  | .lit (.string bytes) => bytes.length + 1
  | .lit _ => 1
  | .nil => 1
  | .ptr d => uptoBulk d + 1
  | .slice elems spare => uptoBulkAll elems + uptoBulkAll spare + 1
  | .agg parts => uptoBulkAll parts + 1
  | .iface _ d => uptoBulk d + 1
  | .map entries => uptoBulkEntries entries + 1
  | .held _ => 1
def uptoBulkAll {H : Type} : List (DataW H) → Nat
  | [] => 0
  | d :: r => uptoBulk d + uptoBulkAll r
def uptoBulkEntries {H : Type} : List (Lit × DataW H) → Nat
  | [] => 0
  | x :: r => uptoBulkEntry x + uptoBulkEntries r
def uptoBulkEntry {H : Type} : Lit × DataW H → Nat
  | (.string bytes, d) => bytes.length + uptoBulk d + 1
  | (_, d) => uptoBulk d + 1
 end
def uptoSmall : (H : Type) → List (DataW H) → Bool := fun _ ds => decide (uptoBulkAll ds ≤ 1048576)
def OpenSpec.upto (s : _root_.Go.ChangeSpec) : _root_.Go.OpenSpec := { _root_.Go.OpenSpec.ofChange s with cond := some uptoSmall }

/-- 'wainscotlaw03.KeyTells', WHERE WHAT IT READS IS OF BULK AT MOST 1048576: true; the input reads as it did. -/
def keyTellsUptoRow : OpenClaim := { program := "ytkencjibpljpfaa", sum := "6b78c092100c6d643b82f4ecb434da63653b3ef4f54bbe924174b3f8a7cf289f", func := "wainscot/wainscotlaw03.KeyTells", spec := "keyTells", inPlace := ["internal/bytealg.IndexByteString", "internal/bytealg.Compare"], apart := false, narrowed := true }
def KeyTellsUptoSaid : Prop := keyTellsUptoRow.holds Try.pinned (OpenSpec.upto keyTellsSpec)

/-- 'wainscotlaw03.KeyReads', WHERE WHAT IT READS IS OF BULK AT MOST 1048576: true; the input reads as it did. -/
def keyReadsUptoRow : OpenClaim := { program := "ytkencjibpljpfaa", sum := "6b78c092100c6d643b82f4ecb434da63653b3ef4f54bbe924174b3f8a7cf289f", func := "wainscot/wainscotlaw03.KeyReads", spec := "keyReads", inPlace := ["internal/bytealg.IndexByteString", "internal/bytealg.Compare"], apart := false, narrowed := true }
def KeyReadsUptoSaid : Prop := keyReadsUptoRow.holds Try.pinned (OpenSpec.upto keyReadsSpec)

/-- 'wainscotlaw03.KeySpans', WHERE WHAT IT READS IS OF BULK AT MOST 1048576: true; the input reads as it did. -/
def keySpansUptoRow : OpenClaim := { program := "ytkencjibpljpfaa", sum := "6b78c092100c6d643b82f4ecb434da63653b3ef4f54bbe924174b3f8a7cf289f", func := "wainscot/wainscotlaw03.KeySpans", spec := "keySpans", inPlace := ["internal/bytealg.IndexByteString", "internal/bytealg.Compare"], apart := false, narrowed := true }
def KeySpansUptoSaid : Prop := keySpansUptoRow.holds Try.pinned (OpenSpec.upto keySpansSpec)

/-- 'wainscotlaw03.KeyBack', WHERE WHAT IT READS IS OF BULK AT MOST 1048576: true; the input reads as it did. -/
def keyBackUptoRow : OpenClaim := { program := "ytkencjibpljpfaa", sum := "6b78c092100c6d643b82f4ecb434da63653b3ef4f54bbe924174b3f8a7cf289f", func := "wainscot/wainscotlaw03.KeyBack", spec := "keyBack", inPlace := ["internal/bytealg.IndexByteString", "internal/bytealg.Compare"], apart := false, narrowed := true }
def KeyBackUptoSaid : Prop := keyBackUptoRow.holds Try.pinned (OpenSpec.upto keyBackSpec)

/-- 'wainscotlaw03.KeyOrder', WHERE WHAT IT READS IS OF BULK AT MOST 1048576: true; the input reads as it did. -/
def keyOrderUptoRow : OpenClaim := { program := "ytkencjibpljpfaa", sum := "6b78c092100c6d643b82f4ecb434da63653b3ef4f54bbe924174b3f8a7cf289f", func := "wainscot/wainscotlaw03.KeyOrder", spec := "keyOrder", inPlace := ["internal/bytealg.IndexByteString", "internal/bytealg.Compare"], apart := false, narrowed := true }
def KeyOrderUptoSaid : Prop := keyOrderUptoRow.holds Try.pinned (OpenSpec.upto keyOrderSpec)

/-- 'wainscotlaw03.KeyIn', WHERE WHAT IT READS IS OF BULK AT MOST 1048576: true; the input reads as it did. -/
def keyInUptoRow : OpenClaim := { program := "ytkencjibpljpfaa", sum := "6b78c092100c6d643b82f4ecb434da63653b3ef4f54bbe924174b3f8a7cf289f", func := "wainscot/wainscotlaw03.KeyIn", spec := "keyIn", inPlace := ["internal/bytealg.IndexByteString", "internal/bytealg.Compare"], apart := false, narrowed := true }
def KeyInUptoSaid : Prop := keyInUptoRow.holds Try.pinned (OpenSpec.upto keyInSpec)

end Rows
end Go.Proofs.Ytkencjibpljpfaa
