/- A slice of texts that came in: what the walk is told of it. -/
import Derived.Test.YtdmgmicabofmiaaDoorSlArg
import Derived.Test.YtdmgmicabofmiaaDoorNaB
namespace Go.Proofs.YtdmgmicabofmiaaDoor
set_option linter.unusedVariables false
open Go.ChangeShapes Go.WideShapes Go.ChangeAt Go.RowKit

theorem open_strs {H : Type} {enc : TypeId × Value → H} {W : World} {base : Nat} {held : Bool} {a : Option Addr} {len cap : Nat} {d : DataW H} {p : List MemPlace}
    (h : DataW.Trod enc Tryd.prog W base (fun _ => true) held 22 (.slice a len cap) d p) : ∃ l : List ByteArray, Sl encS W (.slice a len cap) l :=
  open_els encS 22 9 Tryd.underlying22 (by kernel_rfl) (by decide) (fun fuel z cs hf _ => by
    obtain ⟨s, e, _⟩ := DataW.trod_string Tryd.underlying9 hf
    exact ⟨s, e⟩) h
end Go.Proofs.YtdmgmicabofmiaaDoor
