/- A slice of bytes that came in, once more, with its length's bound. -/
import Derived.Test.YtjcipamnidomkaaArgsF
namespace Go.Proofs.Ytjcipamnidomkaa
set_option linter.unusedVariables false
open Go.ChangeShapes Go.WideShapes Go.ChangeAt Go.RowKit

theorem open_bytesm {H : Type} {enc : TypeId × Value → H} {W : World} {base : Nat} {held : Bool} {a : Option Addr} {len cap : Nat} {d : DataW H} {p : List MemPlace}
    (h : DataW.Trod enc Try.prog W base (fun _ => true) held 34 (.slice a len cap) d p) : ∃ L : List UInt8, len = L.length ∧ ArgBytes W a cap L ∧ L.length ≤ maxLen := by
  obtain ⟨L, h1, h2⟩ := open_bytes h
  refine ⟨L, h1, h2, ?_⟩
  obtain ⟨fuel, hf⟩ := h
  rcases open_ints Try.underlying34 Try.underlying5 (by kernel_rfl) hf with ⟨hcs, _⟩ | ⟨x, l, c, zs, hcs, _, hl, hm, hz, _, hcell, hwz⟩
  · simp [Value.cells] at hcs
    obtain ⟨rfl, rfl, rfl⟩ := hcs
    unfold maxLen
    omega
  · simp [Value.cells] at hcs
    obtain ⟨rfl, rfl, rfl⟩ := hcs
    have := h2.1
    omega
end Go.Proofs.Ytjcipamnidomkaa
