/- pack.Read: a reader of a copy of the bytes that it is given. -/
import Derived.Test.YtmemhckkfhlnmaaPackQ
namespace Go.Proofs.Ytmemhckkfhlnmaa
set_option linter.unusedVariables false
open Go.RowKit

theorem own_bytes {w : World} {base : Nat} {sv : Value} {L : List UInt8} (h : w.ownsRow base 5 1 sv L.length (bc L)) : BytesIn w sv L sv.ownBlock := by
  rcases h.2 with ⟨rfl, h0⟩ | ⟨g, cap, cur, rfl, hb, hg, hn, _⟩
  · exact ⟨none, 0, by rw [h0], by omega, .inl ⟨rfl, List.eq_nil_of_length_eq_zero h0, rfl⟩⟩
  · refine ⟨_, cap, rfl, hn, .inr ⟨g, 0, rfl, rfl, (h.lt g rfl).2, fun j u hu => ?_⟩⟩
    have := h.cells (g := g) rfl j u hu
    rw [add_lit] at this
    exact this

end Go.Proofs.Ytmemhckkfhlnmaa
