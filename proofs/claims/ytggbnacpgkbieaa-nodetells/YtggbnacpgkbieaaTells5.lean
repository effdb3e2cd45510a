/- NodeTells, walked: all ways of the bytes. -/
import Derived.Test.YtggbnacpgkbieaaTells5le
import Derived.Test.YtggbnacpgkbieaaTells5gt
import Derived.Test.YtggbnacpgkbieaaTells5no
namespace Go.Proofs.Ytggbnacpgkbieaa
set_option linter.unusedVariables false
open Go.RowKit

theorem tells5_walk (w : World) (X Y : Nod) (pv qv pw qw : Value) (ad : Option Addr) (n c : Nat) (L : List UInt8) (hs : Parts w X pv qv) (hp : NilOk pv) (hq : NilOk qv) (ht : Parts w Y pw qw) (hp2 : NilOk pw) (hq2 : NilOk qw) (h1 : ArgB w ad n c L) :
    Calls Try.prog 3 #[nv X pv qv, nv Y pw qw, .slice ad n c] w fun e w' => e = .returned (.bool true) ∧ Below w.heap.size w w' := by
  cases ad with
  | none =>
    obtain ⟨a1, _, a3, _⟩ := h1
    obtain ⟨rfl, rfl⟩ := a3 rfl
    simp only [List.length_nil] at a1
    subst a1
    exact tells5_no w X Y pv qv pw qw hs hp hq ht hp2 hq2
  | some y =>
    by_cases h : n ≤ 600
    · exact tells5_le w X Y pv qv pw qw hs hp hq ht hp2 hq2 y n c L h1 h
    · exact tells5_gt w X Y pv qv pw qw hs hp hq ht hp2 hq2 y n c L h1 (by omega)
end Go.Proofs.Ytggbnacpgkbieaa
