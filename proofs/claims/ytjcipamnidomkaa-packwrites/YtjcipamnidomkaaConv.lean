/- A nil slice of bytes as a string. -/
import Derived.Test.YtjcipamnidomkaaPackRd
namespace Go.Proofs.Ytjcipamnidomkaa
set_option linter.unusedVariables false
open Go.RowKit
theorem conv_nil (w : World) : (convert 34 9 (.slice none 0 0)).run Try.prog w = .ok (.string (str [])) w := conv_bytes (r := none) ⟨none, 0, rfl, Nat.le_refl _, .inl ⟨rfl, rfl, rfl⟩⟩
theorem str_nil : str [] = ⟨#[]⟩ := rfl
end Go.Proofs.Ytjcipamnidomkaa
