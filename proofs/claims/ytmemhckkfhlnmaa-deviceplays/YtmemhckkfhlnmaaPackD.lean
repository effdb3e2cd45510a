/- pack.New and Writer.Done: what they come to. -/
import Derived.Test.YtmemhckkfhlnmaaPackX
namespace Go.Proofs.Ytmemhckkfhlnmaa
set_option linter.unusedVariables false
open Go.RowKit

end Go.Proofs.Ytmemhckkfhlnmaa
