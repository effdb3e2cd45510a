/- pack.New and Writer.Done: what they come to. -/
import Derived.Test.YtmemhckkfhlnmabPackX
namespace Go.Proofs.Ytmemhckkfhlnmab
set_option linter.unusedVariables false
open Go.RowKit

end Go.Proofs.Ytmemhckkfhlnmab
