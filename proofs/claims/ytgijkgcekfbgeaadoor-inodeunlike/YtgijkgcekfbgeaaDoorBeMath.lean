/- (What was here lies in Be.) -/
import Derived.Test.YtgijkgcekfbgeaaDoorPackRd
import Derived.Test.YtgijkgcekfbgeaaDoorBe
namespace Go.Proofs.YtgijkgcekfbgeaaDoor
set_option linter.unusedVariables false
end Go.Proofs.YtgijkgcekfbgeaaDoor
