import Derived.Test.YtgicanpggndbeaaGreatB01
import Derived.Lib.AppendZerosOnto
/- Two laws of no program on append to a row of bytes that the call owns: a string's bytes, and so many noughts; each says where the new slice lies. -/
namespace Go.Proofs.YtgicanpggndbeaaGreat
set_option linter.unusedVariables false
set_option maxRecDepth 100000
open Go.RowKit Go.Lib

end Go.Proofs.YtgicanpggndbeaaGreat
