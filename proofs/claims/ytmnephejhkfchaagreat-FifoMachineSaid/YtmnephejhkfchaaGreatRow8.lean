
import Derived.Test.YtmnephejhkfchaaGreatCohortAcc
import Derived.Test.YtmnephejhkfchaaGreatBuF
import Derived.Test.YtmnephejhkfchaaGreatBuC
import Derived.Test.YtmnephejhkfchaaGreatBuM
import Derived.Deep.CutBlock
namespace Go.Proofs.YtmnephejhkfchaaGreat
open Go.RowKit
set_option linter.unusedVariables false
set_option maxRecDepth 100000
open Go.RowKit Go.BigFrame
end Go.Proofs.YtmnephejhkfchaaGreat
