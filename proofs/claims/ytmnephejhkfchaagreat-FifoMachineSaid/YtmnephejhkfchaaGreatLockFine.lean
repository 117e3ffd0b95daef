
import Derived.Test.YtmnephejhkfchaaGreatCohLayDo
import Derived.Test.YtmnephejhkfchaaGreatCohortStep
namespace Go.Proofs.YtmnephejhkfchaaGreat
set_option maxHeartbeats 8000000
open Go.RowKit Go.BigFrame
set_option linter.unusedVariables false
set_option maxRecDepth 100000
end Go.Proofs.YtmnephejhkfchaaGreat
