
import Derived.Test.YtmnephejhkfchaaGreatSizeIn
import Derived.Test.YtmnephejhkfchaaGreatRow8
import Derived.Laws.EntriesVeiled
namespace Go.Proofs.YtmnephejhkfchaaGreat
set_option maxHeartbeats 8000000
open Go.RowKit Go.BigFrame
set_option linter.unusedVariables false
set_option maxRecDepth 100000
def rightB (G K B:Int):Bool:=decide (G∈[(1:Int),4])&&decide (K∈[(1:Int),3,4])&&decide (1≤B)&&decide (B≤1000)
end Go.Proofs.YtmnephejhkfchaaGreat
