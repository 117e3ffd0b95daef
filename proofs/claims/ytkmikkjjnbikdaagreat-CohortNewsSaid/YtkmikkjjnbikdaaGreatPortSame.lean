/- The contract of the comparison of a port with the reference's. -/
import Derived.Test.YtkmikkjjnbikdaaGreatPortNew
import Derived.Deep.AppendLies
import Derived.Deep.Cut
namespace Go.Proofs.YtkmikkjjnbikdaaGreat
open Go.RowKit
set_option linter.unusedVariables false
set_option maxRecDepth 100000

namespace RefAt
variable {w w' : World} {base r bk : Nat} {so : Option Addr} {cap : Nat} {dv : Value} {s : PSta}
end RefAt

end Go.Proofs.YtkmikkjjnbikdaaGreat
namespace Go.Proofs.YtkmikkjjnbikdaaGreat
open Go.RowKit
set_option linter.unusedVariables false
set_option maxRecDepth 100000

namespace RMid
variable {F : Nat → Prop} {w0 w w' : World} {base r bk : Nat} {o0 o2 : Value} {so : Option Addr} {dv : Value} {ws : List Int} {D : List Tch} {n : Nat} {f : Nat → Value} {x q : Nat} {K a old v : Int} {c : Tch}
end RMid

end Go.Proofs.YtkmikkjjnbikdaaGreat
namespace Go.Proofs.YtkmikkjjnbikdaaGreat
open Go.RowKit
set_option linter.unusedVariables false
set_option maxRecDepth 100000

end Go.Proofs.YtkmikkjjnbikdaaGreat
