/- A step of the reference's MCS lock: what it tells, and what it leaves. -/
import Derived.Test.YtkmikkjjnbikdaaGreatMcsRef
import Derived.Test.YtkmikkjjnbikdaaGreatCohortAcc
import Derived.Test.YtkmikkjjnbikdaaGreatMcsNew
import Derived.WalkLawsBesides
import Derived.Outline
import Derived.Deep.QuietTactic
import Derived.Deep.RegionHeld3
import Derived.Deep.RegionWith
import Derived.Deep.Cut
import Derived.Deep.CutRange
import Derived.Deep.CutBlock
import Derived.BigQuiet
import Derived.BigFrame
import Derived.Handy
import Derived.OpenShut
import Derived.Lib.Walk
import Derived.WalkKit
import Derived.Lib.Hide
namespace Go.Proofs.YtkmikkjjnbikdaaGreat.Km
open Go.RowKit Go.BigFrame
set_option linter.unusedVariables false
set_option maxRecDepth 100000

end Go.Proofs.YtkmikkjjnbikdaaGreat.Km

