import Derived.Test.YtkmikkjjnbikdaaGreatCohortAcc
namespace Go.Proofs.YtkmikkjjnbikdaaGreat
set_option linter.unusedVariables false
set_option maxRecDepth 100000
section
variable {f:FL} {L:Lp} {ga:Nat} {la:Nat→Nat} {H:Nat→Option Nat} {V:Nat→List Nat} {gg:Option Nat} {Wg:List Nat}
end
namespace OrdL
variable {f:FL} {R:List Nat} {L:Lp}
end OrdL
end Go.Proofs.YtkmikkjjnbikdaaGreat
