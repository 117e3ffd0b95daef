import Derived.Test.YtcikfcplagelaaaGreatHierAcq
namespace Go.Proofs.YtcikfcplagelaaaGreat.Kh
open Go.RowKit Go.BigFrame
set_option linter.unusedVariables false
set_option maxRecDepth 100000
end Go.Proofs.YtcikfcplagelaaaGreat.Kh
