import Derived.Test.YtcikfcplagelaaaGreatAbortAcq
namespace Go.Proofs.YtcikfcplagelaaaGreat.Ka
open Go.RowKit Go.BigFrame
set_option linter.unusedVariables false
set_option maxRecDepth 100000
end Go.Proofs.YtcikfcplagelaaaGreat.Ka
