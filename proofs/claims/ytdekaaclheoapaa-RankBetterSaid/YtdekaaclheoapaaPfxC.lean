/- The contract of Back. -/
import Derived.Test.YtdekaaclheoapaaPfxB
import Derived.Test.YtdekaaclheoapaaPfx2
namespace Go.Proofs.Ytdekaaclheoapaa
open Go.RowKit
set_option linter.unusedVariables false
set_option maxRecDepth 20000
end Go.Proofs.Ytdekaaclheoapaa
