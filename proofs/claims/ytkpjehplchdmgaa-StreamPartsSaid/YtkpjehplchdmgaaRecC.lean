/- Whether two rows of records are the same, as the statements ask it. -/
import Derived.Test.YtkpjehplchdmgaaRecB
namespace Go.Proofs.Ytkpjehplchdmgaa
open Go.RowKit
set_option linter.unusedVariables false
set_option maxRecDepth 20000
end Go.Proofs.Ytkpjehplchdmgaa
