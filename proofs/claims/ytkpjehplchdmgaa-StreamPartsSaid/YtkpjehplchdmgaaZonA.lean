/- The contracts of layer 8: how records are compared. -/
import Derived.Test.YtkpjehplchdmgaaRecC
import Derived.Test.YtkpjehplchdmgaaOrd
import Derived.Test.YtkpjehplchdmgaaObw
import Derived.Outline
namespace Go.Proofs.Ytkpjehplchdmgaa
open Go.RowKit
set_option linter.unusedVariables false
set_option linter.unusedSimpArgs false
set_option maxRecDepth 20000
end Go.Proofs.Ytkpjehplchdmgaa
