/- The contract of Back. -/
import Derived.Test.YtodpaejakgjblaaDoorPfxB
import Derived.Test.YtodpaejakgjblaaDoorPfx2
namespace Go.Proofs.YtodpaejakgjblaaDoor
open Go.RowKit
set_option linter.unusedVariables false
set_option maxRecDepth 20000
end Go.Proofs.YtodpaejakgjblaaDoor
