/- The contract of Back. -/
import Derived.Test.YtkdknfedieeenaaDoorPfxB
import Derived.Test.YtkdknfedieeenaaDoorPfx2
namespace Go.Proofs.YtkdknfedieeenaaDoor
open Go.RowKit
set_option linter.unusedVariables false
set_option maxRecDepth 20000
end Go.Proofs.YtkdknfedieeenaaDoor
