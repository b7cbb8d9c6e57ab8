/- The contracts of Join, Parent, Strip, Below. -/
import Derived.Test.YtfabnfcbldjadaaDoorNameB
namespace Go.Proofs.YtfabnfcbldjadaaDoor
open Go.RowKit
set_option linter.unusedVariables false

/-! ### Join -/
def joinOf (s t : ByteArray) : Option ByteArray := if (labelsOf s).isSome = true ∧ (labelsOf t).isSome = true ∧ s.size + t.size ≤ 254 then some (s ++ t) else none
def strOf (o : Option ByteArray) : ByteArray := o.getD ⟨#[]⟩
theorem may_size {s : ByteArray} (h : (labelsOf s).isSome = true) : s.size ≤ 254 := by
  unfold labelsOf nameLabels at h
  split at h
  · simpa using ‹_›
  · cases h
/-! ### Parent -/
def parentOf (s : ByteArray) : Option (List UInt8) := match labelsOf s with | some (_ :: ls) => some (wire ls) | _ => none
end Go.Proofs.YtfabnfcbldjadaaDoor
