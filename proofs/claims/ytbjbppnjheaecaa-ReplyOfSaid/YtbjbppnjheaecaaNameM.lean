/- The names of the statements are names, of few bytes. -/
import Derived.Test.YtbjbppnjheaecaaNameW
import Derived.Test.YtbjbppnjheaecaaCuts
namespace Go.Proofs.Ytbjbppnjheaecaa
open Go.RowKit
set_option linter.unusedVariables false
theorem nameZ_may (zs : List Int) (hz : ∀ z ∈ zs, 0 ≤ z ∧ z < 256) : mayL (nameZ zs) := by
  have h := few_labels (wordsZ_ok zs hz) (wordsZ_len zs)
  unfold mayL
  unfold labelsOf at h
  rw [show (ByteArray.mk (wire (wordsZ zs)).toArray).data.toList = wire (wordsZ zs) by simp] at h
  unfold nameZ
  rw [h]; rfl
theorem nameZ_len (zs : List Int) (hz : ∀ z ∈ zs, 0 ≤ z ∧ z < 256) : (nameZ zs).length ≤ 84 := by
  have := few_wire (wordsZ zs) (fun x hx => (wordsZ_ok zs hz x hx).2.2)
  have h2 := wordsZ_len zs
  unfold nameZ; omega
end Go.Proofs.Ytbjbppnjheaecaa
