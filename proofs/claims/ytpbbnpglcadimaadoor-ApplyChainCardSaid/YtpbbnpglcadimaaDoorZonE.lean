/- The document's examples of layer 8. -/
import Derived.Test.YtpbbnpglcadimaaDoorZonD
namespace Go.Proofs.YtpbbnpglcadimaaDoor
open Go.RowKit
set_option linter.unusedVariables false
set_option linter.unusedSimpArgs false
set_option maxRecDepth 20000
attribute [local simp] putsF isV wordOf Deps Region.binds Region.wanted Act.put wantedX isB
def recA8 : RecT := (⟨#[1, 97]⟩, 1, 0, ⟨#[]⟩)
def recB8 : RecT := (⟨#[1, 97]⟩, 16, 0, ⟨#[]⟩)
theorem cmp_ab : cmpR recA8 recB8 = -1 := by
  unfold cmpR
  rw [show cmpS recA8.1 recB8.1 = 0 from cmpS_is.refl _]
  rfl
theorem cmp_ba : cmpR recB8 recA8 = 1 := by rw [cmpR_is.swap, cmp_ab]; rfl
theorem ins_ab : insR [recB8] recA8 = [recA8, recB8] := by
  unfold insR
  have : lowB recA8 recB8 = false := by unfold lowB; rw [cmp_ba]; rfl
  simp [this]
theorem ab_ne : recA8 ∉ [recB8] := by
  intro h
  have h : recA8 = recB8 := by simpa using h
  have := cmp_ab
  rw [h, cmpR_is.refl] at this
  cases this
end Go.Proofs.YtpbbnpglcadimaaDoor
