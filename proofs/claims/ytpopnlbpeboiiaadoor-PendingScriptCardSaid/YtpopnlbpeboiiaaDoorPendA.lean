/- The document's example of layer 26. -/
import Derived.Test.YtpopnlbpeboiiaaDoorFreeB
import Derived.Outline
namespace Go.Proofs.YtpopnlbpeboiiaaDoor
open Go.RowKit
set_option linter.unusedVariables false
set_option linter.unusedSimpArgs false
set_option maxRecDepth 20000
set_option maxHeartbeats 3200000 in
theorem awake26_any (w : World) : Calls Tryd.prog 4 #[] w fun e w' => e = .returned (.bool true) ∧ Below w.heap.size w w' := by
  have FR := fun (A : Option Addr) (w : World) h => free_any A 2 2 [e26 65535, e26 0] 65535 (by omega) w h rfl (by omega)
  have hC := Cs.new w (flatE [e26 65535, e26 0]).toArray 41 (flatE [e26 65535, e26 0]) (by simp)
  have hE := hC.ents
  have hb := (Below.refl w.heap.size w).alloc (Nat.le_refl _) (.cells (flatE [e26 65535, e26 0]).toArray 41)
  have FR1 := FR _ _ hE
  unfold flatE at FR1 hb
  simp only [List.flatMap_cons, List.flatMap_nil, entCells, e26, List.cons_append, List.nil_append, List.append_nil] at FR1 hb
  have FR1 := Lib.hid FR1
  have HB := Lib.hid hb
  clear FR hC hE hb
  go_enter Tryd.func4, Tryd.ntmps4
  go_wp2_with fail
  refine FR1.out.mono ?_
  rintro e w1 ⟨r, rfl, hr, hb1⟩
  obtain rfl : r = 1 := by
    have := hr.at_ 2 (by omega) (by intro i hi; rcases (by omega : i = 0 ∨ i = 1) with rfl | rfl <;> decide) (by decide)
    rw [this]; rfl
  have hb2 := below_trans HB.out HB.out.size hb1
  go_wp2_with fail
  go_ret
  exact ⟨rfl, hb2⟩
end Go.Proofs.YtpopnlbpeboiiaaDoor
