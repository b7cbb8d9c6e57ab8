/- The document's examples of layer 1: 'awake' returns true, and writes nothing that was there. -/
import Derived.Test.YthhlgogokcblgaaNum
import Derived.Outline
namespace Go.Proofs.Ythhlgogokcblgaa
open Go.RowKit
set_option linter.unusedVariables false
set_option maxHeartbeats 400000 in
theorem awake1_any (w : World) : Calls Try.prog 13 #[] w fun e w' => e = .returned (.bool true) ∧ Below w.heap.size w w' := by
  have hF := flags_any 2 3 w (by omega)
  rw [show clampN 3 = 3 by decide, show (flagsL 2 3).map Value.bool = [.bool false, .bool true, .bool false] by rfl] at hF
  have HF := Lib.hid hF
  clear hF
  go_enter Try.func13, Try.ntmps13
  go_wp2_with (go_at_call 20; refine HF.out.mono ?_; rintro e w1 ⟨g1, rfl, hown1, hb1⟩)
  refine (put16_any none 0 0 [] _ 1 1 [258] _ (Sl.nil _ _ _ _) (fun _ => ⟨rfl, rfl⟩) (Sl.fresh _ _ _ _ _ rfl rfl) (by simp) (by omega)).mono ?_
  rintro e w2 ⟨g2, rfl, hown2, hb2⟩
  have hc2 := run_string_own (P := Try.prog) w2 22 9 5 _ _ 2 2 [1, 2] Try.underlying22 Try.underlying5 Try.underlying9 hown2
  have hS := ((Sl.of_own hown1).alloc (Nat.le_refl _) (.cells #[.int .u16 258] 28)).below' hb2 (by simp)
  have hB2 := below_alloc _ hb1 hb1.size hb2
  have hz2 := hB2.size
  have hz3 := hb2.size
  clear hb2 hown2 hown1
  go_wp2_with fail
  refine (bits_any _ 2 2 [true, false] _ (Sl.fresh _ _ _ _ _ rfl rfl) (by unfold maxLen; omega)).mono ?_
  rintro e w3 ⟨rfl, rfl⟩
  rw [show bitsN [true, false] = 2 by decide]
  have hS3 := hS.alloc (by simp at hz3; omega) (.cells #[.bool true, .bool false] 4)
  have c0 := hS3.cell 0 _ rfl
  have c1 := hS3.cell 1 _ rfl
  have c2 := hS3.cell 2 _ rfl
  have hB3 := hB2.alloc hz2 (.cells #[.bool true, .bool false] 4)
  clear hS hS3 hB2
  go_wp2
  go_ret
  exact ⟨rfl, hB3⟩
end Go.Proofs.Ythhlgogokcblgaa
