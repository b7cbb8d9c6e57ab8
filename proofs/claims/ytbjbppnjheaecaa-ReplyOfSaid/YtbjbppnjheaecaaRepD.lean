/- The document's example of layer 21. -/
import Derived.Test.YtbjbppnjheaecaaRepC
import Derived.Outline
namespace Go.Proofs.Ytbjbppnjheaecaa
open Go.RowKit
set_option linter.unusedVariables false
set_option maxRecDepth 20000
set_option maxHeartbeats 1600000 in
theorem awake21 (w : World) : Calls Try.prog 9 #[] w fun e w' => e = .returned (.bool true) ∧ Below w.heap.size w w' := by
  have m1 := fun (w : World) h => make_any (some ⟨w.heap.size, 0, none⟩) 1 1 [⟨#[97]⟩] (w.alloc (.cells #[.string ⟨#[97]⟩] 9)) h (by intro t ht; simp at ht; subst ht; decide) (by decide)
  have m2 := fun (w : World) h => make_any (some ⟨w.heap.size, 0, none⟩) 1 1 [⟨#[120]⟩] (w.alloc (.cells #[.string ⟨#[120]⟩] 9)) h (by intro t ht; simp at ht; subst ht; decide) (by decide)
  have m3 := fun (w : World) h => make_any (some ⟨w.heap.size, 0, none⟩) 2 2 [⟨#[97]⟩, ⟨#[120]⟩] (w.alloc (.cells #[.string ⟨#[97]⟩, .string ⟨#[120]⟩] 9)) h (by intro t ht; simp at ht; rcases ht with rfl | rfl <;> decide) (by decide)
  rw [show nameOf [⟨#[97]⟩] = [1, 97] by decide +kernel] at m1
  rw [show nameOf [⟨#[120]⟩] = [1, 120] by decide +kernel] at m2
  rw [show nameOf [⟨#[97]⟩, ⟨#[120]⟩] = [1, 97, 1, 120] by decide +kernel] at m3
  unfold sv at m1 m2 m3
  have M1 := Lib.hid m1
  have M2 := Lib.hid m2
  have M3 := Lib.hid m3
  have OF := Lib.hid (fun w => of21 w)
  unfold q21 a21 b21 e21 at OF
  clear m1 m2 m3
  go_enter Try.func9, Try.ntmps9
  go_wp2_with fail
  refine (M1.out _ (Sl.fresh _ _ _ _ _ rfl rfl)).mono ?_
  rintro e w1 ⟨rfl, hb1'⟩
  have hb1 := below_alloc _ (Below.refl _ _) (Nat.le_refl _) hb1'
  clear hb1'
  go_wp2_with fail
  refine (M2.out _ (Sl.fresh _ _ _ _ _ rfl rfl)).mono ?_
  rintro e w2 ⟨rfl, hb2'⟩
  have hb2 := below_alloc _ hb1 hb1.size hb2'
  clear hb2' hb1
  go_wp2_with fail
  refine (M3.out _ (Sl.fresh _ _ _ _ _ rfl rfl)).mono ?_
  rintro e w3 ⟨rfl, hb3'⟩
  have hb3 := below_alloc _ hb2 hb2.size hb3'
  clear hb3' hb2
  go_wp2_with fail
  refine (OF.out _).mono ?_
  rintro e w4 ⟨G, rfl, hGl, hG, hb4'⟩
  have hb4 := below_trans hb3 hb3.size hb4'
  have hG1 := hG.alloc (.cells #[.int .u16 0, .bool true, .int .i64 0, .bool false, .bool false, .bool false, .bool true, .int .i64 0, .string ⟨#[1, 97]⟩, .int .u16 1, .slice (some ⟨G, 0, none⟩) 1 1, .slice none 0 0, .slice none 0 0, .int .i64 0] 31)
  have g0 := hG1.get 0 _
  have g1 := hG1.get 1 _
  have g2 := hG1.get 2 _
  have g3 := hG1.get 3 _
  clear hG hG1 hb4' hb3
  go_wp2_with fail
  go_ret
  exact ⟨rfl, hb4.alloc hb4.size _⟩
end Go.Proofs.Ytbjbppnjheaecaa
