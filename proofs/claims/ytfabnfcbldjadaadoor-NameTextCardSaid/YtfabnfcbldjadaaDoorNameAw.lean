/- The document's examples of layer 2: 'awake' returns true. -/
import Derived.Test.YtfabnfcbldjadaaDoorNameD
import Derived.Test.YtfabnfcbldjadaaDoorNameF
namespace Go.Proofs.YtfabnfcbldjadaaDoor
open Go.RowKit
set_option linter.unusedVariables false








set_option maxHeartbeats 1600000 in
theorem awake2_any (w : World) : Calls Tryd.prog 5 #[] w fun e w' => e = .returned (.bool true) ∧ Below w.heap.size w w' := by
  have m1 := fun (w : World) h => make_any (some ⟨w.heap.size, 0, none⟩) 2 2 [⟨#[87, 87, 87]⟩, ⟨#[120]⟩] (w.alloc (.cells #[.string ⟨#[87, 87, 87]⟩, .string ⟨#[120]⟩] 9)) (Sl.fresh _ _ _ _ _ rfl rfl) h (by unfold maxLen; omega)
  have m2 := fun (w : World) h => make_any (some ⟨w.heap.size, 0, none⟩) 1 1 [⟨#[120]⟩] (w.alloc (.cells #[.string ⟨#[120]⟩] 9)) (Sl.fresh _ _ _ _ _ rfl rfl) h (by unfold maxLen; omega)
  have m3 := fun (w : World) h => make_any (some ⟨w.heap.size, 0, none⟩) 1 1 [⟨#[97, 120]⟩] (w.alloc (.cells #[.string ⟨#[97, 120]⟩] 9)) (Sl.fresh _ _ _ _ _ rfl rfl) h (by unfold maxLen; omega)
  rw [show nameOf [⟨#[87, 87, 87]⟩, ⟨#[120]⟩] = [3, 119, 119, 119, 1, 120] by decide, show (makeOf [⟨#[87, 87, 87]⟩, ⟨#[120]⟩]).isSome = true by decide] at m1
  rw [show nameOf [⟨#[120]⟩] = [1, 120] by decide] at m2
  rw [show nameOf [⟨#[97, 120]⟩] = [2, 97, 120] by decide] at m3
  have t1 := fun w => text_any ⟨#[3, 119, 119, 119, 1, 120]⟩ w (by decide)
  have b1 := fun w => below_any ⟨#[3, 119, 119, 119, 1, 120]⟩ ⟨#[1, 120]⟩ w (by decide) (by decide)
  have b2 := fun w => below_any ⟨#[2, 97, 120]⟩ ⟨#[1, 120]⟩ w (by decide) (by decide)
  rw [show textOf ⟨#[3, 119, 119, 119, 1, 120]⟩ = [119, 119, 119, 46, 120, 46] by decide] at t1
  rw [show (stripOf ⟨#[3, 119, 119, 119, 1, 120]⟩ ⟨#[1, 120]⟩).isSome = true by decide] at b1
  rw [show (stripOf ⟨#[2, 97, 120]⟩ ⟨#[1, 120]⟩).isSome = false by decide] at b2
  simp only [sv] at m1 m2 m3 t1
  have M1 := Lib.hid (fun w => m1 w (by decide))
  have M2 := Lib.hid (fun w => m2 w (by decide))
  have M3 := Lib.hid (fun w => m3 w (by decide))
  have T1 := Lib.hid t1
  have B1 := Lib.hid b1
  have B2 := Lib.hid b2
  clear m1 m2 m3 t1 b1 b2
  go_enter Tryd.func5, Tryd.ntmps5
  go_wp2_with fail
  refine (M1.out _).mono ?_
  rintro e w1 ⟨rfl, h1⟩
  have hb1 := below_alloc _ (Below.refl w.heap.size w) (Nat.le_refl _) h1
  have hs1 := hb1.size
  clear h1
  go_wp2_with fail
  refine (M2.out _).mono ?_
  rintro e w2 ⟨rfl, h2⟩
  have hb2 := below_alloc _ hb1 hs1 h2
  have hs2 := hb2.size
  clear h2 hb1 hs1
  go_wp2_with fail
  refine (M3.out _).mono ?_
  rintro e w3 ⟨rfl, h3⟩
  have hb3 := below_alloc _ hb2 hs2 h3
  have hs3 := hb3.size
  clear h3 hb2 hs2
  go_wp2_with fail
  refine (T1.out _).mono ?_
  rintro e w4 ⟨rfl, h4⟩
  have hb4 := below_trans hb3 hs3 h4
  have hs4 := hb4.size
  clear h4 hb3 hs3
  go_wp2_with fail
  refine (B1.out _).mono ?_
  rintro e w5 ⟨rfl, h5⟩
  have hb5 := below_trans hb4 hs4 h5
  have hs5 := hb5.size
  clear h5 hb4 hs4
  go_wp2_with fail
  refine (B2.out _).mono ?_
  rintro e w6 ⟨rfl, h6⟩
  have hb6 := below_trans hb5 hs5 h6
  go_wp2
  go_ret
  exact ⟨rfl, hb6⟩
end Go.Proofs.YtfabnfcbldjadaaDoor
