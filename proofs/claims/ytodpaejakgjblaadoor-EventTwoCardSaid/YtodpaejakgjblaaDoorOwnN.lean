/- The document's examples of layer 13. -/
import Derived.Test.YtodpaejakgjblaaDoorOwnM
namespace Go.Proofs.YtodpaejakgjblaaDoor
open Go.RowKit
set_option linter.unusedVariables false
set_option maxRecDepth 20000

def ex13a : List (List UInt8) := [[50, 52], [48], [50], [48], [49, 57, 50], cAnswer]
def ex13b : List (List UInt8) := [[51, 50], [122, 122], [49], [50, 48, 48, 49], cClient]
theorem ex13a_dec : decR ((makeL ex13a).getD []) = some ⟨3, [], [192, 0, 2, 0], 24⟩ := by decide +kernel
theorem ex13b_dec : decR ((makeL ex13b).getD []) = some ⟨0, [], [32, 1, 0, 1, 0, 0, 0, 0, 0, 0, 0, 0, 0, 0, 0, 0], 32⟩ := by decide +kernel

set_option maxHeartbeats 8000000 in
theorem awake13_any (w : World) (hL : LaidT w) : Calls Tryd.prog 14 #[] w fun e w' => e = .returned (.bool true) ∧ Below w.heap.size w w' := by
  obtain ⟨N1, hN1⟩ : ∃ N, N = baL ((makeL ex13a).getD []) := ⟨_, rfl⟩
  obtain ⟨N2, hN2⟩ : ∃ N, N = baL ((makeL ex13b).getD []) := ⟨_, rfl⟩
  have hd1 : N1.data.toList = (makeL ex13a).getD [] := by rw [hN1]; simp [baL]
  have hd2 : N2.data.toList = (makeL ex13b).getD [] := by rw [hN2]; simp [baL]
  have hs1 : N1.size ≤ 140737488355328 := by rw [hN1]; decide +kernel
  have hs2 : N2.size ≤ 140737488355328 := by rw [hN2]; decide +kernel
  have hD1 := fun w h => decode_any N1 w hs1 h
  have hD2 := fun w h => decode_any N2 w hs2 h
  rw [hd1, ex13a_dec] at hD1
  rw [hd2, ex13b_dec] at hD2
  have hD1 : ∀ w, LaidT w → Calls Tryd.prog 22 #[.string N1] w fun e w' => e = .returned (.tuple #[.agg #[.int .i64 3, .string ⟨#[]⟩, .string ⟨#[192, 0, 2, 0]⟩, .int .i64 24], .bool true]) ∧ Below w.heap.size w w' := hD1
  have hD2 : ∀ w, LaidT w → Calls Tryd.prog 22 #[.string N2] w fun e w' => e = .returned (.tuple #[.agg #[.int .i64 0, .string ⟨#[]⟩, .string ⟨#[32, 1, 0, 1, 0, 0, 0, 0, 0, 0, 0, 0, 0, 0, 0, 0]⟩, .int .i64 32], .bool true]) ∧ Below w.heap.size w w' := hD2
  have hM1 := fun A c w h => makeX_any A 6 c ex13a w h (by decide) (by decide)
  have hM2 := fun A c w h => makeX_any A 5 c ex13b w h (by decide) (by decide)
  rw [show sv ((makeL ex13a).getD []) = .string N1 by rw [hN1]; rfl] at hM1
  rw [show sv ((makeL ex13b).getD []) = .string N2 by rw [hN2]; rfl] at hM2
  have hq := fun w => trig_eql 3 3 ⟨#[]⟩ ⟨#[]⟩ ⟨#[192, 0, 2, 0]⟩ ⟨#[192, 0, 2, 0]⟩ 24 24 w
  rw [show trigEq 3 3 ⟨#[]⟩ ⟨#[]⟩ ⟨#[192, 0, 2, 0]⟩ ⟨#[192, 0, 2, 0]⟩ 24 24 = true by decide +kernel] at hq
  have HD1 := Lib.hid hD1
  have HD2 := Lib.hid hD2
  have HM1 := Lib.hid hM1
  have HM2 := Lib.hid hM2
  have HLL := Lib.hid hL
  clear hD1 hD2 hM1 hM2 hd1 hd2 hs1 hs2 hN1 hN2 hL
  go_enter Tryd.func14, Tryd.ntmps14
  go_wp2_with (go_at_call 25; refine (HM1.out _ _ _ (Sl.fresh w _ _ 6 _ rfl rfl)).mono ?_; rintro e w1 ⟨rfl, hb1⟩; refine Hid.out ?_)
  refine Lib.hid ?_
  have hB1 := below_alloc _ (Below.refl w.heap.size w) (Nat.le_refl _) hb1
  have HL1 := Lib.hid (HLL.out.below hB1 (Nat.le_refl _))
  have HB1 := Lib.hid hB1
  clear hb1 hB1
  go_wp2_with (go_at_call 22; refine (HD1.out _ HL1.out).mono ?_; rintro e w2 ⟨rfl, hb2⟩; refine Hid.out ?_)
  refine Lib.hid ?_
  have hB2 := HB1.out.trans (hb2.mono HB1.out.size)
  have hC2 := Cs.new w2 #[.int .i64 3, .string ⟨#[]⟩, .string ⟨#[192, 0, 2, 0]⟩, .int .i64 24] 29 [.int .i64 3, .string ⟨#[]⟩, .string ⟨#[192, 0, 2, 0]⟩, .int .i64 24]
  have hB2a := hB2.alloc hB2.size (.cells #[.int .i64 3, .string ⟨#[]⟩, .string ⟨#[192, 0, 2, 0]⟩, .int .i64 24] 29)
  have HC2 := Lib.hid hC2
  have HB2 := Lib.hid hB2a
  have HL2 := Lib.hid (HLL.out.below hB2a (Nat.le_refl _))
  clear hB2 hC2 hB2a hb2 HL1 HB1
  go_upto_region 3 with fail
  generalize w2.alloc (.cells #[.int .i64 3, .string ⟨#[]⟩, .string ⟨#[192, 0, 2, 0]⟩, .int .i64 24] 29) = W at HC2 HB2 HL2 ⊢
  generalize w2.heap.size = P at HC2 ⊢
  go_wp2_with (go_at_call 25; refine (HM2.out _ _ _ (Sl.fresh W _ _ 5 _ rfl rfl)).mono ?_; rintro e w3 ⟨rfl, hb3⟩; refine Hid.out ?_)
  refine Lib.hid ?_
  have hB3 := below_alloc _ (Below.refl W.heap.size W) (Nat.le_refl _) hb3
  have HL3 := Lib.hid (HL2.out.below hB3 (Nat.le_refl _))
  have HB3 := Lib.hid (HB2.out.trans (hB3.mono HB2.out.size))
  have HC3 := Lib.hid (HC2.out.below hB3)
  clear hb3 hB3 HC2 HB2 HL2
  go_wp2_with (go_at_call 22; refine (HD2.out _ HL3.out).mono ?_; rintro e w4 ⟨rfl, hb4⟩; refine Hid.out ?_)
  refine Lib.hid ?_
  have hB4 := HB3.out.trans (hb4.mono HB3.out.size)
  have hC4 := Cs.new w4 #[.int .i64 0, .string ⟨#[]⟩, .string ⟨#[32, 1, 0, 1, 0, 0, 0, 0, 0, 0, 0, 0, 0, 0, 0, 0]⟩, .int .i64 32] 29 [.int .i64 0, .string ⟨#[]⟩, .string ⟨#[32, 1, 0, 1, 0, 0, 0, 0, 0, 0, 0, 0, 0, 0, 0, 0]⟩, .int .i64 32]
  have hC3 := (HC3.out.below hb4).alloc (.cells #[.int .i64 0, .string ⟨#[]⟩, .string ⟨#[32, 1, 0, 1, 0, 0, 0, 0, 0, 0, 0, 0, 0, 0, 0, 0]⟩, .int .i64 32] 29)
  have HB4 := Lib.hid (hB4.alloc hB4.size (.cells #[.int .i64 0, .string ⟨#[]⟩, .string ⟨#[32, 1, 0, 1, 0, 0, 0, 0, 0, 0, 0, 0, 0, 0, 0, 0]⟩, .int .i64 32] 29))
  have k0 := hC3.get 0 (.int .i64 3)
  have k1 := hC3.get 1 (.string ⟨#[]⟩)
  have k2 := hC3.get 2 (.string ⟨#[192, 0, 2, 0]⟩)
  have k3 := hC3.get 3 (.int .i64 24)
  have l0 := hC4.get 0 (.int .i64 0)
  have l2 := hC4.get 2 (.string ⟨#[32, 1, 0, 1, 0, 0, 0, 0, 0, 0, 0, 0, 0, 0, 0, 0]⟩)
  have l3 := hC4.get 3 (.int .i64 32)
  clear hB4 hC4 hC3 hb4 HL3 HB3 HC3
  go_upto_region 5 with fail
  generalize w4.alloc (.cells #[.int .i64 0, .string ⟨#[]⟩, .string ⟨#[32, 1, 0, 1, 0, 0, 0, 0, 0, 0, 0, 0, 0, 0, 0, 0]⟩, .int .i64 32] 29) = W5 at k0 k1 k2 k3 l0 l2 l3 HB4 ⊢
  generalize w4.heap.size = Q at l0 l2 l3 ⊢
  go_wp2_with fail
  go_ret
  exact ⟨congrArg (fun b => Ending.returned (.bool b)) (by decide +kernel), HB4.out⟩
end Go.Proofs.YtodpaejakgjblaaDoor
