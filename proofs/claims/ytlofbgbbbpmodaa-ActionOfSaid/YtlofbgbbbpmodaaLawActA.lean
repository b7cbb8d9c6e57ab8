/- The document's examples of layer 14; the walks of ActionOver and ActionGoal. -/
import Derived.Test.YtlofbgbbbpmodaaActB
import Derived.Test.YtlofbgbbbpmodaaView
namespace Go.Proofs.Ytlofbgbbbpmodaa
open Go.RowKit
set_option linter.unusedVariables false
set_option maxRecDepth 20000

theorem actV_act3 (k : Int) (s : ByteArray) (b : Bool) : actV (k, s, b) = act3 k s b := rfl
set_option maxHeartbeats 800000 in
theorem awake14_any (w : World) : Calls Try.prog 6 #[] w fun e w' => e = .returned (.bool true) ∧ Below w.heap.size w w' := by
  have m1 := fun (w : World) h => make_any (some ⟨w.heap.size, 0, none⟩) 1 1 [⟨#[42]⟩] (w.alloc (.cells #[.string ⟨#[42]⟩] 9)) h (by intro t ht; simp at ht; subst ht; decide) (by decide)
  have m2 := fun (w : World) h => make_any (some ⟨w.heap.size, 0, none⟩) 2 2 [⟨#[42]⟩, ⟨#[120]⟩] (w.alloc (.cells #[.string ⟨#[42]⟩, .string ⟨#[120]⟩] 9)) h (by intro t ht; simp at ht; rcases ht with rfl | rfl <;> decide) (by decide)
  have m3 := fun (w : World) h => make_any (some ⟨w.heap.size, 0, none⟩) 1 1 [⟨#[97]⟩] (w.alloc (.cells #[.string ⟨#[97]⟩] 9)) h (by intro t ht; simp at ht; subst ht; decide) (by decide)
  have m4 := fun (w : World) h => make_any (some ⟨w.heap.size, 0, none⟩) 2 2 [⟨#[97]⟩, ⟨#[120]⟩] (w.alloc (.cells #[.string ⟨#[97]⟩, .string ⟨#[120]⟩] 9)) h (by intro t ht; simp at ht; rcases ht with rfl | rfl <;> decide) (by decide)
  rw [show nameOf [⟨#[42]⟩] = [1, 42] by decide +kernel] at m1
  rw [show nameOf [⟨#[42]⟩, ⟨#[120]⟩] = [1, 42, 1, 120] by decide +kernel] at m2
  rw [show nameOf [⟨#[97]⟩] = [1, 97] by decide +kernel] at m3
  rw [show nameOf [⟨#[97]⟩, ⟨#[120]⟩] = [1, 97, 1, 120] by decide +kernel] at m4
  unfold sv at m1 m2 m3 m4
  have M1 := Lib.hid m1
  have M2 := Lib.hid m2
  have M3 := Lib.hid m3
  have M4 := Lib.hid m4
  have o1 := fun (g : Nat) (w : World) hC => of_cname g 1 ⟨#[]⟩ ⟨#[1, 42]⟩ 0 w hC (by decide)
  have o2 := fun (g : Nat) (w : World) hC => of_cname g 1 ⟨#[]⟩ ⟨#[1, 42, 1, 120]⟩ 0 w hC (by decide)
  rw [show tgtOf ⟨#[1, 42]⟩ = (5, ⟨#[]⟩, false) by decide +kernel] at o1
  rw [show tgtOf ⟨#[1, 42, 1, 120]⟩ = (7, ⟨#[1, 120]⟩, true) by decide +kernel] at o2
  unfold actV at o1 o2
  have O1 := Lib.hid o1
  have O2 := Lib.hid o2
  have gg := fun w => goal_any 7 ⟨#[1, 120]⟩ true ⟨#[1, 97]⟩ w (by decide) (by decide)
  rw [show goalOf 7 ⟨#[1, 120]⟩ true ⟨#[1, 97]⟩ = some ⟨#[1, 97, 1, 120]⟩ by decide +kernel] at gg
  unfold act3 strOf at gg
  simp only [Option.getD_some, Option.isSome_some] at gg
  have GG := Lib.hid gg
  clear m1 m2 m3 m4 o1 o2 gg
  go_enter Try.func6, Try.ntmps6
  go_wp2_with fail
  refine (M1.out _ (Sl.fresh _ _ _ _ _ rfl rfl)).mono ?_
  rintro e w1 ⟨rfl, hb1'⟩
  have hb1 := below_alloc _ (Below.refl _ _) (Nat.le_refl _) hb1'
  clear hb1'
  go_wp2_with fail
  refine (M2.out _ (Sl.fresh _ _ _ _ _ rfl rfl)).mono ?_
  rintro e w2 ⟨rfl, hb2'⟩
  have hb2 := below_alloc _ hb1 hb1.size hb2'
  clear hb2' hb1
  go_wp2_with fail
  refine (O1.out _ _ (Cs.new w2 #[.string ⟨#[]⟩, .int .u16 5, .int .u32 0, .string ⟨#[1, 42]⟩] _ _)).mono ?_
  rintro e w3 ⟨rfl, hb3'⟩
  have hb3 := below_alloc _ hb2 hb2.size hb3'
  clear hb3' hb2
  go_wp2_with fail
  have hP := Cs.new w3 #[.int .i64 5, .string ⟨#[]⟩, .bool false, .slice none 0 0] 34 [.int .i64 5, .string ⟨#[]⟩, .bool false, .slice none 0 0]
  have hb4 := hb3.alloc hb3.size (.cells #[.int .i64 5, .string ⟨#[]⟩, .bool false, .slice none 0 0] 34)
  have hz4 : (w3.alloc (.cells #[.int .i64 5, .string ⟨#[]⟩, .bool false, .slice none 0 0] 34)).heap.size = w3.heap.size + 1 := by simp
  generalize hW4 : w3.alloc (.cells #[.int .i64 5, .string ⟨#[]⟩, .bool false, .slice none 0 0] 34) = W4 at *
  generalize hP5 : w3.heap.size = P5 at *
  clear hW4 hP5 hb3
  refine (O2.out (P5 + 1) _ ((Cs.new W4 #[.string ⟨#[]⟩, .int .u16 5, .int .u32 0, .string ⟨#[1, 42, 1, 120]⟩] _ [.string ⟨#[]⟩, .int .u16 5, .int .u32 0, .string ⟨#[1, 42, 1, 120]⟩]).at_ _ hz4)).mono ?_
  rintro e w5 ⟨rfl, hb5'⟩
  have hP' := (hP.alloc _).below hb5'
  have hb5 := below_alloc _ hb4 hb4.size hb5'
  clear hb5' hb4 hP
  go_wp2_with fail
  have hQ := Cs.new w5 #[.int .i64 7, .string ⟨#[1, 120]⟩, .bool true, .slice none 0 0] 34 [.int .i64 7, .string ⟨#[1, 120]⟩, .bool true, .slice none 0 0]
  have hP6 := hP'.alloc (.cells #[.int .i64 7, .string ⟨#[1, 120]⟩, .bool true, .slice none 0 0] 34)
  have hb6 := hb5.alloc hb5.size (.cells #[.int .i64 7, .string ⟨#[1, 120]⟩, .bool true, .slice none 0 0] 34)
  have hz6 : (w5.alloc (.cells #[.int .i64 7, .string ⟨#[1, 120]⟩, .bool true, .slice none 0 0] 34)).heap.size = w5.heap.size + 1 := by simp
  generalize hW6 : w5.alloc (.cells #[.int .i64 7, .string ⟨#[1, 120]⟩, .bool true, .slice none 0 0] 34) = W6 at *
  generalize hP7 : w5.heap.size = P7 at *
  have M3' := M3.out W6 (Sl.fresh _ _ _ _ _ rfl rfl)
  rw [hz6] at M3'
  clear hW6 hP7 hb5 hP'
  refine M3'.mono ?_
  rintro e w7 ⟨rfl, hb7'⟩
  have hP7' := (hP6.alloc _).below hb7'
  have hQ7 := (hQ.alloc _).below hb7'
  have hb7 := below_alloc _ hb6 hb6.size hb7'
  have c0 := hQ7.get 0 _
  have c1 := hQ7.get 1 _
  have c2 := hQ7.get 2 _
  have c3 := hQ7.get 3 _
  clear hb7' hb6 hP6 hQ M3' hz6 hz4
  go_wp2_with fail
  clear c0 c1 c2 c3
  refine (GG.out _).mono ?_
  rintro e w8 ⟨rfl, hb8'⟩
  have hP8 := hP7'.below hb8'
  have hQ8 := hQ7.below hb8'
  have hb8 := below_trans hb7 hb7.size hb8'
  clear hb8' hb7 hP7' hQ7
  go_wp2_with fail
  refine (M4.out _ (Sl.fresh _ _ _ _ _ rfl rfl)).mono ?_
  rintro e w9 ⟨rfl, hb9'⟩
  have hP9 := (hP8.alloc _).below hb9'
  have hQ9 := (hQ8.alloc _).below hb9'
  have hb9 := below_alloc _ hb8 hb8.size hb9'
  have c0 := hP9.get 0 _
  have c2 := hQ9.get 2 _
  clear hb9' hb8 hP8 hQ8 hP9 hQ9
  go_wp2_with fail
  go_ret
  exact ⟨rfl, hb9⟩
end Go.Proofs.Ytlofbgbbbpmodaa
