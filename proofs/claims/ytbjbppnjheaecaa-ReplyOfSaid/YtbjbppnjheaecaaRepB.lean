/- A reply that leads to another name; the document's example of layer 21. -/
import Derived.Test.YtbjbppnjheaecaaRepA
import Derived.Outline
namespace Go.Proofs.Ytbjbppnjheaecaa
open Go.RowKit
set_option linter.unusedVariables false
set_option maxRecDepth 20000
set_option maxHeartbeats 1600000 in
theorem rewritten21 (w : World) : Calls Try.prog 39 #[q21, a21] w fun e w' => ∃ B, e = .returned (b21 (some ⟨B, 0, none⟩) 1 1) ∧ w.heap.size ≤ B ∧ Cs w' B [.string ⟨#[1, 97]⟩, .int .u16 5, .int .u32 60, .string ⟨#[1, 97, 1, 120]⟩] ∧ Below w.heap.size w w' := by
  have GO := Lib.hid (fun w => goal21 w)
  have BA := Lib.hid (fun w => base21 w)
  unfold q21 a21 b21 at *
  have hQ := Cs.new w #[.int .u16 0, .bool false, .int .i64 0, .bool false, .bool false, .bool false, .bool false, .int .i64 0, .string ⟨#[1, 97]⟩, .int .u16 1, .slice none 0 0, .slice none 0 0, .slice none 0 0, .int .i64 0] 31 [.int .u16 0, .bool false, .int .i64 0, .bool false, .bool false, .bool false, .bool false, .int .i64 0, .string ⟨#[1, 97]⟩, .int .u16 1, .slice none 0 0, .slice none 0 0, .slice none 0 0, .int .i64 0]
  have q8 := hQ.get 8 _
  go_enter Try.func39, Try.ntmps39
  go_wp2_with fail
  refine (GO.out _).mono ?_
  rintro e w1 ⟨rfl, hb1'⟩
  have hQ1 := ((hQ.alloc _).alloc _).below hb1'
  have hR1 := (((Cs.new ((w.alloc (.cells #[.int .u16 0, .bool false, .int .i64 0, .bool false, .bool false, .bool false, .bool false, .int .i64 0, .string ⟨#[1, 97]⟩, .int .u16 1, .slice none 0 0, .slice none 0 0, .slice none 0 0, .int .i64 0] 31)).alloc (.cells #[.int .i64 7, .string ⟨#[1, 120]⟩, .bool true, .slice none 0 0] 54)) #[.int .u16 0, .bool false, .int .i64 0, .bool false, .bool false, .bool false, .bool false, .int .i64 0, .string ⟨#[]⟩, .int .u16 0, .slice none 0 0, .slice none 0 0, .slice none 0 0, .int .i64 0] 31 [.int .u16 0, .bool false, .int .i64 0, .bool false, .bool false, .bool false, .bool false, .int .i64 0, .string ⟨#[]⟩, .int .u16 0, .slice none 0 0, .slice none 0 0, .slice none 0 0, .int .i64 0]).at_ (w.heap.size + 1 + 1) (by simp)).below hb1')
  have hb1 := below_trans (((Below.refl _ _).alloc (Nat.le_refl _) _ |>.alloc (by simp) _).alloc (by simp; omega) _) (by simp; omega) hb1'

  have q0 := hQ1.get 0 _
  have q1 := hQ1.get 1 _
  have q2 := hQ1.get 2 _
  have q3 := hQ1.get 3 _
  have q4 := hQ1.get 4 _
  have q5 := hQ1.get 5 _
  have q6 := hQ1.get 6 _
  have q7 := hQ1.get 7 _
  have q8 := hQ1.get 8 _
  have q9 := hQ1.get 9 _
  have q10 := hQ1.get 10 _
  have q11 := hQ1.get 11 _
  have q12 := hQ1.get 12 _
  have q13 := hQ1.get 13 _
  clear hQ hb1'
  go_wp2_with fail
  refine (BA.out _).mono ?_
  rintro e w2 ⟨rfl, hb2'⟩
  have hR2 := hR1.below hb2'
  have hb2 := below_trans hb1 hb1.size hb2'
  have q8 := ((hQ1.below hb2').alloc (.cells #[.int .u16 0, .bool true, .int .i64 0, .bool false, .bool false, .bool false, .bool true, .int .i64 0, .string ⟨#[1, 97]⟩, .int .u16 1, .slice none 0 0, .slice none 0 0, .slice none 0 0, .int .i64 0] 31)).get 8 _
  clear q0 q1 q2 q3 q4 q5 q6 q7 q9 q10 q11 q12 q13
  go_upto_region 6 with fail
  have hM := (Cs.new w2 #[.int .u16 0, .bool true, .int .i64 0, .bool false, .bool false, .bool false, .bool true, .int .i64 0, .string ⟨#[1, 97]⟩, .int .u16 1, .slice (some ⟨w2.heap.size + 1, 0, none⟩) 1 1, .slice none 0 0, .slice none 0 0, .int .i64 0] 31 [.int .u16 0, .bool true, .int .i64 0, .bool false, .bool false, .bool false, .bool true, .int .i64 0, .string ⟨#[1, 97]⟩, .int .u16 1, .slice (some ⟨w2.heap.size + 1, 0, none⟩) 1 1, .slice none 0 0, .slice none 0 0, .int .i64 0]).alloc (.cells #[.string ⟨#[1, 97]⟩, .int .u16 5, .int .u32 60, .string ⟨#[1, 97, 1, 120]⟩] 44)
  have hG := (Cs.new (w2.alloc (.cells #[.int .u16 0, .bool true, .int .i64 0, .bool false, .bool false, .bool false, .bool true, .int .i64 0, .string ⟨#[1, 97]⟩, .int .u16 1, .slice (some ⟨w2.heap.size + 1, 0, none⟩) 1 1, .slice none 0 0, .slice none 0 0, .int .i64 0] 31)) #[.string ⟨#[1, 97]⟩, .int .u16 5, .int .u32 60, .string ⟨#[1, 97, 1, 120]⟩] 44 [.string ⟨#[1, 97]⟩, .int .u16 5, .int .u32 60, .string ⟨#[1, 97, 1, 120]⟩]).at_ (w2.heap.size + 1) (by simp)
  have hR3 := (hR2.alloc (.cells #[.int .u16 0, .bool true, .int .i64 0, .bool false, .bool false, .bool false, .bool true, .int .i64 0, .string ⟨#[1, 97]⟩, .int .u16 1, .slice (some ⟨w2.heap.size + 1, 0, none⟩) 1 1, .slice none 0 0, .slice none 0 0, .int .i64 0] 31)).alloc (.cells #[.string ⟨#[1, 97]⟩, .int .u16 5, .int .u32 60, .string ⟨#[1, 97, 1, 120]⟩] 44)
  have hb3 := (hb2.alloc hb2.size (.cells #[.int .u16 0, .bool true, .int .i64 0, .bool false, .bool false, .bool false, .bool true, .int .i64 0, .string ⟨#[1, 97]⟩, .int .u16 1, .slice (some ⟨w2.heap.size + 1, 0, none⟩) 1 1, .slice none 0 0, .slice none 0 0, .int .i64 0] 31)).alloc (by simp; have := hb2.size; omega) (.cells #[.string ⟨#[1, 97]⟩, .int .u16 5, .int .u32 60, .string ⟨#[1, 97, 1, 120]⟩] 44)
  have hle := hb2.size
  have hRl := hR2.lt
  generalize hW3 : (w2.alloc (.cells #[.int .u16 0, .bool true, .int .i64 0, .bool false, .bool false, .bool false, .bool true, .int .i64 0, .string ⟨#[1, 97]⟩, .int .u16 1, .slice (some ⟨w2.heap.size + 1, 0, none⟩) 1 1, .slice none 0 0, .slice none 0 0, .int .i64 0] 31)).alloc (.cells #[.string ⟨#[1, 97]⟩, .int .u16 5, .int .u32 60, .string ⟨#[1, 97, 1, 120]⟩] 44) = W3 at *
  generalize hM2 : w2.heap.size = M at *
  have m0 := hM.get 0 _
  have r0 := hR3.get 0 _
  have f0 := hR3.froz 0
  have m1 := hM.get 1 _
  have r1 := hR3.get 1 _
  have f1 := hR3.froz 1
  have m2 := hM.get 2 _
  have r2 := hR3.get 2 _
  have f2 := hR3.froz 2
  have m3 := hM.get 3 _
  have r3 := hR3.get 3 _
  have f3 := hR3.froz 3
  have m4 := hM.get 4 _
  have r4 := hR3.get 4 _
  have f4 := hR3.froz 4
  have m5 := hM.get 5 _
  have r5 := hR3.get 5 _
  have f5 := hR3.froz 5
  have m6 := hM.get 6 _
  have r6 := hR3.get 6 _
  have f6 := hR3.froz 6
  have m7 := hM.get 7 _
  have r7 := hR3.get 7 _
  have f7 := hR3.froz 7
  have m8 := hM.get 8 _
  have r8 := hR3.get 8 _
  have f8 := hR3.froz 8
  have m9 := hM.get 9 _
  have r9 := hR3.get 9 _
  have f9 := hR3.froz 9
  have m10 := hM.get 10 _
  have r10 := hR3.get 10 _
  have f10 := hR3.froz 10
  have m11 := hM.get 11 _
  have r11 := hR3.get 11 _
  have f11 := hR3.froz 11
  have m12 := hM.get 12 _
  have r12 := hR3.get 12 _
  have f12 := hR3.froz 12
  have m13 := hM.get 13 _
  have r13 := hR3.get 13 _
  have f13 := hR3.froz 13
  clear hM hR3 q8 hR2 hR1 hQ1 hb1 hb2 hb2' hW3
  go_wp2_with fail
  refine bodyPost_ret (v := .agg #[.int .u16 0, .bool true, .int .i64 0, .bool false, .bool false, .bool false, .bool true, .int .i64 0, .string ⟨#[1, 97]⟩, .int .u16 1, .slice (some ⟨M + 1, 0, none⟩) 1 1, .slice none 0 0, .slice none 0 0, .int .i64 0]) (by simp [results, Try.results39, go_sem, r0, r1, r2, r3, r4, r5, r6, r7, r8, r9, r10, r11, r12, r13]) rfl ⟨M + 1, rfl, by omega, ?_, ?_⟩
  · iterate 14 (refine Cs.other ?_ _ _ _ (by omega))
    exact hG
  · iterate 14 (refine Below.setCell ?_ (by simp; omega) _)
    exact hb3
end Go.Proofs.Ytbjbppnjheaecaa
