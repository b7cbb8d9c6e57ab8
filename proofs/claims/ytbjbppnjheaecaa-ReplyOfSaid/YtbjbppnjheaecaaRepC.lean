/- The document's example of layer 21: the reply to it. -/
import Derived.Test.YtbjbppnjheaecaaRepB
import Derived.Outline
namespace Go.Proofs.Ytbjbppnjheaecaa
open Go.RowKit
set_option linter.unusedVariables false
set_option maxRecDepth 20000
set_option maxHeartbeats 1600000 in
theorem of21 (w : World) : Calls Try.prog 21 #[q21, e21, a21, .bool false] w fun e w' => ∃ G, e = .returned (.tuple #[b21 (some ⟨G, 0, none⟩) 1 1, .bool true]) ∧ w.heap.size ≤ G ∧ Cs w' G [.string ⟨#[1, 97]⟩, .int .u16 5, .int .u32 60, .string ⟨#[1, 97, 1, 120]⟩] ∧ Below w.heap.size w w' := by
  have CH := fun w => changes_any 7 ⟨#[1, 120]⟩ true false w
  rw [show chg 7 false = true from rfl] at CH
  have CH := Lib.hid CH
  have RW := Lib.hid (fun w => rewritten21 w)
  unfold q21 a21 b21 e21 at *
  have hQ := (((Cs.new w #[.int .u16 0, .bool false, .int .i64 0, .bool false, .bool false, .bool false, .bool false, .int .i64 0, .string ⟨#[1, 97]⟩, .int .u16 1, .slice none 0 0, .slice none 0 0, .slice none 0 0, .int .i64 0] 31 [.int .u16 0, .bool false, .int .i64 0, .bool false, .bool false, .bool false, .bool false, .int .i64 0, .string ⟨#[1, 97]⟩, .int .u16 1, .slice none 0 0, .slice none 0 0, .slice none 0 0, .int .i64 0]).alloc (.cells #[.int .u16 0, .bool false, .int .i64 0, .bool false, .bool false, .bool false, .bool false, .int .i64 0, .string ⟨#[]⟩, .int .u16 0, .slice none 0 0, .slice none 0 0, .slice none 0 0, .int .i64 0] 31)).alloc (.cells #[.int .i64 7, .string ⟨#[1, 120]⟩, .bool true, .slice none 0 0] 54)).alloc (.cells #[.int .u16 0, .bool false, .int .i64 0, .bool false, .bool false, .bool false, .bool false, .int .i64 0, .string ⟨#[]⟩, .int .u16 0, .slice none 0 0, .slice none 0 0, .slice none 0 0, .int .i64 0] 31)
  have hA := ((Cs.new ((w.alloc (.cells #[.int .u16 0, .bool false, .int .i64 0, .bool false, .bool false, .bool false, .bool false, .int .i64 0, .string ⟨#[1, 97]⟩, .int .u16 1, .slice none 0 0, .slice none 0 0, .slice none 0 0, .int .i64 0] 31)).alloc (.cells #[.int .u16 0, .bool false, .int .i64 0, .bool false, .bool false, .bool false, .bool false, .int .i64 0, .string ⟨#[]⟩, .int .u16 0, .slice none 0 0, .slice none 0 0, .slice none 0 0, .int .i64 0] 31)) #[.int .i64 7, .string ⟨#[1, 120]⟩, .bool true, .slice none 0 0] 54 [.int .i64 7, .string ⟨#[1, 120]⟩, .bool true, .slice none 0 0]).at_ (w.heap.size + 1 + 1) (by simp)).alloc (.cells #[.int .u16 0, .bool false, .int .i64 0, .bool false, .bool false, .bool false, .bool false, .int .i64 0, .string ⟨#[]⟩, .int .u16 0, .slice none 0 0, .slice none 0 0, .slice none 0 0, .int .i64 0] 31)
  have hR := (Cs.new (((w.alloc (.cells #[.int .u16 0, .bool false, .int .i64 0, .bool false, .bool false, .bool false, .bool false, .int .i64 0, .string ⟨#[1, 97]⟩, .int .u16 1, .slice none 0 0, .slice none 0 0, .slice none 0 0, .int .i64 0] 31)).alloc (.cells #[.int .u16 0, .bool false, .int .i64 0, .bool false, .bool false, .bool false, .bool false, .int .i64 0, .string ⟨#[]⟩, .int .u16 0, .slice none 0 0, .slice none 0 0, .slice none 0 0, .int .i64 0] 31)).alloc (.cells #[.int .i64 7, .string ⟨#[1, 120]⟩, .bool true, .slice none 0 0] 54)) #[.int .u16 0, .bool false, .int .i64 0, .bool false, .bool false, .bool false, .bool false, .int .i64 0, .string ⟨#[]⟩, .int .u16 0, .slice none 0 0, .slice none 0 0, .slice none 0 0, .int .i64 0] 31 [.int .u16 0, .bool false, .int .i64 0, .bool false, .bool false, .bool false, .bool false, .int .i64 0, .string ⟨#[]⟩, .int .u16 0, .slice none 0 0, .slice none 0 0, .slice none 0 0, .int .i64 0]).at_ (w.heap.size + 1 + 1 + 1) (by simp)
  have hb0 := ((((Below.refl w.heap.size w).alloc (Nat.le_refl _) (.cells #[.int .u16 0, .bool false, .int .i64 0, .bool false, .bool false, .bool false, .bool false, .int .i64 0, .string ⟨#[1, 97]⟩, .int .u16 1, .slice none 0 0, .slice none 0 0, .slice none 0 0, .int .i64 0] 31)).alloc (by simp) (.cells #[.int .u16 0, .bool false, .int .i64 0, .bool false, .bool false, .bool false, .bool false, .int .i64 0, .string ⟨#[]⟩, .int .u16 0, .slice none 0 0, .slice none 0 0, .slice none 0 0, .int .i64 0] 31)).alloc (by simp; omega) (.cells #[.int .i64 7, .string ⟨#[1, 120]⟩, .bool true, .slice none 0 0] 54)).alloc (by simp; omega) (.cells #[.int .u16 0, .bool false, .int .i64 0, .bool false, .bool false, .bool false, .bool false, .int .i64 0, .string ⟨#[]⟩, .int .u16 0, .slice none 0 0, .slice none 0 0, .slice none 0 0, .int .i64 0] 31)
  have a0 := hA.get 0 _
  have a1 := hA.get 1 _
  have a2 := hA.get 2 _
  have a3 := hA.get 3 _
  go_enter Try.func21, Try.ntmps21
  go_wp2_with fail
  refine (CH.out _).mono ?_
  rintro e w1 ⟨rfl, hb1'⟩
  have hQ1 := hQ.below hb1'
  have hA1 := hA.below hb1'
  have hR1 := hR.below hb1'
  have hb1 := below_trans hb0 hb0.size hb1'
  have q0 := hQ1.get 0 _
  have q1 := hQ1.get 1 _
  have q2 := hQ1.get 2 _
  have q3 := hQ1.get 3 _
  have q4 := hQ1.get 4 _
  have q5 := hQ1.get 5 _
  have q6 := hQ1.get 6 _
  have q7 := hQ1.get 7 _
  have q8 := hQ1.get 8 _
  have q9 := hQ1.get 9 _
  have q10 := hQ1.get 10 _
  have q11 := hQ1.get 11 _
  have q12 := hQ1.get 12 _
  have q13 := hQ1.get 13 _
  have a0 := hA1.get 0 _
  have a1 := hA1.get 1 _
  have a2 := hA1.get 2 _
  have a3 := hA1.get 3 _
  clear hQ hA hR hb0 hb1'
  go_wp2_with fail
  refine (RW.out _).mono ?_
  rintro e w2 ⟨G, rfl, hGl, hG, hb2'⟩
  have hR2 := hR1.below hb2'
  have hb2 := below_trans hb1 hb1.size hb2'
  have hle := hb1.size
  have hRl := hR1.lt
  have r0 := hR2.get 0 _
  have f0 := hR2.froz 0
  have r1 := hR2.get 1 _
  have f1 := hR2.froz 1
  have r2 := hR2.get 2 _
  have f2 := hR2.froz 2
  have r3 := hR2.get 3 _
  have f3 := hR2.froz 3
  have r4 := hR2.get 4 _
  have f4 := hR2.froz 4
  have r5 := hR2.get 5 _
  have f5 := hR2.froz 5
  have r6 := hR2.get 6 _
  have f6 := hR2.froz 6
  have r7 := hR2.get 7 _
  have f7 := hR2.froz 7
  have r8 := hR2.get 8 _
  have f8 := hR2.froz 8
  have r9 := hR2.get 9 _
  have f9 := hR2.froz 9
  have r10 := hR2.get 10 _
  have f10 := hR2.froz 10
  have r11 := hR2.get 11 _
  have f11 := hR2.froz 11
  have r12 := hR2.get 12 _
  have f12 := hR2.froz 12
  have r13 := hR2.get 13 _
  have f13 := hR2.froz 13
  clear hQ1 hA1 hR1 hR2 hb1 hb2'
  go_wp2_with fail
  refine bodyPost_ret (v := .tuple #[.agg #[.int .u16 0, .bool true, .int .i64 0, .bool false, .bool false, .bool false, .bool true, .int .i64 0, .string ⟨#[1, 97]⟩, .int .u16 1, .slice (some ⟨G, 0, none⟩) 1 1, .slice none 0 0, .slice none 0 0, .int .i64 0], .bool true]) (by simp [results, Try.results21, go_sem, r0, r1, r2, r3, r4, r5, r6, r7, r8, r9, r10, r11, r12, r13]) rfl ⟨G, rfl, by omega, ?_, ?_⟩
  · iterate 14 (refine Cs.other ?_ _ _ _ (by omega))
    exact hG
  · iterate 14 (refine Below.setCell ?_ (by simp; omega) _)
    exact hb2
end Go.Proofs.Ytbjbppnjheaecaa
