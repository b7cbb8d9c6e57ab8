/- The walk of ReplyChanges, by kinds (E). -/
import Derived.Test.YtigfopkdcmlcnaaLawRepC
namespace Go.Proofs.Ytigfopkdcmlcnaa
open Go.RowKit
set_option linter.unusedVariables false
set_option maxRecDepth 20000
set_option maxHeartbeats 3200000 in
theorem replyChanges_8f (x0 x1 x2 x3 x4 x5 x6 x7 x8 x9 x10 x11 x12 : Value) (y : Value) (z : Int) (w : World) : Calls Try.prog 7 #[.int .i64 8, .bool false, .int .i64 z, .agg #[x0, x1, x2, x3, x4, x5, x6, x7, x8, x9, x10, x11, x12, y]] w fun e w' => e = .returned (.bool true) ∧ Below w.heap.size w w' := by
  have AW := Lib.hid (fun w => awake21 w)
  have CH := fun w => changes_any 8 ⟨#[]⟩ false false w
  rw [show chg 8 false = true from rfl] at CH
  have CH := Lib.hid CH
  have hQ := Cs.new w #[x0, x1, x2, x3, x4, x5, x6, x7, x8, x9, x10, x11, x12, y] 54 [x0, x1, x2, x3, x4, x5, x6, x7, x8, x9, x10, x11, x12, y]
  go_enter Try.func7, Try.ntmps7
  go_wp2_with fail
  refine (AW.out _).mono ?_
  rintro e w1 ⟨rfl, hb1'⟩
  have hQ1 := hQ.below hb1'
  have hb1 := below_alloc _ (Below.refl _ _) (Nat.le_refl _) hb1'
  have q13 := hQ1.get 13 _
  have f13 := hQ1.froz 13 (by simp)
  clear hQ hb1'
  go_upto_region 6 with fail
  have hQ2 := hQ1.set' 13 (.int .i64 z) (by simp)
  have hb2 := hb1.setCell (p := ⟨w.heap.size, 13, none⟩) (by simp) (.int .i64 z)
  simp only [List.set_cons_succ, List.set_cons_zero] at hQ2
  generalize hW2 : w1.setCell ⟨w.heap.size, 13, none⟩ (.int .i64 z) = W2 at *
  clear hQ1 hb1 q13 f13 hW2
  have hc : z < 512 ∨ z = 512 ∨ (512 < z ∧ ¬ 4096 < z) ∨ 4096 < z := by omega
  rcases hc with hz | hz | hz | hz
  · have h1 : z < 512 := hz
    have k1 : ¬ 4096 < z := by omega
    have k2 : ¬ 512 < z := by omega
    have k3 : z < 4096 := by omega
    have LI : ∀ w, _ := fun w => limit_any x0 x1 x2 x3 x4 x5 x6 x7 x8 x9 x10 x11 x12 z false w
    rw [show lim z false = 512 from by unfold lim; simp <;> omega] at LI
    have LI := Lib.hid LI
    clear hz
    go_wp2_with fail
    refine (CH.out _).mono ?_
    rintro e w3 ⟨rfl, hb3'⟩
    have hQ3 := hQ2.below hb3'
    have hb3 := below_trans hb2 hb2.size hb3'
    have q0 := hQ3.get 0 _
    have q1 := hQ3.get 1 _
    have q2 := hQ3.get 2 _
    have q3 := hQ3.get 3 _
    have q4 := hQ3.get 4 _
    have q5 := hQ3.get 5 _
    have q6 := hQ3.get 6 _
    have q7 := hQ3.get 7 _
    have q8 := hQ3.get 8 _
    have q9 := hQ3.get 9 _
    have q10 := hQ3.get 10 _
    have q11 := hQ3.get 11 _
    have q12 := hQ3.get 12 _
    have q13 := hQ3.get 13 _
    clear hQ3 hQ2 hb3' hb2
    go_wp2_with fail
    refine (LI.out _).mono ?_
    rintro e w4 ⟨rfl, hb4'⟩
    have hb4 := below_trans hb3 hb3.size hb4'
    go_wp2_with fail
    go_ret
    exact ⟨rfl, hb4⟩
  · subst hz
    have LI : ∀ w, _ := fun w => limit_any x0 x1 x2 x3 x4 x5 x6 x7 x8 x9 x10 x11 x12 512 false w
    rw [show lim 512 false = 512 from by unfold lim; simp <;> omega] at LI
    have LI := Lib.hid LI
    go_wp2_with fail
    refine (CH.out _).mono ?_
    rintro e w3 ⟨rfl, hb3'⟩
    have hQ3 := hQ2.below hb3'
    have hb3 := below_trans hb2 hb2.size hb3'
    have q0 := hQ3.get 0 _
    have q1 := hQ3.get 1 _
    have q2 := hQ3.get 2 _
    have q3 := hQ3.get 3 _
    have q4 := hQ3.get 4 _
    have q5 := hQ3.get 5 _
    have q6 := hQ3.get 6 _
    have q7 := hQ3.get 7 _
    have q8 := hQ3.get 8 _
    have q9 := hQ3.get 9 _
    have q10 := hQ3.get 10 _
    have q11 := hQ3.get 11 _
    have q12 := hQ3.get 12 _
    have q13 := hQ3.get 13 _
    clear hQ3 hQ2 hb3' hb2
    go_wp2_with fail
    refine (LI.out _).mono ?_
    rintro e w4 ⟨rfl, hb4'⟩
    have hb4 := below_trans hb3 hb3.size hb4'
    go_wp2_with fail
    go_ret
    exact ⟨rfl, hb4⟩
  · have h1 : ¬ z < 512 := by omega
    have h2 : ¬ 4096 < z := hz.2
    have k1 : 512 < z := hz.1
    have k2 : ¬ z ≤ 512 := by omega
    have LI : ∀ w, _ := fun w => limit_any x0 x1 x2 x3 x4 x5 x6 x7 x8 x9 x10 x11 x12 z false w
    rw [show lim z false = z from by unfold lim; simp <;> omega] at LI
    have LI := Lib.hid LI
    clear hz
    go_wp2_with fail
    refine (CH.out _).mono ?_
    rintro e w3 ⟨rfl, hb3'⟩
    have hQ3 := hQ2.below hb3'
    have hb3 := below_trans hb2 hb2.size hb3'
    have q0 := hQ3.get 0 _
    have q1 := hQ3.get 1 _
    have q2 := hQ3.get 2 _
    have q3 := hQ3.get 3 _
    have q4 := hQ3.get 4 _
    have q5 := hQ3.get 5 _
    have q6 := hQ3.get 6 _
    have q7 := hQ3.get 7 _
    have q8 := hQ3.get 8 _
    have q9 := hQ3.get 9 _
    have q10 := hQ3.get 10 _
    have q11 := hQ3.get 11 _
    have q12 := hQ3.get 12 _
    have q13 := hQ3.get 13 _
    clear hQ3 hQ2 hb3' hb2
    go_wp2_with fail
    refine (LI.out _).mono ?_
    rintro e w4 ⟨rfl, hb4'⟩
    have hb4 := below_trans hb3 hb3.size hb4'
    go_wp2_with fail
    go_ret
    exact ⟨rfl, hb4⟩
  · have h1 : ¬ z < 512 := by omega
    have k1 : 4096 < z := hz
    have k2 : 512 < z := by omega
    have k3 : ¬ z < 4096 := by omega
    have k4 : ¬ z ≤ 512 := by omega
    have LI : ∀ w, _ := fun w => limit_any x0 x1 x2 x3 x4 x5 x6 x7 x8 x9 x10 x11 x12 z false w
    rw [show lim z false = 4096 from by unfold lim; simp <;> omega] at LI
    have LI := Lib.hid LI
    clear hz
    go_wp2_with fail
    refine (CH.out _).mono ?_
    rintro e w3 ⟨rfl, hb3'⟩
    have hQ3 := hQ2.below hb3'
    have hb3 := below_trans hb2 hb2.size hb3'
    have q0 := hQ3.get 0 _
    have q1 := hQ3.get 1 _
    have q2 := hQ3.get 2 _
    have q3 := hQ3.get 3 _
    have q4 := hQ3.get 4 _
    have q5 := hQ3.get 5 _
    have q6 := hQ3.get 6 _
    have q7 := hQ3.get 7 _
    have q8 := hQ3.get 8 _
    have q9 := hQ3.get 9 _
    have q10 := hQ3.get 10 _
    have q11 := hQ3.get 11 _
    have q12 := hQ3.get 12 _
    have q13 := hQ3.get 13 _
    clear hQ3 hQ2 hb3' hb2
    go_wp2_with fail
    refine (LI.out _).mono ?_
    rintro e w4 ⟨rfl, hb4'⟩
    have hb4 := below_trans hb3 hb3.size hb4'
    go_wp2_with fail
    go_ret
    exact ⟨rfl, hb4⟩
set_option maxHeartbeats 3200000 in
theorem replyChanges_6f (x0 x1 x2 x3 x4 x5 x6 x7 x8 x9 x10 x11 x12 : Value) (y : Value) (z : Int) (w : World) : Calls Try.prog 7 #[.int .i64 6, .bool false, .int .i64 z, .agg #[x0, x1, x2, x3, x4, x5, x6, x7, x8, x9, x10, x11, x12, y]] w fun e w' => e = .returned (.bool true) ∧ Below w.heap.size w w' := by
  have AW := Lib.hid (fun w => awake21 w)
  have CH := fun w => changes_any 6 ⟨#[]⟩ false false w
  rw [show chg 6 false = true from rfl] at CH
  have CH := Lib.hid CH
  have hQ := Cs.new w #[x0, x1, x2, x3, x4, x5, x6, x7, x8, x9, x10, x11, x12, y] 54 [x0, x1, x2, x3, x4, x5, x6, x7, x8, x9, x10, x11, x12, y]
  go_enter Try.func7, Try.ntmps7
  go_wp2_with fail
  refine (AW.out _).mono ?_
  rintro e w1 ⟨rfl, hb1'⟩
  have hQ1 := hQ.below hb1'
  have hb1 := below_alloc _ (Below.refl _ _) (Nat.le_refl _) hb1'
  have q13 := hQ1.get 13 _
  have f13 := hQ1.froz 13 (by simp)
  clear hQ hb1'
  go_upto_region 6 with fail
  have hQ2 := hQ1.set' 13 (.int .i64 z) (by simp)
  have hb2 := hb1.setCell (p := ⟨w.heap.size, 13, none⟩) (by simp) (.int .i64 z)
  simp only [List.set_cons_succ, List.set_cons_zero] at hQ2
  generalize hW2 : w1.setCell ⟨w.heap.size, 13, none⟩ (.int .i64 z) = W2 at *
  clear hQ1 hb1 q13 f13 hW2
  have hc : z < 512 ∨ z = 512 ∨ (512 < z ∧ ¬ 4096 < z) ∨ 4096 < z := by omega
  rcases hc with hz | hz | hz | hz
  · have h1 : z < 512 := hz
    have k1 : ¬ 4096 < z := by omega
    have k2 : ¬ 512 < z := by omega
    have k3 : z < 4096 := by omega
    have LI : ∀ w, _ := fun w => limit_any x0 x1 x2 x3 x4 x5 x6 x7 x8 x9 x10 x11 x12 z false w
    rw [show lim z false = 512 from by unfold lim; simp <;> omega] at LI
    have LI := Lib.hid LI
    clear hz
    go_wp2_with fail
    refine (CH.out _).mono ?_
    rintro e w3 ⟨rfl, hb3'⟩
    have hQ3 := hQ2.below hb3'
    have hb3 := below_trans hb2 hb2.size hb3'
    have q0 := hQ3.get 0 _
    have q1 := hQ3.get 1 _
    have q2 := hQ3.get 2 _
    have q3 := hQ3.get 3 _
    have q4 := hQ3.get 4 _
    have q5 := hQ3.get 5 _
    have q6 := hQ3.get 6 _
    have q7 := hQ3.get 7 _
    have q8 := hQ3.get 8 _
    have q9 := hQ3.get 9 _
    have q10 := hQ3.get 10 _
    have q11 := hQ3.get 11 _
    have q12 := hQ3.get 12 _
    have q13 := hQ3.get 13 _
    clear hQ3 hQ2 hb3' hb2
    go_wp2_with fail
    refine (LI.out _).mono ?_
    rintro e w4 ⟨rfl, hb4'⟩
    have hb4 := below_trans hb3 hb3.size hb4'
    go_wp2_with fail
    go_ret
    exact ⟨rfl, hb4⟩
  · subst hz
    have LI : ∀ w, _ := fun w => limit_any x0 x1 x2 x3 x4 x5 x6 x7 x8 x9 x10 x11 x12 512 false w
    rw [show lim 512 false = 512 from by unfold lim; simp <;> omega] at LI
    have LI := Lib.hid LI
    go_wp2_with fail
    refine (CH.out _).mono ?_
    rintro e w3 ⟨rfl, hb3'⟩
    have hQ3 := hQ2.below hb3'
    have hb3 := below_trans hb2 hb2.size hb3'
    have q0 := hQ3.get 0 _
    have q1 := hQ3.get 1 _
    have q2 := hQ3.get 2 _
    have q3 := hQ3.get 3 _
    have q4 := hQ3.get 4 _
    have q5 := hQ3.get 5 _
    have q6 := hQ3.get 6 _
    have q7 := hQ3.get 7 _
    have q8 := hQ3.get 8 _
    have q9 := hQ3.get 9 _
    have q10 := hQ3.get 10 _
    have q11 := hQ3.get 11 _
    have q12 := hQ3.get 12 _
    have q13 := hQ3.get 13 _
    clear hQ3 hQ2 hb3' hb2
    go_wp2_with fail
    refine (LI.out _).mono ?_
    rintro e w4 ⟨rfl, hb4'⟩
    have hb4 := below_trans hb3 hb3.size hb4'
    go_wp2_with fail
    go_ret
    exact ⟨rfl, hb4⟩
  · have h1 : ¬ z < 512 := by omega
    have h2 : ¬ 4096 < z := hz.2
    have k1 : 512 < z := hz.1
    have k2 : ¬ z ≤ 512 := by omega
    have LI : ∀ w, _ := fun w => limit_any x0 x1 x2 x3 x4 x5 x6 x7 x8 x9 x10 x11 x12 z false w
    rw [show lim z false = z from by unfold lim; simp <;> omega] at LI
    have LI := Lib.hid LI
    clear hz
    go_wp2_with fail
    refine (CH.out _).mono ?_
    rintro e w3 ⟨rfl, hb3'⟩
    have hQ3 := hQ2.below hb3'
    have hb3 := below_trans hb2 hb2.size hb3'
    have q0 := hQ3.get 0 _
    have q1 := hQ3.get 1 _
    have q2 := hQ3.get 2 _
    have q3 := hQ3.get 3 _
    have q4 := hQ3.get 4 _
    have q5 := hQ3.get 5 _
    have q6 := hQ3.get 6 _
    have q7 := hQ3.get 7 _
    have q8 := hQ3.get 8 _
    have q9 := hQ3.get 9 _
    have q10 := hQ3.get 10 _
    have q11 := hQ3.get 11 _
    have q12 := hQ3.get 12 _
    have q13 := hQ3.get 13 _
    clear hQ3 hQ2 hb3' hb2
    go_wp2_with fail
    refine (LI.out _).mono ?_
    rintro e w4 ⟨rfl, hb4'⟩
    have hb4 := below_trans hb3 hb3.size hb4'
    go_wp2_with fail
    go_ret
    exact ⟨rfl, hb4⟩
  · have h1 : ¬ z < 512 := by omega
    have k1 : 4096 < z := hz
    have k2 : 512 < z := by omega
    have k3 : ¬ z < 4096 := by omega
    have k4 : ¬ z ≤ 512 := by omega
    have LI : ∀ w, _ := fun w => limit_any x0 x1 x2 x3 x4 x5 x6 x7 x8 x9 x10 x11 x12 z false w
    rw [show lim z false = 4096 from by unfold lim; simp <;> omega] at LI
    have LI := Lib.hid LI
    clear hz
    go_wp2_with fail
    refine (CH.out _).mono ?_
    rintro e w3 ⟨rfl, hb3'⟩
    have hQ3 := hQ2.below hb3'
    have hb3 := below_trans hb2 hb2.size hb3'
    have q0 := hQ3.get 0 _
    have q1 := hQ3.get 1 _
    have q2 := hQ3.get 2 _
    have q3 := hQ3.get 3 _
    have q4 := hQ3.get 4 _
    have q5 := hQ3.get 5 _
    have q6 := hQ3.get 6 _
    have q7 := hQ3.get 7 _
    have q8 := hQ3.get 8 _
    have q9 := hQ3.get 9 _
    have q10 := hQ3.get 10 _
    have q11 := hQ3.get 11 _
    have q12 := hQ3.get 12 _
    have q13 := hQ3.get 13 _
    clear hQ3 hQ2 hb3' hb2
    go_wp2_with fail
    refine (LI.out _).mono ?_
    rintro e w4 ⟨rfl, hb4'⟩
    have hb4 := below_trans hb3 hb3.size hb4'
    go_wp2_with fail
    go_ret
    exact ⟨rfl, hb4⟩
set_option maxHeartbeats 3200000 in
theorem replyChanges_kf (x0 x1 x2 x3 x4 x5 x6 x7 x8 x9 x10 x11 x12 : Value) (k : Int) (y : Value) (z : Int) (w : World) (e3 : (k == 3) = false) (e4 : (k == 4) = false) (e5 : (k == 5) = false) (e6 : (k == 6) = false) (e7 : (k == 7) = false) (e8 : (k == 8) = false) : Calls Try.prog 7 #[.int .i64 k, .bool false, .int .i64 z, .agg #[x0, x1, x2, x3, x4, x5, x6, x7, x8, x9, x10, x11, x12, y]] w fun e w' => e = .returned (.bool true) ∧ Below w.heap.size w w' := by
  have AW := Lib.hid (fun w => awake21 w)
  have CH := fun w => changes_any k ⟨#[]⟩ false false w
  rw [show chg k false = false from by unfold chg; simp [e3, e4, e5, e6, e7, e8]] at CH
  have CH := Lib.hid CH
  have hQ := Cs.new w #[x0, x1, x2, x3, x4, x5, x6, x7, x8, x9, x10, x11, x12, y] 54 [x0, x1, x2, x3, x4, x5, x6, x7, x8, x9, x10, x11, x12, y]
  go_enter Try.func7, Try.ntmps7
  go_wp2_with fail
  refine (AW.out _).mono ?_
  rintro e w1 ⟨rfl, hb1'⟩
  have hQ1 := hQ.below hb1'
  have hb1 := below_alloc _ (Below.refl _ _) (Nat.le_refl _) hb1'
  have q13 := hQ1.get 13 _
  have f13 := hQ1.froz 13 (by simp)
  clear hQ hb1'
  go_upto_region 6 with fail
  have hQ2 := hQ1.set' 13 (.int .i64 z) (by simp)
  have hb2 := hb1.setCell (p := ⟨w.heap.size, 13, none⟩) (by simp) (.int .i64 z)
  simp only [List.set_cons_succ, List.set_cons_zero] at hQ2
  generalize hW2 : w1.setCell ⟨w.heap.size, 13, none⟩ (.int .i64 z) = W2 at *
  clear hQ1 hb1 q13 f13 hW2
  have hc : z < 512 ∨ z = 512 ∨ (512 < z ∧ ¬ 4096 < z) ∨ 4096 < z := by omega
  rcases hc with hz | hz | hz | hz
  · have h1 : z < 512 := hz
    have k1 : ¬ 4096 < z := by omega
    have k2 : ¬ 512 < z := by omega
    have k3 : z < 4096 := by omega
    have LI : ∀ w, _ := fun w => limit_any x0 x1 x2 x3 x4 x5 x6 x7 x8 x9 x10 x11 x12 z false w
    rw [show lim z false = 512 from by unfold lim; simp <;> omega] at LI
    have LI := Lib.hid LI
    clear hz
    go_wp2_with fail
    refine (CH.out _).mono ?_
    rintro e w3 ⟨rfl, hb3'⟩
    have hQ3 := hQ2.below hb3'
    have hb3 := below_trans hb2 hb2.size hb3'
    have q0 := hQ3.get 0 _
    have q1 := hQ3.get 1 _
    have q2 := hQ3.get 2 _
    have q3 := hQ3.get 3 _
    have q4 := hQ3.get 4 _
    have q5 := hQ3.get 5 _
    have q6 := hQ3.get 6 _
    have q7 := hQ3.get 7 _
    have q8 := hQ3.get 8 _
    have q9 := hQ3.get 9 _
    have q10 := hQ3.get 10 _
    have q11 := hQ3.get 11 _
    have q12 := hQ3.get 12 _
    have q13 := hQ3.get 13 _
    clear hQ3 hQ2 hb3' hb2
    go_wp2_with fail
    refine (LI.out _).mono ?_
    rintro e w4 ⟨rfl, hb4'⟩
    have hb4 := below_trans hb3 hb3.size hb4'
    go_wp2_with fail
    go_ret
    exact ⟨rfl, hb4⟩
  · subst hz
    have LI : ∀ w, _ := fun w => limit_any x0 x1 x2 x3 x4 x5 x6 x7 x8 x9 x10 x11 x12 512 false w
    rw [show lim 512 false = 512 from by unfold lim; simp <;> omega] at LI
    have LI := Lib.hid LI
    go_wp2_with fail
    refine (CH.out _).mono ?_
    rintro e w3 ⟨rfl, hb3'⟩
    have hQ3 := hQ2.below hb3'
    have hb3 := below_trans hb2 hb2.size hb3'
    have q0 := hQ3.get 0 _
    have q1 := hQ3.get 1 _
    have q2 := hQ3.get 2 _
    have q3 := hQ3.get 3 _
    have q4 := hQ3.get 4 _
    have q5 := hQ3.get 5 _
    have q6 := hQ3.get 6 _
    have q7 := hQ3.get 7 _
    have q8 := hQ3.get 8 _
    have q9 := hQ3.get 9 _
    have q10 := hQ3.get 10 _
    have q11 := hQ3.get 11 _
    have q12 := hQ3.get 12 _
    have q13 := hQ3.get 13 _
    clear hQ3 hQ2 hb3' hb2
    go_wp2_with fail
    refine (LI.out _).mono ?_
    rintro e w4 ⟨rfl, hb4'⟩
    have hb4 := below_trans hb3 hb3.size hb4'
    go_wp2_with fail
    go_ret
    exact ⟨rfl, hb4⟩
  · have h1 : ¬ z < 512 := by omega
    have h2 : ¬ 4096 < z := hz.2
    have k1 : 512 < z := hz.1
    have k2 : ¬ z ≤ 512 := by omega
    have LI : ∀ w, _ := fun w => limit_any x0 x1 x2 x3 x4 x5 x6 x7 x8 x9 x10 x11 x12 z false w
    rw [show lim z false = z from by unfold lim; simp <;> omega] at LI
    have LI := Lib.hid LI
    clear hz
    go_wp2_with fail
    refine (CH.out _).mono ?_
    rintro e w3 ⟨rfl, hb3'⟩
    have hQ3 := hQ2.below hb3'
    have hb3 := below_trans hb2 hb2.size hb3'
    have q0 := hQ3.get 0 _
    have q1 := hQ3.get 1 _
    have q2 := hQ3.get 2 _
    have q3 := hQ3.get 3 _
    have q4 := hQ3.get 4 _
    have q5 := hQ3.get 5 _
    have q6 := hQ3.get 6 _
    have q7 := hQ3.get 7 _
    have q8 := hQ3.get 8 _
    have q9 := hQ3.get 9 _
    have q10 := hQ3.get 10 _
    have q11 := hQ3.get 11 _
    have q12 := hQ3.get 12 _
    have q13 := hQ3.get 13 _
    clear hQ3 hQ2 hb3' hb2
    go_wp2_with fail
    refine (LI.out _).mono ?_
    rintro e w4 ⟨rfl, hb4'⟩
    have hb4 := below_trans hb3 hb3.size hb4'
    go_wp2_with fail
    go_ret
    exact ⟨rfl, hb4⟩
  · have h1 : ¬ z < 512 := by omega
    have k1 : 4096 < z := hz
    have k2 : 512 < z := by omega
    have k3 : ¬ z < 4096 := by omega
    have k4 : ¬ z ≤ 512 := by omega
    have LI : ∀ w, _ := fun w => limit_any x0 x1 x2 x3 x4 x5 x6 x7 x8 x9 x10 x11 x12 z false w
    rw [show lim z false = 4096 from by unfold lim; simp <;> omega] at LI
    have LI := Lib.hid LI
    clear hz
    go_wp2_with fail
    refine (CH.out _).mono ?_
    rintro e w3 ⟨rfl, hb3'⟩
    have hQ3 := hQ2.below hb3'
    have hb3 := below_trans hb2 hb2.size hb3'
    have q0 := hQ3.get 0 _
    have q1 := hQ3.get 1 _
    have q2 := hQ3.get 2 _
    have q3 := hQ3.get 3 _
    have q4 := hQ3.get 4 _
    have q5 := hQ3.get 5 _
    have q6 := hQ3.get 6 _
    have q7 := hQ3.get 7 _
    have q8 := hQ3.get 8 _
    have q9 := hQ3.get 9 _
    have q10 := hQ3.get 10 _
    have q11 := hQ3.get 11 _
    have q12 := hQ3.get 12 _
    have q13 := hQ3.get 13 _
    clear hQ3 hQ2 hb3' hb2
    go_wp2_with fail
    refine (LI.out _).mono ?_
    rintro e w4 ⟨rfl, hb4'⟩
    have hb4 := below_trans hb3 hb3.size hb4'
    go_wp2_with fail
    go_ret
    exact ⟨rfl, hb4⟩
end Go.Proofs.Ytigfopkdcmlcnaa
