/- A reply that leads to another name, in general. -/
import Derived.Test.YtbjbppnjheaecaaRepJ
import Derived.Test.YtbjbppnjheaecaaActB
import Derived.Outline
namespace Go.Proofs.Ytbjbppnjheaecaa
open Go.RowKit
set_option linter.unusedVariables false
set_option linter.unusedSimpArgs false
set_option maxRecDepth 20000
/-- The cells of one record. -/
theorem Cs.recs1 {w : World} {B : Nat} {vs : List Value} (h : Cs w B vs) (r : RecT) (hv : vs = recCells r) : Recs w (some ⟨B, 0, none⟩) [r] := by
  subst hv
  intro i r' hr
  obtain ⟨rfl, rfl⟩ : i = 0 ∧ r' = r := by
    cases i with
    | zero => simp at hr; exact ⟨rfl, hr.symm⟩
    | succ i => simp at hr
  exact ⟨B, 0, rfl, h.lt, h.get 0 _, h.get 1 _, h.get 2 _, h.get 3 _⟩
set_option maxHeartbeats 3200000 in
theorem rewritten_none (q : MsgT) (s : ByteArray) (b : Bool) (w : World) (hs : s.size ≤ 140737488355328) (hn : q.qn.size ≤ 140737488355328) (hg : goalOf 7 s b q.qn = none) : TellsM Try.prog 39 #[q.v, act3 7 s b] w (q.baseT 2 false []) := by
  unfold TellsM
  obtain ⟨id, reply, op, auth, trunc, want, avail, cd, qn, qt, A1, n1, c1, r1, A2, n2, c2, r2, A3, n3, c3, r3, z⟩ := q
  have GO := fun w => goal_any 7 s b qn w hs hn
  rw [hg] at GO
  unfold act3 at *
  have BA := fun w => base_any ⟨id, reply, op, auth, trunc, want, avail, cd, qn, qt, A1, n1, c1, r1, A2, n2, c2, r2, A3, n3, c3, r3, z⟩ 2 w
  unfold MsgT.base at BA
  unfold MsgT.v at *
  dsimp only at *
  have HG := Lib.hid hg
  clear hg
  generalize hmz : minZ z = mz at *
  rw [show (2 : Int) % 16 = 2 by decide] at BA
  have GO := Lib.hid GO
  have BA := Lib.hid BA
  have hQ := Cs.new w #[.int .u16 id, .bool reply, .int .i64 op, .bool auth, .bool trunc, .bool want, .bool avail, .int .i64 cd, .string qn, .int .u16 qt, .slice A1 n1 c1, .slice A2 n2 c2, .slice A3 n3 c3, .int .i64 z] 31 [.int .u16 id, .bool reply, .int .i64 op, .bool auth, .bool trunc, .bool want, .bool avail, .int .i64 cd, .string qn, .int .u16 qt, .slice A1 n1 c1, .slice A2 n2 c2, .slice A3 n3 c3, .int .i64 z]
  have q8 := hQ.get 8 _
  go_enter Try.func39, Try.ntmps39
  go_wp2_with fail
  refine (GO.out _).mono ?_
  rintro e w1 ⟨rfl, hb1'⟩
  have hQ1 := ((hQ.alloc _).alloc _).below hb1'
  have hR1 := (((Cs.new ((w.alloc (.cells #[.int .u16 id, .bool reply, .int .i64 op, .bool auth, .bool trunc, .bool want, .bool avail, .int .i64 cd, .string qn, .int .u16 qt, .slice A1 n1 c1, .slice A2 n2 c2, .slice A3 n3 c3, .int .i64 z] 31)).alloc (.cells #[.int .i64 7, .string s, .bool b, .slice none 0 0] 54)) #[.int .u16 0, .bool false, .int .i64 0, .bool false, .bool false, .bool false, .bool false, .int .i64 0, .string ⟨#[]⟩, .int .u16 0, .slice none 0 0, .slice none 0 0, .slice none 0 0, .int .i64 0] 31 [.int .u16 0, .bool false, .int .i64 0, .bool false, .bool false, .bool false, .bool false, .int .i64 0, .string ⟨#[]⟩, .int .u16 0, .slice none 0 0, .slice none 0 0, .slice none 0 0, .int .i64 0]).at_ (w.heap.size + 1 + 1) (by simp)).below hb1')
  have hb1 := below_trans (((Below.refl _ _).alloc (Nat.le_refl _) _ |>.alloc (by simp) _).alloc (by simp; omega) _) (by simp; omega) hb1'
  have q0 := hQ1.get 0 _
  have q1 := hQ1.get 1 _
  have q2 := hQ1.get 2 _
  have q3 := hQ1.get 3 _
  have q4 := hQ1.get 4 _
  have q5 := hQ1.get 5 _
  have q6 := hQ1.get 6 _
  have q7 := hQ1.get 7 _
  have q8 := hQ1.get 8 _
  have q9 := hQ1.get 9 _
  have q10 := hQ1.get 10 _
  have q11 := hQ1.get 11 _
  have q12 := hQ1.get 12 _
  have q13 := hQ1.get 13 _
  clear hQ hb1'
  simp only [strOf, Option.isSome]
  go_wp2_with fail
  refine (BA.out _).mono ?_
  rintro e w2 ⟨rfl, hb2'⟩
  have hR2 := hR1.below hb2'
  have hb2 := below_trans hb1 hb1.size hb2'
  have hle := hb1.size
  clear q0 q1 q2 q3 q4 q5 q6 q7 q8 q9 q10 q11 q12 q13 hQ1 hR1
  have r0 := hR2.get 0 _
  have r1 := hR2.get 1 _
  have r2 := hR2.get 2 _
  have r3 := hR2.get 3 _
  have r4 := hR2.get 4 _
  have r5 := hR2.get 5 _
  have r6 := hR2.get 6 _
  have r7 := hR2.get 7 _
  have r8 := hR2.get 8 _
  have r9 := hR2.get 9 _
  have r10 := hR2.get 10 _
  have r11 := hR2.get 11 _
  have r12 := hR2.get 12 _
  have r13 := hR2.get 13 _
  have f0 := hR2.froz 0 (by simp)
  have f1 := hR2.froz 1 (by simp)
  have f2 := hR2.froz 2 (by simp)
  have f3 := hR2.froz 3 (by simp)
  have f4 := hR2.froz 4 (by simp)
  have f5 := hR2.froz 5 (by simp)
  have f6 := hR2.froz 6 (by simp)
  have f7 := hR2.froz 7 (by simp)
  have f8 := hR2.froz 8 (by simp)
  have f9 := hR2.froz 9 (by simp)
  have f10 := hR2.froz 10 (by simp)
  have f11 := hR2.froz 11 (by simp)
  have f12 := hR2.froz 12 (by simp)
  have f13 := hR2.froz 13 (by simp)
  have hRl := hR2.lt
  clear hR2 hb1 hb2'
  go_wp2_with fail
  refine bodyPost_ret (v := .agg #[.int .u16 id, .bool true, .int .i64 op, .bool false, .bool false, .bool want, .bool true, .int .i64 (2), .string qn, .int .u16 qt, .slice none 0 0, .slice none 0 0, .slice none 0 0, .int .i64 mz]) (by simp [results, Try.results39, go_sem, r0, r1, r2, r3, r4, r5, r6, r7, r8, r9, r10, r11, r12, r13]) rfl ⟨⟨id, true, op, false, false, want, true, 2, qn, qt, none, 0, 0, [], none, 0, 0, [], none, 0, 0, [], mz⟩, rfl, ⟨rfl, rfl, rfl, rfl, rfl, rfl, rfl, rfl, rfl, rfl, hmz.symm, rfl, rfl, rfl⟩, ⟨Recs.nil _ _, Recs.nil _ _, Recs.nil _ _, rfl, rfl, rfl, Nat.zero_le _, Nat.zero_le _, Nat.zero_le _⟩, ⟨OwnA.none _, OwnA.none _, OwnA.none _⟩, ?_⟩
  iterate 14 (refine Below.setCell ?_ (by simp; omega) _)
  exact hb2
set_option maxHeartbeats 3200000 in
theorem rewritten_some (q : MsgT) (s : ByteArray) (b : Bool) (w : World) (hs : s.size ≤ 140737488355328) (hn : q.qn.size ≤ 140737488355328) (g : ByteArray) (hg : goalOf 7 s b q.qn = some g) : TellsM Try.prog 39 #[q.v, act3 7 s b] w (q.baseT 0 false [(q.qn, 5, 60, g)]) := by
  unfold TellsM
  obtain ⟨id, reply, op, auth, trunc, want, avail, cd, qn, qt, A1, n1, c1, r1, A2, n2, c2, r2, A3, n3, c3, r3, z⟩ := q
  have GO := fun w => goal_any 7 s b qn w hs hn
  rw [hg] at GO
  unfold act3 at *
  have BA := fun w => base_any ⟨id, reply, op, auth, trunc, want, avail, cd, qn, qt, A1, n1, c1, r1, A2, n2, c2, r2, A3, n3, c3, r3, z⟩ 0 w
  unfold MsgT.base at BA
  unfold MsgT.v at *
  dsimp only at *
  have HG := Lib.hid hg
  clear hg
  generalize hmz : minZ z = mz at *
  rw [show (0 : Int) % 16 = 0 by decide] at BA
  have GO := Lib.hid GO
  have BA := Lib.hid BA
  have hQ := Cs.new w #[.int .u16 id, .bool reply, .int .i64 op, .bool auth, .bool trunc, .bool want, .bool avail, .int .i64 cd, .string qn, .int .u16 qt, .slice A1 n1 c1, .slice A2 n2 c2, .slice A3 n3 c3, .int .i64 z] 31 [.int .u16 id, .bool reply, .int .i64 op, .bool auth, .bool trunc, .bool want, .bool avail, .int .i64 cd, .string qn, .int .u16 qt, .slice A1 n1 c1, .slice A2 n2 c2, .slice A3 n3 c3, .int .i64 z]
  have q8 := hQ.get 8 _
  go_enter Try.func39, Try.ntmps39
  go_wp2_with fail
  refine (GO.out _).mono ?_
  rintro e w1 ⟨rfl, hb1'⟩
  have hQ1 := ((hQ.alloc _).alloc _).below hb1'
  have hR1 := (((Cs.new ((w.alloc (.cells #[.int .u16 id, .bool reply, .int .i64 op, .bool auth, .bool trunc, .bool want, .bool avail, .int .i64 cd, .string qn, .int .u16 qt, .slice A1 n1 c1, .slice A2 n2 c2, .slice A3 n3 c3, .int .i64 z] 31)).alloc (.cells #[.int .i64 7, .string s, .bool b, .slice none 0 0] 54)) #[.int .u16 0, .bool false, .int .i64 0, .bool false, .bool false, .bool false, .bool false, .int .i64 0, .string ⟨#[]⟩, .int .u16 0, .slice none 0 0, .slice none 0 0, .slice none 0 0, .int .i64 0] 31 [.int .u16 0, .bool false, .int .i64 0, .bool false, .bool false, .bool false, .bool false, .int .i64 0, .string ⟨#[]⟩, .int .u16 0, .slice none 0 0, .slice none 0 0, .slice none 0 0, .int .i64 0]).at_ (w.heap.size + 1 + 1) (by simp)).below hb1')
  have hb1 := below_trans (((Below.refl _ _).alloc (Nat.le_refl _) _ |>.alloc (by simp) _).alloc (by simp; omega) _) (by simp; omega) hb1'
  have q0 := hQ1.get 0 _
  have q1 := hQ1.get 1 _
  have q2 := hQ1.get 2 _
  have q3 := hQ1.get 3 _
  have q4 := hQ1.get 4 _
  have q5 := hQ1.get 5 _
  have q6 := hQ1.get 6 _
  have q7 := hQ1.get 7 _
  have q8 := hQ1.get 8 _
  have q9 := hQ1.get 9 _
  have q10 := hQ1.get 10 _
  have q11 := hQ1.get 11 _
  have q12 := hQ1.get 12 _
  have q13 := hQ1.get 13 _
  clear hQ hb1'
  simp only [strOf, Option.isSome]
  go_wp2_with fail
  refine (BA.out _).mono ?_
  rintro e w2 ⟨rfl, hb2'⟩
  have hR2 := hR1.below hb2'
  have hb2 := below_trans hb1 hb1.size hb2'
  have q8 := ((hQ1.below hb2').alloc (.cells #[.int .u16 id, .bool true, .int .i64 op, .bool false, .bool false, .bool want, .bool true, .int .i64 (0), .string qn, .int .u16 qt, .slice none 0 0, .slice none 0 0, .slice none 0 0, .int .i64 mz] 31)).get 8 _
  clear q0 q1 q2 q3 q4 q5 q6 q7 q9 q10 q11 q12 q13
  go_upto_region 6 with fail
  have hM := (Cs.new w2 #[.int .u16 id, .bool true, .int .i64 op, .bool false, .bool false, .bool want, .bool true, .int .i64 (0), .string qn, .int .u16 qt, .slice (some ⟨w2.heap.size + 1, 0, none⟩) 1 1, .slice none 0 0, .slice none 0 0, .int .i64 mz] 31 [.int .u16 id, .bool true, .int .i64 op, .bool false, .bool false, .bool want, .bool true, .int .i64 (0), .string qn, .int .u16 qt, .slice (some ⟨w2.heap.size + 1, 0, none⟩) 1 1, .slice none 0 0, .slice none 0 0, .int .i64 mz]).alloc (.cells #[.string qn, .int .u16 5, .int .u32 60, .string g] 44)
  have hG := (Cs.new (w2.alloc (.cells #[.int .u16 id, .bool true, .int .i64 op, .bool false, .bool false, .bool want, .bool true, .int .i64 (0), .string qn, .int .u16 qt, .slice (some ⟨w2.heap.size + 1, 0, none⟩) 1 1, .slice none 0 0, .slice none 0 0, .int .i64 mz] 31)) #[.string qn, .int .u16 5, .int .u32 60, .string g] 44 [.string qn, .int .u16 5, .int .u32 60, .string g]).at_ (w2.heap.size + 1) (by simp)
  have hR3 := (hR2.alloc (.cells #[.int .u16 id, .bool true, .int .i64 op, .bool false, .bool false, .bool want, .bool true, .int .i64 (0), .string qn, .int .u16 qt, .slice (some ⟨w2.heap.size + 1, 0, none⟩) 1 1, .slice none 0 0, .slice none 0 0, .int .i64 mz] 31)).alloc (.cells #[.string qn, .int .u16 5, .int .u32 60, .string g] 44)
  have hb3 := (hb2.alloc hb2.size (.cells #[.int .u16 id, .bool true, .int .i64 op, .bool false, .bool false, .bool want, .bool true, .int .i64 (0), .string qn, .int .u16 qt, .slice (some ⟨w2.heap.size + 1, 0, none⟩) 1 1, .slice none 0 0, .slice none 0 0, .int .i64 mz] 31)).alloc (by simp; have := hb2.size; omega) (.cells #[.string qn, .int .u16 5, .int .u32 60, .string g] 44)
  have hle := hb2.size
  have hRl := hR2.lt
  generalize hW3 : (w2.alloc (.cells #[.int .u16 id, .bool true, .int .i64 op, .bool false, .bool false, .bool want, .bool true, .int .i64 (0), .string qn, .int .u16 qt, .slice (some ⟨w2.heap.size + 1, 0, none⟩) 1 1, .slice none 0 0, .slice none 0 0, .int .i64 mz] 31)).alloc (.cells #[.string qn, .int .u16 5, .int .u32 60, .string g] 44) = W3 at *
  generalize hM2 : w2.heap.size = M at *
  have m0 := hM.get 0 _
  have m1 := hM.get 1 _
  have m2 := hM.get 2 _
  have m3 := hM.get 3 _
  have m4 := hM.get 4 _
  have m5 := hM.get 5 _
  have m6 := hM.get 6 _
  have m7 := hM.get 7 _
  have m8 := hM.get 8 _
  have m9 := hM.get 9 _
  have m10 := hM.get 10 _
  have m11 := hM.get 11 _
  have m12 := hM.get 12 _
  have m13 := hM.get 13 _
  have r0 := hR3.get 0 _
  have r1 := hR3.get 1 _
  have r2 := hR3.get 2 _
  have r3 := hR3.get 3 _
  have r4 := hR3.get 4 _
  have r5 := hR3.get 5 _
  have r6 := hR3.get 6 _
  have r7 := hR3.get 7 _
  have r8 := hR3.get 8 _
  have r9 := hR3.get 9 _
  have r10 := hR3.get 10 _
  have r11 := hR3.get 11 _
  have r12 := hR3.get 12 _
  have r13 := hR3.get 13 _
  have f0 := hR3.froz 0 (by simp)
  have f1 := hR3.froz 1 (by simp)
  have f2 := hR3.froz 2 (by simp)
  have f3 := hR3.froz 3 (by simp)
  have f4 := hR3.froz 4 (by simp)
  have f5 := hR3.froz 5 (by simp)
  have f6 := hR3.froz 6 (by simp)
  have f7 := hR3.froz 7 (by simp)
  have f8 := hR3.froz 8 (by simp)
  have f9 := hR3.froz 9 (by simp)
  have f10 := hR3.froz 10 (by simp)
  have f11 := hR3.froz 11 (by simp)
  have f12 := hR3.froz 12 (by simp)
  have f13 := hR3.froz 13 (by simp)
  clear hM hR3 q8 hR2 hR1 hQ1 hb1 hb2 hb2' hW3
  go_wp2_with fail
  refine bodyPost_ret (v := .agg #[.int .u16 id, .bool true, .int .i64 op, .bool false, .bool false, .bool want, .bool true, .int .i64 (0), .string qn, .int .u16 qt, .slice (some ⟨M + 1, 0, none⟩) 1 1, .slice none 0 0, .slice none 0 0, .int .i64 mz]) (by simp [results, Try.results39, go_sem, r0, r1, r2, r3, r4, r5, r6, r7, r8, r9, r10, r11, r12, r13]) rfl ⟨⟨id, true, op, false, false, want, true, 0, qn, qt, some ⟨M + 1, 0, none⟩, 1, 1, [(qn, 5, 60, g)], none, 0, 0, [], none, 0, 0, [], mz⟩, rfl, ⟨rfl, rfl, rfl, rfl, rfl, rfl, rfl, rfl, rfl, rfl, hmz.symm, rfl, rfl, rfl⟩, ⟨?_, Recs.nil _ _, Recs.nil _ _, rfl, rfl, rfl, by show 1 ≤ maxLen; unfold maxLen; omega, Nat.zero_le _, Nat.zero_le _⟩, ⟨fun b off e => by simp at e; omega, OwnA.none _, OwnA.none _⟩, ?_⟩
  · refine Cs.recs1 (vs := [.string qn, .int .u16 5, .int .u32 60, .string g]) ?_ (qn, 5, 60, g) rfl
    iterate 14 (refine Cs.other ?_ _ _ _ (by omega))
    exact hG
  · iterate 14 (refine Below.setCell ?_ (by simp; omega) _)
    exact hb3
end Go.Proofs.Ytbjbppnjheaecaa
