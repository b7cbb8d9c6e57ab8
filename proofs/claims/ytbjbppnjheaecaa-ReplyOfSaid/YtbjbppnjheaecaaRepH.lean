/- A reply that has what upstream answered. -/
import Derived.Test.YtbjbppnjheaecaaRepE
import Derived.Outline
namespace Go.Proofs.Ytbjbppnjheaecaa
open Go.RowKit
set_option linter.unusedVariables false
set_option linter.unusedSimpArgs false
set_option maxRecDepth 20000
set_option maxHeartbeats 800000 in
theorem clone_recsL (A : Option Addr) (n c : Nat) (l : List Value) (w : World) (C : Nat) (h : Sl w C 4 A n l) (h1 : ∀ u ∈ l, u.oneCell' = true) (hA0 : A = none → n = 0 ∧ c = 0) (hn : n * 40 ≤ 140737488355328) :
    Calls Try.prog 34 #[.slice A n c] w fun e w' => ∃ v, e = .returned v ∧ OBM 4 w.heap.size w v n l w' := by
  have hl : l.length = n * 4 := h.1
  obtain ⟨i0, hi, hz0, hz1, hz2⟩ := info_parts4 rec_info
  cases A with
  | none =>
    obtain ⟨rfl, rfl⟩ := hA0 rfl
    have hq := fun w => Lib.run_eql_slice_nil (P := Try.prog) w 29 _ none 0 0 0 0 Try.underlying29
    clear hA0 h
    go_enter Try.func34, Try.ntmps34
    go_wp2_with fail
    go_ret
    obtain rfl : l = [] := List.eq_nil_of_length_eq_zero (by omega)
    exact ⟨_, rfl, OBM.start _⟩
  | some a =>
    have ho := OBM.fresh (sz := 4) (Below.refl w.heap.size w) (Nat.le_refl _) #[] 44 0 [] rfl rfl (by decide)
    have hS : Src Try.prog 4 29 (.slice (some a) n c) n l (w.alloc (.cells #[] 44)) := by
      refine Src.ofSlice _ Try.underlying29 a n c _ hl ?_ h1
      intro j u hu
      have hc := h.cells_at a rfl j u hu
      exact (World.cell?_alloc_lt w _ _ (World.block_lt_of_cell? w _ hc)).trans hc
    have hq := fun w => Lib.run_eql_slice_nil (P := Try.prog) w 29 _ (some a) n c 0 0 Try.underlying29
    clear hA0 h
    go_enter Try.func34, Try.ntmps34
    go_wp2_with (at_builtin; go_loud (refine wpList_append_obm rfl _ _ 29 29 rfl 44 i0 _ 40 Try.underlying29 hi hz0 hz1 hz2 rfl ho rfl rfl hS hl (by unfold maxLen; omega) (by omega) ?_))
    intro v' w' q1 q2 q3 q4
    have q1 : OBM 4 w.heap.size w v' n l w' := by simpa using q1
    go_wp2
    go_ret
    exact ⟨_, rfl, q1⟩
/-- A copy of records. -/
theorem clone_any (A : Option Addr) (n c : Nat) (rs : List RecT) (w : World) (h : Recs w A rs) (hl : rs.length = n) (hA0 : A = none → n = 0 ∧ c = 0) (hn : n * 40 ≤ 140737488355328) :
    Calls Try.prog 34 #[.slice A n c] w fun e w' => ∃ A' c', e = .returned (.slice A' n c') ∧ (A' = none → n = 0 ∧ c' = 0) ∧ n ≤ c' ∧ c' ≤ maxLen ∧ (∀ b off, A' = some ⟨b, off, none⟩ → w.heap.size ≤ b) ∧ Recs w' A' rs ∧ Below w.heap.size w w' := by
  subst hl
  refine (clone_recsL A _ c (flatR rs) w _ h.sl (flatR_one rs) hA0 hn).mono ?_
  rintro e w' ⟨v, rfl, ho⟩
  obtain ⟨A', c', rfl, h1, h2, h3⟩ := ho.slice
  refine ⟨A', c', rfl, h3, h1, h2, fun b off e => ?_, ho.recs rfl, ho.bel⟩
  subst e
  exact (ho.lt b rfl).1
theorem Recs.other {w : World} {A : Option Addr} {rs : List RecT} (h : Recs w A rs) (g j : Nat) (u : Value) (hA : ∀ b off, A = some ⟨b, off, none⟩ → b ≠ g) : Recs (w.setCell ⟨g, j, none⟩ u) A rs := by
  intro i r hr
  obtain ⟨b, off, rfl, hb, g0, g1, g2, g3⟩ := h i r hr
  have hne := hA b off rfl
  refine ⟨b, off, rfl, by rw [show (w.setCell ⟨g, j, none⟩ u).heap.size = w.heap.size by simp]; exact hb, ?_, ?_, ?_, ?_⟩ <;> (refine (World.cell?_of_block (Below.heap_setCell w ⟨g, j, none⟩ u b hne)).trans ?_; assumption)
set_option maxHeartbeats 3200000 in
theorem passed_any (m u : MsgT) (w : World) (h1 : Recs w u.A1 u.r1) (h2 : Recs w u.A2 u.r2) (h3 : Recs w u.A3 u.r3) (l1 : u.r1.length = u.n1) (l2 : u.r2.length = u.n2) (l3 : u.r3.length = u.n3)
    (d1 : u.A1 = none → u.n1 = 0 ∧ u.c1 = 0) (d2 : u.A2 = none → u.n2 = 0 ∧ u.c2 = 0) (d3 : u.A3 = none → u.n3 = 0 ∧ u.c3 = 0) (b1 : u.n1 * 40 ≤ 140737488355328) (b2 : u.n2 * 40 ≤ 140737488355328) (b3 : u.n3 * 40 ≤ 140737488355328) :
    Calls Try.prog 13 #[m.v, u.v] w fun e w' => ∃ A1 c1 A2 c2 A3 c3, e = .returned (.agg #[.int .u16 m.id, .bool true, .int .i64 m.op, .bool u.auth, .bool false, .bool m.want, .bool true, .int .i64 (u.code % 16), .string m.qn, .int .u16 m.qt, .slice A1 u.n1 c1, .slice A2 u.n2 c2, .slice A3 u.n3 c3, .int .i64 (minZ m.sz)]) ∧
      OwnA w.heap.size A1 ∧ OwnA w.heap.size A2 ∧ OwnA w.heap.size A3 ∧ Recs w' A1 u.r1 ∧ Recs w' A2 u.r2 ∧ Recs w' A3 u.r3 ∧ Below w.heap.size w w' := by
  obtain ⟨id, reply, op, auth, trunc, want, avail, cd, qn, qt, A1, n1, c1, r1, A2, n2, c2, r2, A3, n3, c3, r3, z⟩ := m
  obtain ⟨uid, ureply, uop, uauth, utrunc, uwant, uavail, ucd, uqn, uqt, U1, un1, uc1, s1, U2, un2, uc2, s2, U3, un3, uc3, s3, uz⟩ := u
  have BA := fun w => base_any ⟨id, reply, op, auth, trunc, want, avail, cd, qn, qt, A1, n1, c1, r1, A2, n2, c2, r2, A3, n3, c3, r3, z⟩ ucd w
  unfold MsgT.base at BA
  unfold MsgT.v at *
  dsimp only at *
  generalize minZ z = mz at *
  have BA := Lib.hid BA
  have K1 := Lib.hid (fun (w : World) (h : Recs w U1 s1) => clone_any U1 un1 uc1 s1 w h l1 d1 b1)
  have K2 := Lib.hid (fun (w : World) (h : Recs w U2 s2) => clone_any U2 un2 uc2 s2 w h l2 d2 b2)
  have K3 := Lib.hid (fun (w : World) (h : Recs w U3 s3) => clone_any U3 un3 uc3 s3 w h l3 d3 b3)
  clear d1 d2 d3 b1 b2 b3 l1 l2 l3
  have hU := ((Cs.new (w.alloc (.cells #[.int .u16 id, .bool reply, .int .i64 op, .bool auth, .bool trunc, .bool want, .bool avail, .int .i64 cd, .string qn, .int .u16 qt, .slice A1 n1 c1, .slice A2 n2 c2, .slice A3 n3 c3, .int .i64 z] 31)) #[.int .u16 uid, .bool ureply, .int .i64 uop, .bool uauth, .bool utrunc, .bool uwant, .bool uavail, .int .i64 ucd, .string uqn, .int .u16 uqt, .slice U1 un1 uc1, .slice U2 un2 uc2, .slice U3 un3 uc3, .int .i64 uz] 31 _).at_ (w.heap.size + 1) (by simp)).alloc (.cells #[.int .u16 0, .bool false, .int .i64 0, .bool false, .bool false, .bool false, .bool false, .int .i64 0, .string ⟨#[]⟩, .int .u16 0, .slice none 0 0, .slice none 0 0, .slice none 0 0, .int .i64 0] 31)
  have hR := (Cs.new ((w.alloc (.cells #[.int .u16 id, .bool reply, .int .i64 op, .bool auth, .bool trunc, .bool want, .bool avail, .int .i64 cd, .string qn, .int .u16 qt, .slice A1 n1 c1, .slice A2 n2 c2, .slice A3 n3 c3, .int .i64 z] 31)).alloc (.cells #[.int .u16 uid, .bool ureply, .int .i64 uop, .bool uauth, .bool utrunc, .bool uwant, .bool uavail, .int .i64 ucd, .string uqn, .int .u16 uqt, .slice U1 un1 uc1, .slice U2 un2 uc2, .slice U3 un3 uc3, .int .i64 uz] 31)) #[.int .u16 0, .bool false, .int .i64 0, .bool false, .bool false, .bool false, .bool false, .int .i64 0, .string ⟨#[]⟩, .int .u16 0, .slice none 0 0, .slice none 0 0, .slice none 0 0, .int .i64 0] 31 _).at_ (w.heap.size + 1 + 1) (by simp)
  have hb0 := (((Below.refl w.heap.size w).alloc (Nat.le_refl _) (.cells #[.int .u16 id, .bool reply, .int .i64 op, .bool auth, .bool trunc, .bool want, .bool avail, .int .i64 cd, .string qn, .int .u16 qt, .slice A1 n1 c1, .slice A2 n2 c2, .slice A3 n3 c3, .int .i64 z] 31)).alloc (by simp) (.cells #[.int .u16 uid, .bool ureply, .int .i64 uop, .bool uauth, .bool utrunc, .bool uwant, .bool uavail, .int .i64 ucd, .string uqn, .int .u16 uqt, .slice U1 un1 uc1, .slice U2 un2 uc2, .slice U3 un3 uc3, .int .i64 uz] 31)).alloc (by simp; omega) (.cells #[.int .u16 0, .bool false, .int .i64 0, .bool false, .bool false, .bool false, .bool false, .int .i64 0, .string ⟨#[]⟩, .int .u16 0, .slice none 0 0, .slice none 0 0, .slice none 0 0, .int .i64 0] 31)
  have H1 := Lib.hid h1
  have H2 := Lib.hid h2
  have H3 := Lib.hid h3
  clear h1 h2 h3
  go_enter Try.func13, Try.ntmps13
  go_wp2_with fail
  refine (BA.out _).mono ?_
  rintro e w1 ⟨rfl, hb1'⟩
  have hlt1 := (hR.below hb1').lt
  have hb1 := below_trans hb0 hb0.size hb1'
  have hb1a := hb1.alloc hb1.size (.cells #[.int .u16 id, .bool true, .int .i64 op, .bool uauth, .bool false, .bool want, .bool true, .int .i64 (ucd % 16), .string qn, .int .u16 qt, .slice none 0 0, .slice none 0 0, .slice none 0 0, .int .i64 mz] 31)
  have hU1 := (hU.below hb1').alloc (.cells #[.int .u16 id, .bool true, .int .i64 op, .bool uauth, .bool false, .bool want, .bool true, .int .i64 (ucd % 16), .string qn, .int .u16 qt, .slice none 0 0, .slice none 0 0, .slice none 0 0, .int .i64 mz] 31)
  have hR1 := (hR.below hb1').alloc (.cells #[.int .u16 id, .bool true, .int .i64 op, .bool uauth, .bool false, .bool want, .bool true, .int .i64 (ucd % 16), .string qn, .int .u16 qt, .slice none 0 0, .slice none 0 0, .slice none 0 0, .int .i64 mz] 31)
  have hT1 := Cs.new w1 #[.int .u16 id, .bool true, .int .i64 op, .bool uauth, .bool false, .bool want, .bool true, .int .i64 (ucd % 16), .string qn, .int .u16 qt, .slice none 0 0, .slice none 0 0, .slice none 0 0, .int .i64 mz] 31 [.int .u16 id, .bool true, .int .i64 op, .bool uauth, .bool false, .bool want, .bool true, .int .i64 (ucd % 16), .string qn, .int .u16 qt, .slice none 0 0, .slice none 0 0, .slice none 0 0, .int .i64 mz]
  have u3 := ((hU.below hb1').alloc (.cells #[.int .u16 id, .bool true, .int .i64 op, .bool false, .bool false, .bool want, .bool true, .int .i64 (ucd % 16), .string qn, .int .u16 qt, .slice none 0 0, .slice none 0 0, .slice none 0 0, .int .i64 mz] 31)).get 3 _
  have u10 := hU1.get 10 _
  have K1a := Lib.hid (K1.out _ (H1.out.below hb1a))
  have HB1 := Lib.hid hb1a
  clear hU hR hb0 BA hb1' hb1 hb1a K1
  go_wp2_with fail
  refine K1a.out.mono ?_
  rintro e w2 ⟨X1, x1, rfl, -, -, -, y1, P1, hb2'⟩
  have hle2 := hT1.lt
  have y1 : ∀ b off, X1 = some ⟨b, off, none⟩ → w1.heap.size + 1 ≤ b := by simpa using y1
  generalize hT : w1.heap.size = T at *
  have hb2 := below_trans HB1.out HB1.out.size hb2'
  have hU2 := hU1.below hb2'
  have hR2 := hR1.below hb2'
  have hT2 := hT1.below hb2'
  have t10 := hT2.get 10 _
  have f10 := hT2.froz 10 (by simp)
  have PH1 := Lib.hid P1
  have YH1 := Lib.hid y1
  have hr2 := hR2.lt
  clear hb2' HB1 K1a hU1 hR1 hT1 u10 P1 y1 u3 hT
  go_upto_region 4 with fail
  have hV1 := hT2.set' 10 (.slice X1 un1 x1) (by simp)
  simp only [List.set_cons_succ, List.set_cons_zero] at hV1
  have hVU1 := hU2.other T 10 (.slice X1 un1 x1) (by omega)
  have hVR1 := hR2.other T 10 (.slice X1 un1 x1) (by omega)
  have hvb1 := hb2.setCell (p := ⟨T, 10, none⟩) (by simp; omega) (.slice X1 un1 x1)
  have PV11 := Lib.hid (PH1.out.other T 10 (.slice X1 un1 x1) (fun b off e => by have := YH1.out b off e; omega))
  generalize hG1 : w2.setCell ⟨T, 10, none⟩ (.slice X1 un1 x1) = V1 at *
  clear hT2 hU2 hR2 hb2 PH1 t10 f10 hG1
  have u11 := hVU1.get 11 _
  have K2a := Lib.hid (K2.out _ (H2.out.below hvb1))
  have HB2 := Lib.hid hvb1
  have hlt2 := hV1.lt
  clear hvb1 K2
  go_wp2_with fail
  refine K2a.out.mono ?_
  rintro e w3 ⟨X2, x2, rfl, -, -, -, y2, P2, hb3'⟩
  have y2 : ∀ b off, X2 = some ⟨b, off, none⟩ → T + 1 ≤ b := fun b off e => by have := y2 b off e; omega
  have hb3 := below_trans HB2.out HB2.out.size hb3'
  have hU3 := hVU1.below hb3'
  have hR3 := hVR1.below hb3'
  have hT3 := hV1.below hb3'
  have t11 := hT3.get 11 _
  have f11 := hT3.froz 11 (by simp)
  have PH2 := Lib.hid P2
  have YH2 := Lib.hid y2
  have PH1 := Lib.hid (PV11.out.below hb3')
  clear hb3' HB2 K2a hVU1 hVR1 hV1 u11 P2 y2 PV11
  go_upto_region 5 with fail
  have hV2 := hT3.set' 11 (.slice X2 un2 x2) (by simp)
  simp only [List.set_cons_succ, List.set_cons_zero] at hV2
  have hVU2 := hU3.other T 11 (.slice X2 un2 x2) (by omega)
  have hVR2 := hR3.other T 11 (.slice X2 un2 x2) (by omega)
  have hvb2 := hb3.setCell (p := ⟨T, 11, none⟩) (by simp; omega) (.slice X2 un2 x2)
  have PV12 := Lib.hid (PH1.out.other T 11 (.slice X2 un2 x2) (fun b off e => by have := YH1.out b off e; omega))
  have PV22 := Lib.hid (PH2.out.other T 11 (.slice X2 un2 x2) (fun b off e => by have := YH2.out b off e; omega))
  generalize hG2 : w3.setCell ⟨T, 11, none⟩ (.slice X2 un2 x2) = V2 at *
  clear hT3 hU3 hR3 hb3 PH1 PH2 t11 f11 hG2
  have u12 := hVU2.get 12 _
  have K3a := Lib.hid (K3.out _ (H3.out.below hvb2))
  have HB3 := Lib.hid hvb2
  have hlt3 := hV2.lt
  clear hvb2 K3
  go_wp2_with fail
  refine K3a.out.mono ?_
  rintro e w4 ⟨X3, x3, rfl, -, -, -, y3, P3, hb4'⟩
  have y3 : ∀ b off, X3 = some ⟨b, off, none⟩ → T + 1 ≤ b := fun b off e => by have := y3 b off e; omega
  have hb4 := below_trans HB3.out HB3.out.size hb4'
  have hU4 := hVU2.below hb4'
  have hR4 := hVR2.below hb4'
  have hT4 := hV2.below hb4'
  have t12 := hT4.get 12 _
  have f12 := hT4.froz 12 (by simp)
  have PH3 := Lib.hid P3
  have YH3 := Lib.hid y3
  have PH1 := Lib.hid (PV12.out.below hb4')
  have PH2 := Lib.hid (PV22.out.below hb4')
  clear hb4' HB3 K3a hVU2 hVR2 hV2 u12 P3 y3 PV12 PV22
  go_upto_region 6 with fail
  have hV3 := hT4.set' 12 (.slice X3 un3 x3) (by simp)
  simp only [List.set_cons_succ, List.set_cons_zero] at hV3
  have hVU3 := hU4.other T 12 (.slice X3 un3 x3) (by omega)
  have hVR3 := hR4.other T 12 (.slice X3 un3 x3) (by omega)
  have hvb3 := hb4.setCell (p := ⟨T, 12, none⟩) (by simp; omega) (.slice X3 un3 x3)
  have PV13 := Lib.hid (PH1.out.other T 12 (.slice X3 un3 x3) (fun b off e => by have := YH1.out b off e; omega))
  have PV23 := Lib.hid (PH2.out.other T 12 (.slice X3 un3 x3) (fun b off e => by have := YH2.out b off e; omega))
  have PV33 := Lib.hid (PH3.out.other T 12 (.slice X3 un3 x3) (fun b off e => by have := YH3.out b off e; omega))
  generalize hG3 : w4.setCell ⟨T, 12, none⟩ (.slice X3 un3 x3) = V3 at *
  clear hT4 hU4 hR4 hb4 PH1 PH2 PH3 t12 f12 hG3
  have m0 := hV3.get 0 _
  have r0 := hVR3.get 0 _
  have f0 := hVR3.froz 0 (by simp)
  have m1 := hV3.get 1 _
  have r1 := hVR3.get 1 _
  have f1 := hVR3.froz 1 (by simp)
  have m2 := hV3.get 2 _
  have r2 := hVR3.get 2 _
  have f2 := hVR3.froz 2 (by simp)
  have m3 := hV3.get 3 _
  have r3 := hVR3.get 3 _
  have f3 := hVR3.froz 3 (by simp)
  have m4 := hV3.get 4 _
  have r4 := hVR3.get 4 _
  have f4 := hVR3.froz 4 (by simp)
  have m5 := hV3.get 5 _
  have r5 := hVR3.get 5 _
  have f5 := hVR3.froz 5 (by simp)
  have m6 := hV3.get 6 _
  have r6 := hVR3.get 6 _
  have f6 := hVR3.froz 6 (by simp)
  have m7 := hV3.get 7 _
  have r7 := hVR3.get 7 _
  have f7 := hVR3.froz 7 (by simp)
  have m8 := hV3.get 8 _
  have r8 := hVR3.get 8 _
  have f8 := hVR3.froz 8 (by simp)
  have m9 := hV3.get 9 _
  have r9 := hVR3.get 9 _
  have f9 := hVR3.froz 9 (by simp)
  have m10 := hV3.get 10 _
  have r10 := hVR3.get 10 _
  have f10 := hVR3.froz 10 (by simp)
  have m11 := hV3.get 11 _
  have r11 := hVR3.get 11 _
  have f11 := hVR3.froz 11 (by simp)
  have m12 := hV3.get 12 _
  have r12 := hVR3.get 12 _
  have f12 := hVR3.froz 12 (by simp)
  have m13 := hV3.get 13 _
  have r13 := hVR3.get 13 _
  have f13 := hVR3.froz 13 (by simp)
  have m0 := hV3.get 0 _
  have r0 := hVR3.get 0 _
  have f0 := hVR3.froz 0 (by simp)
  have m1 := hV3.get 1 _
  have r1 := hVR3.get 1 _
  have f1 := hVR3.froz 1 (by simp)
  have m2 := hV3.get 2 _
  have r2 := hVR3.get 2 _
  have f2 := hVR3.froz 2 (by simp)
  have m3 := hV3.get 3 _
  have r3 := hVR3.get 3 _
  have f3 := hVR3.froz 3 (by simp)
  have m4 := hV3.get 4 _
  have r4 := hVR3.get 4 _
  have f4 := hVR3.froz 4 (by simp)
  have m5 := hV3.get 5 _
  have r5 := hVR3.get 5 _
  have f5 := hVR3.froz 5 (by simp)
  have m6 := hV3.get 6 _
  have r6 := hVR3.get 6 _
  have f6 := hVR3.froz 6 (by simp)
  have m7 := hV3.get 7 _
  have r7 := hVR3.get 7 _
  have f7 := hVR3.froz 7 (by simp)
  have m8 := hV3.get 8 _
  have r8 := hVR3.get 8 _
  have f8 := hVR3.froz 8 (by simp)
  have m9 := hV3.get 9 _
  have r9 := hVR3.get 9 _
  have f9 := hVR3.froz 9 (by simp)
  have m10 := hV3.get 10 _
  have r10 := hVR3.get 10 _
  have f10 := hVR3.froz 10 (by simp)
  have m11 := hV3.get 11 _
  have r11 := hVR3.get 11 _
  have f11 := hVR3.froz 11 (by simp)
  have m12 := hV3.get 12 _
  have r12 := hVR3.get 12 _
  have f12 := hVR3.froz 12 (by simp)
  have m13 := hV3.get 13 _
  have r13 := hVR3.get 13 _
  have f13 := hVR3.froz 13 (by simp)
  have HB := Lib.hid hvb3
  clear hV3 hVR3 hVU3 hvb3
  go_wp2_with fail
  refine bodyPost_ret (v := .agg #[.int .u16 id, .bool true, .int .i64 op, .bool uauth, .bool false, .bool want, .bool true, .int .i64 (ucd % 16), .string qn, .int .u16 qt, .slice X1 un1 x1, .slice X2 un2 x2, .slice X3 un3 x3, .int .i64 mz]) (by simp [results, Try.results13, go_sem, r0, r1, r2, r3, r4, r5, r6, r7, r8, r9, r10, r11, r12, r13]) rfl ⟨X1, x1, X2, x2, X3, x3, rfl, fun b off e => by have := YH1.out b off e; omega, fun b off e => by have := YH2.out b off e; omega, fun b off e => by have := YH3.out b off e; omega, ?_, ?_, ?_, ?_⟩
  · iterate 14 (refine Recs.other ?_ _ _ _ (fun b off e => by have := YH1.out b off e; omega))
    exact PV13.out
  · iterate 14 (refine Recs.other ?_ _ _ _ (fun b off e => by have := YH2.out b off e; omega))
    exact PV23.out
  · iterate 14 (refine Recs.other ?_ _ _ _ (fun b off e => by have := YH3.out b off e; omega))
    exact PV33.out
  · iterate 14 (refine Below.setCell ?_ (by simp; omega) _)
    exact HB.out
end Go.Proofs.Ytbjbppnjheaecaa
