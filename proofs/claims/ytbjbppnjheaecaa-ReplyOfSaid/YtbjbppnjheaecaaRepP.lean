/- The reply by an action, in general. The reply by an action, in general: the other actions. -/
import Derived.Test.YtbjbppnjheaecaaRepL
import Derived.Outline
namespace Go.Proofs.Ytbjbppnjheaecaa
open Go.RowKit
set_option linter.unusedVariables false
set_option linter.unusedSimpArgs false
set_option maxRecDepth 20000
theorem MsgHas.other {w : World} {m : MsgT} {B : Nat} (h : MsgHas w m) (o : OwnM B m) (g j : Nat) (u : Value) (hg : g < B) : MsgHas (w.setCell ⟨g, j, none⟩ u) m :=
  ⟨h.h1.other _ _ _ (fun b off e => by have := o.o1 b off e; omega), h.h2.other _ _ _ (fun b off e => by have := o.o2 b off e; omega), h.h3.other _ _ _ (fun b off e => by have := o.o3 b off e; omega), h.l1, h.l2, h.l3, h.x1, h.x2, h.x3⟩
theorem OwnM.more {B C : Nat} {m : MsgT} (h : OwnM B m) (hC : C ≤ B) : OwnM C m := ⟨h.o1.more hC, h.o2.more hC, h.o3.more hC⟩
theorem base_tells (q : MsgT) (code : Int) (w : World) : TellsM Try.prog 11 #[q.v, .int .i64 code] w (q.baseT code false []) := by
  refine (base_any q code w).mono ?_
  rintro e w' ⟨rfl, hb⟩
  exact ⟨q.baseT code false [], rfl, SameT.refl _, MsgHas.base _ _ _ _, ⟨OwnA.none _, OwnA.none _, OwnA.none _⟩, hb⟩
set_option maxHeartbeats 1600000 in
theorem changes8 (s : ByteArray) (b : Bool) (RA : Option Addr) (n rc : Nat) (tcp : Bool) (w : World) : Calls Try.prog 23 #[.agg #[.int .i64 8, .string s, .bool b, .slice RA n rc], .bool tcp] w fun e w' => e = .returned (.bool true) ∧ Below w.heap.size w w' := by
  go_enter Try.func23, Try.ntmps23
  go_wp2_with fail
  go_ret
  exact ⟨rfl, (Below.refl _ _).alloc (Nat.le_refl _) _⟩
set_option maxHeartbeats 3200000 in
theorem of_drop (q u : MsgT) (s : ByteArray) (b tcp : Bool) (w : World) :
    TellsB Try.prog 21 #[q.v, u.v, .agg #[.int .i64 3, .string s, .bool b, .slice none 0 0], .bool tcp] w zeroT false := by
  unfold TellsB
  obtain ⟨id, reply, op, auth, trunc, want, avail, cd, qn, qt, A1, n1, c1, r1, A2, n2, c2, r2, A3, n3, c3, r3, z⟩ := q
  obtain ⟨uid, ureply, uop, uauth, utrunc, uwant, uavail, ucd, uqn, uqt, U1, un1, uc1, s1, U2, un2, uc2, s2, U3, un3, uc3, s3, uz⟩ := u
  unfold MsgT.v at *
  dsimp only at *
  have hQ := (((Cs.new w #[.int .u16 id, .bool reply, .int .i64 op, .bool auth, .bool trunc, .bool want, .bool avail, .int .i64 cd, .string qn, .int .u16 qt, .slice A1 n1 c1, .slice A2 n2 c2, .slice A3 n3 c3, .int .i64 z] 31 [.int .u16 id, .bool reply, .int .i64 op, .bool auth, .bool trunc, .bool want, .bool avail, .int .i64 cd, .string qn, .int .u16 qt, .slice A1 n1 c1, .slice A2 n2 c2, .slice A3 n3 c3, .int .i64 z]).alloc (.cells #[.int .u16 uid, .bool ureply, .int .i64 uop, .bool uauth, .bool utrunc, .bool uwant, .bool uavail, .int .i64 ucd, .string uqn, .int .u16 uqt, .slice U1 un1 uc1, .slice U2 un2 uc2, .slice U3 un3 uc3, .int .i64 uz] 31)).alloc (.cells #[.int .i64 3, .string s, .bool b, .slice none 0 0] 54)).alloc (.cells #[.int .u16 0, .bool false, .int .i64 0, .bool false, .bool false, .bool false, .bool false, .int .i64 0, .string ⟨#[]⟩, .int .u16 0, .slice none 0 0, .slice none 0 0, .slice none 0 0, .int .i64 0] 31)
  have hU := (((Cs.new (w.alloc (.cells #[.int .u16 id, .bool reply, .int .i64 op, .bool auth, .bool trunc, .bool want, .bool avail, .int .i64 cd, .string qn, .int .u16 qt, .slice A1 n1 c1, .slice A2 n2 c2, .slice A3 n3 c3, .int .i64 z] 31)) #[.int .u16 uid, .bool ureply, .int .i64 uop, .bool uauth, .bool utrunc, .bool uwant, .bool uavail, .int .i64 ucd, .string uqn, .int .u16 uqt, .slice U1 un1 uc1, .slice U2 un2 uc2, .slice U3 un3 uc3, .int .i64 uz] 31 [.int .u16 uid, .bool ureply, .int .i64 uop, .bool uauth, .bool utrunc, .bool uwant, .bool uavail, .int .i64 ucd, .string uqn, .int .u16 uqt, .slice U1 un1 uc1, .slice U2 un2 uc2, .slice U3 un3 uc3, .int .i64 uz]).at_ (w.heap.size + 1) (by simp)).alloc (.cells #[.int .i64 3, .string s, .bool b, .slice none 0 0] 54)).alloc (.cells #[.int .u16 0, .bool false, .int .i64 0, .bool false, .bool false, .bool false, .bool false, .int .i64 0, .string ⟨#[]⟩, .int .u16 0, .slice none 0 0, .slice none 0 0, .slice none 0 0, .int .i64 0] 31)
  have hA := ((Cs.new ((w.alloc (.cells #[.int .u16 id, .bool reply, .int .i64 op, .bool auth, .bool trunc, .bool want, .bool avail, .int .i64 cd, .string qn, .int .u16 qt, .slice A1 n1 c1, .slice A2 n2 c2, .slice A3 n3 c3, .int .i64 z] 31)).alloc (.cells #[.int .u16 uid, .bool ureply, .int .i64 uop, .bool uauth, .bool utrunc, .bool uwant, .bool uavail, .int .i64 ucd, .string uqn, .int .u16 uqt, .slice U1 un1 uc1, .slice U2 un2 uc2, .slice U3 un3 uc3, .int .i64 uz] 31)) #[.int .i64 3, .string s, .bool b, .slice none 0 0] 54 [.int .i64 3, .string s, .bool b, .slice none 0 0]).at_ (w.heap.size + 1 + 1) (by simp)).alloc (.cells #[.int .u16 0, .bool false, .int .i64 0, .bool false, .bool false, .bool false, .bool false, .int .i64 0, .string ⟨#[]⟩, .int .u16 0, .slice none 0 0, .slice none 0 0, .slice none 0 0, .int .i64 0] 31)
  have hR := (Cs.new (((w.alloc (.cells #[.int .u16 id, .bool reply, .int .i64 op, .bool auth, .bool trunc, .bool want, .bool avail, .int .i64 cd, .string qn, .int .u16 qt, .slice A1 n1 c1, .slice A2 n2 c2, .slice A3 n3 c3, .int .i64 z] 31)).alloc (.cells #[.int .u16 uid, .bool ureply, .int .i64 uop, .bool uauth, .bool utrunc, .bool uwant, .bool uavail, .int .i64 ucd, .string uqn, .int .u16 uqt, .slice U1 un1 uc1, .slice U2 un2 uc2, .slice U3 un3 uc3, .int .i64 uz] 31)).alloc (.cells #[.int .i64 3, .string s, .bool b, .slice none 0 0] 54)) #[.int .u16 0, .bool false, .int .i64 0, .bool false, .bool false, .bool false, .bool false, .int .i64 0, .string ⟨#[]⟩, .int .u16 0, .slice none 0 0, .slice none 0 0, .slice none 0 0, .int .i64 0] 31 [.int .u16 0, .bool false, .int .i64 0, .bool false, .bool false, .bool false, .bool false, .int .i64 0, .string ⟨#[]⟩, .int .u16 0, .slice none 0 0, .slice none 0 0, .slice none 0 0, .int .i64 0]).at_ (w.heap.size + 1 + 1 + 1) (by simp)
  have hb0 := ((((Below.refl w.heap.size w).alloc (Nat.le_refl _) (.cells #[.int .u16 id, .bool reply, .int .i64 op, .bool auth, .bool trunc, .bool want, .bool avail, .int .i64 cd, .string qn, .int .u16 qt, .slice A1 n1 c1, .slice A2 n2 c2, .slice A3 n3 c3, .int .i64 z] 31)).alloc (by simp) (.cells #[.int .u16 uid, .bool ureply, .int .i64 uop, .bool uauth, .bool utrunc, .bool uwant, .bool uavail, .int .i64 ucd, .string uqn, .int .u16 uqt, .slice U1 un1 uc1, .slice U2 un2 uc2, .slice U3 un3 uc3, .int .i64 uz] 31)).alloc (by simp; omega) (.cells #[.int .i64 3, .string s, .bool b, .slice none 0 0] 54)).alloc (by simp; omega) (.cells #[.int .u16 0, .bool false, .int .i64 0, .bool false, .bool false, .bool false, .bool false, .int .i64 0, .string ⟨#[]⟩, .int .u16 0, .slice none 0 0, .slice none 0 0, .slice none 0 0, .int .i64 0] 31)
  clear hQ hU hA hR
  go_enter Try.func21, Try.ntmps21
  go_wp2_with fail
  refine bodyPost_ret (v := .tuple #[.agg #[.int .u16 0, .bool false, .int .i64 0, .bool false, .bool false, .bool false, .bool false, .int .i64 0, .string ⟨#[]⟩, .int .u16 0, .slice none 0 0, .slice none 0 0, .slice none 0 0, .int .i64 0], .bool false]) (by simp [results, Try.results21, go_sem]) rfl ⟨zeroT, rfl, SameT.refl _, ⟨Recs.nil _ _, Recs.nil _ _, Recs.nil _ _, rfl, rfl, rfl, Nat.zero_le _, Nat.zero_le _, Nat.zero_le _⟩, ⟨OwnA.none _, OwnA.none _, OwnA.none _⟩, hb0⟩
set_option maxHeartbeats 3200000 in
theorem of_pass (q u : MsgT) (k : Int) (s : ByteArray) (b tcp : Bool) (w : World) (hk : (k == 3) = false) (hc : chg k tcp = false) (hu : MsgHas w u) (d1 : u.A1 = none → u.n1 = 0 ∧ u.c1 = 0) (d2 : u.A2 = none → u.n2 = 0 ∧ u.c2 = 0) (d3 : u.A3 = none → u.n3 = 0 ∧ u.c3 = 0) (b1 : u.n1 * 40 ≤ 140737488355328) (b2 : u.n2 * 40 ≤ 140737488355328) (b3 : u.n3 * 40 ≤ 140737488355328) :
    TellsB Try.prog 21 #[q.v, u.v, .agg #[.int .i64 k, .string s, .bool b, .slice none 0 0], .bool tcp] w (q.passT u) true := by
  unfold TellsB
  have CH := fun w => changes_any k s b tcp w
  rw [hc] at CH
  have CH := Lib.hid CH
  clear hc
  have PT := Lib.hid (fun w' (hx : Below w.heap.size w w') => passed_tells q u w' (hu.below hx) d1 d2 d3 b1 b2 b3)
  clear hu d1 d2 d3 b1 b2 b3
  obtain ⟨id, reply, op, auth, trunc, want, avail, cd, qn, qt, A1, n1, c1, r1, A2, n2, c2, r2, A3, n3, c3, r3, z⟩ := q
  obtain ⟨uid, ureply, uop, uauth, utrunc, uwant, uavail, ucd, uqn, uqt, U1, un1, uc1, s1, U2, un2, uc2, s2, U3, un3, uc3, s3, uz⟩ := u
  unfold MsgT.v at *
  dsimp only at *
  have hQ := (((Cs.new w #[.int .u16 id, .bool reply, .int .i64 op, .bool auth, .bool trunc, .bool want, .bool avail, .int .i64 cd, .string qn, .int .u16 qt, .slice A1 n1 c1, .slice A2 n2 c2, .slice A3 n3 c3, .int .i64 z] 31 [.int .u16 id, .bool reply, .int .i64 op, .bool auth, .bool trunc, .bool want, .bool avail, .int .i64 cd, .string qn, .int .u16 qt, .slice A1 n1 c1, .slice A2 n2 c2, .slice A3 n3 c3, .int .i64 z]).alloc (.cells #[.int .u16 uid, .bool ureply, .int .i64 uop, .bool uauth, .bool utrunc, .bool uwant, .bool uavail, .int .i64 ucd, .string uqn, .int .u16 uqt, .slice U1 un1 uc1, .slice U2 un2 uc2, .slice U3 un3 uc3, .int .i64 uz] 31)).alloc (.cells #[.int .i64 k, .string s, .bool b, .slice none 0 0] 54)).alloc (.cells #[.int .u16 0, .bool false, .int .i64 0, .bool false, .bool false, .bool false, .bool false, .int .i64 0, .string ⟨#[]⟩, .int .u16 0, .slice none 0 0, .slice none 0 0, .slice none 0 0, .int .i64 0] 31)
  have hU := (((Cs.new (w.alloc (.cells #[.int .u16 id, .bool reply, .int .i64 op, .bool auth, .bool trunc, .bool want, .bool avail, .int .i64 cd, .string qn, .int .u16 qt, .slice A1 n1 c1, .slice A2 n2 c2, .slice A3 n3 c3, .int .i64 z] 31)) #[.int .u16 uid, .bool ureply, .int .i64 uop, .bool uauth, .bool utrunc, .bool uwant, .bool uavail, .int .i64 ucd, .string uqn, .int .u16 uqt, .slice U1 un1 uc1, .slice U2 un2 uc2, .slice U3 un3 uc3, .int .i64 uz] 31 [.int .u16 uid, .bool ureply, .int .i64 uop, .bool uauth, .bool utrunc, .bool uwant, .bool uavail, .int .i64 ucd, .string uqn, .int .u16 uqt, .slice U1 un1 uc1, .slice U2 un2 uc2, .slice U3 un3 uc3, .int .i64 uz]).at_ (w.heap.size + 1) (by simp)).alloc (.cells #[.int .i64 k, .string s, .bool b, .slice none 0 0] 54)).alloc (.cells #[.int .u16 0, .bool false, .int .i64 0, .bool false, .bool false, .bool false, .bool false, .int .i64 0, .string ⟨#[]⟩, .int .u16 0, .slice none 0 0, .slice none 0 0, .slice none 0 0, .int .i64 0] 31)
  have hA := ((Cs.new ((w.alloc (.cells #[.int .u16 id, .bool reply, .int .i64 op, .bool auth, .bool trunc, .bool want, .bool avail, .int .i64 cd, .string qn, .int .u16 qt, .slice A1 n1 c1, .slice A2 n2 c2, .slice A3 n3 c3, .int .i64 z] 31)).alloc (.cells #[.int .u16 uid, .bool ureply, .int .i64 uop, .bool uauth, .bool utrunc, .bool uwant, .bool uavail, .int .i64 ucd, .string uqn, .int .u16 uqt, .slice U1 un1 uc1, .slice U2 un2 uc2, .slice U3 un3 uc3, .int .i64 uz] 31)) #[.int .i64 k, .string s, .bool b, .slice none 0 0] 54 [.int .i64 k, .string s, .bool b, .slice none 0 0]).at_ (w.heap.size + 1 + 1) (by simp)).alloc (.cells #[.int .u16 0, .bool false, .int .i64 0, .bool false, .bool false, .bool false, .bool false, .int .i64 0, .string ⟨#[]⟩, .int .u16 0, .slice none 0 0, .slice none 0 0, .slice none 0 0, .int .i64 0] 31)
  have hR := (Cs.new (((w.alloc (.cells #[.int .u16 id, .bool reply, .int .i64 op, .bool auth, .bool trunc, .bool want, .bool avail, .int .i64 cd, .string qn, .int .u16 qt, .slice A1 n1 c1, .slice A2 n2 c2, .slice A3 n3 c3, .int .i64 z] 31)).alloc (.cells #[.int .u16 uid, .bool ureply, .int .i64 uop, .bool uauth, .bool utrunc, .bool uwant, .bool uavail, .int .i64 ucd, .string uqn, .int .u16 uqt, .slice U1 un1 uc1, .slice U2 un2 uc2, .slice U3 un3 uc3, .int .i64 uz] 31)).alloc (.cells #[.int .i64 k, .string s, .bool b, .slice none 0 0] 54)) #[.int .u16 0, .bool false, .int .i64 0, .bool false, .bool false, .bool false, .bool false, .int .i64 0, .string ⟨#[]⟩, .int .u16 0, .slice none 0 0, .slice none 0 0, .slice none 0 0, .int .i64 0] 31 [.int .u16 0, .bool false, .int .i64 0, .bool false, .bool false, .bool false, .bool false, .int .i64 0, .string ⟨#[]⟩, .int .u16 0, .slice none 0 0, .slice none 0 0, .slice none 0 0, .int .i64 0]).at_ (w.heap.size + 1 + 1 + 1) (by simp)
  have hb0 := ((((Below.refl w.heap.size w).alloc (Nat.le_refl _) (.cells #[.int .u16 id, .bool reply, .int .i64 op, .bool auth, .bool trunc, .bool want, .bool avail, .int .i64 cd, .string qn, .int .u16 qt, .slice A1 n1 c1, .slice A2 n2 c2, .slice A3 n3 c3, .int .i64 z] 31)).alloc (by simp) (.cells #[.int .u16 uid, .bool ureply, .int .i64 uop, .bool uauth, .bool utrunc, .bool uwant, .bool uavail, .int .i64 ucd, .string uqn, .int .u16 uqt, .slice U1 un1 uc1, .slice U2 un2 uc2, .slice U3 un3 uc3, .int .i64 uz] 31)).alloc (by simp; omega) (.cells #[.int .i64 k, .string s, .bool b, .slice none 0 0] 54)).alloc (by simp; omega) (.cells #[.int .u16 0, .bool false, .int .i64 0, .bool false, .bool false, .bool false, .bool false, .int .i64 0, .string ⟨#[]⟩, .int .u16 0, .slice none 0 0, .slice none 0 0, .slice none 0 0, .int .i64 0] 31)
  have a0 := hA.get 0 _
  have a1 := hA.get 1 _
  have a2 := hA.get 2 _
  have a3 := hA.get 3 _
  go_enter Try.func21, Try.ntmps21
  go_wp2_with fail
  refine (CH.out _).mono ?_
  rintro e w1 ⟨rfl, hb1'⟩
  have hQ1 := hQ.below hb1'
  have hU1 := hU.below hb1'
  have hA1 := hA.below hb1'
  have hR1 := hR.below hb1'
  have hb1 := below_trans hb0 hb0.size hb1'
  clear hQ hU hA hR hb0 hb1' a0 a1 a2 a3 CH
  have q0 := hQ1.get 0 _
  have q1 := hQ1.get 1 _
  have q2 := hQ1.get 2 _
  have q3 := hQ1.get 3 _
  have q4 := hQ1.get 4 _
  have q5 := hQ1.get 5 _
  have q6 := hQ1.get 6 _
  have q7 := hQ1.get 7 _
  have q8 := hQ1.get 8 _
  have q9 := hQ1.get 9 _
  have q10 := hQ1.get 10 _
  have q11 := hQ1.get 11 _
  have q12 := hQ1.get 12 _
  have q13 := hQ1.get 13 _
  have a0 := hA1.get 0 _
  have a1 := hA1.get 1 _
  have a2 := hA1.get 2 _
  have a3 := hA1.get 3 _
  have u0 := hU1.get 0 _
  have u1 := hU1.get 1 _
  have u2 := hU1.get 2 _
  have u3 := hU1.get 3 _
  have u4 := hU1.get 4 _
  have u5 := hU1.get 5 _
  have u6 := hU1.get 6 _
  have u7 := hU1.get 7 _
  have u8 := hU1.get 8 _
  have u9 := hU1.get 9 _
  have u10 := hU1.get 10 _
  have u11 := hU1.get 11 _
  have u12 := hU1.get 12 _
  have u13 := hU1.get 13 _
  have TT := Lib.hid (PT.out w1 hb1)
  clear PT
  clear hQ1 hU1 hA1
  go_wp2_with fail
  refine (TT.out).mono ?_
  rintro e w2 ⟨⟨xid, xreply, xop, xauth, xtrunc, xwant, xavail, xcd, xqn, xqt, X1, xn1, xc1, x1, X2, xn2, xc2, x2, X3, xn3, xc3, x3, xz⟩, rfl, hs, hh, ho, hb2'⟩
  unfold MsgT.v
  dsimp only
  have hR2 := hR1.below hb2'
  have hb2 := below_trans hb1 hb1.size hb2'
  have hRl := hR1.lt
  have hle := hb1.size
  have HS := Lib.hid hs
  have HH := Lib.hid hh
  have HO := Lib.hid ho
  have HB := Lib.hid hb2
  have r0 := hR2.get 0 _
  have r1 := hR2.get 1 _
  have r2 := hR2.get 2 _
  have r3 := hR2.get 3 _
  have r4 := hR2.get 4 _
  have r5 := hR2.get 5 _
  have r6 := hR2.get 6 _
  have r7 := hR2.get 7 _
  have r8 := hR2.get 8 _
  have r9 := hR2.get 9 _
  have r10 := hR2.get 10 _
  have r11 := hR2.get 11 _
  have r12 := hR2.get 12 _
  have r13 := hR2.get 13 _
  have f0 := hR2.froz 0 (by simp)
  have f1 := hR2.froz 1 (by simp)
  have f2 := hR2.froz 2 (by simp)
  have f3 := hR2.froz 3 (by simp)
  have f4 := hR2.froz 4 (by simp)
  have f5 := hR2.froz 5 (by simp)
  have f6 := hR2.froz 6 (by simp)
  have f7 := hR2.froz 7 (by simp)
  have f8 := hR2.froz 8 (by simp)
  have f9 := hR2.froz 9 (by simp)
  have f10 := hR2.froz 10 (by simp)
  have f11 := hR2.froz 11 (by simp)
  have f12 := hR2.froz 12 (by simp)
  have f13 := hR2.froz 13 (by simp)
  clear hR1 hR2 hs hh ho hb1 hb2 hb2' TT q0 q1 q2 q3 q4 q5 q6 q7 q8 q9 q10 q11 q12 q13 u0 u1 u2 u3 u4 u5 u6 u7 u8 u9 u10 u11 u12 u13 a0 a1 a2 a3
  go_wp2_with fail
  refine bodyPost_ret (v := .tuple #[.agg #[.int .u16 xid, .bool xreply, .int .i64 xop, .bool xauth, .bool xtrunc, .bool xwant, .bool xavail, .int .i64 xcd, .string xqn, .int .u16 xqt, .slice X1 xn1 xc1, .slice X2 xn2 xc2, .slice X3 xn3 xc3, .int .i64 xz], .bool true]) (by simp [results, Try.results21, go_sem, r0, r1, r2, r3, r4, r5, r6, r7, r8, r9, r10, r11, r12, r13]) rfl ⟨⟨xid, xreply, xop, xauth, xtrunc, xwant, xavail, xcd, xqn, xqt, X1, xn1, xc1, x1, X2, xn2, xc2, x2, X3, xn3, xc3, x3, xz⟩, rfl, HS.out, ?_, HO.out.more (by omega), ?_⟩
  · iterate 14 (refine MsgHas.other ?_ HO.out _ _ _ (by omega))
    exact HH.out
  · iterate 14 (refine Below.setCell ?_ (by simp; omega) _)
    exact HB.out
set_option maxHeartbeats 3200000 in
theorem of_missing (q u : MsgT) (s : ByteArray) (b tcp : Bool) (w : World) :
    TellsB Try.prog 21 #[q.v, u.v, .agg #[.int .i64 4, .string s, .bool b, .slice none 0 0], .bool tcp] w (q.baseT 3 false []) true := by
  unfold TellsB
  have CH := fun w => changes_any 4 s b tcp w
  rw [show chg 4 tcp = true from rfl] at CH
  have CH := Lib.hid CH
  have PT := Lib.hid (fun w' => base_tells q 3 w')
  obtain ⟨id, reply, op, auth, trunc, want, avail, cd, qn, qt, A1, n1, c1, r1, A2, n2, c2, r2, A3, n3, c3, r3, z⟩ := q
  obtain ⟨uid, ureply, uop, uauth, utrunc, uwant, uavail, ucd, uqn, uqt, U1, un1, uc1, s1, U2, un2, uc2, s2, U3, un3, uc3, s3, uz⟩ := u
  unfold MsgT.v at *
  dsimp only at *
  have hQ := (((Cs.new w #[.int .u16 id, .bool reply, .int .i64 op, .bool auth, .bool trunc, .bool want, .bool avail, .int .i64 cd, .string qn, .int .u16 qt, .slice A1 n1 c1, .slice A2 n2 c2, .slice A3 n3 c3, .int .i64 z] 31 [.int .u16 id, .bool reply, .int .i64 op, .bool auth, .bool trunc, .bool want, .bool avail, .int .i64 cd, .string qn, .int .u16 qt, .slice A1 n1 c1, .slice A2 n2 c2, .slice A3 n3 c3, .int .i64 z]).alloc (.cells #[.int .u16 uid, .bool ureply, .int .i64 uop, .bool uauth, .bool utrunc, .bool uwant, .bool uavail, .int .i64 ucd, .string uqn, .int .u16 uqt, .slice U1 un1 uc1, .slice U2 un2 uc2, .slice U3 un3 uc3, .int .i64 uz] 31)).alloc (.cells #[.int .i64 4, .string s, .bool b, .slice none 0 0] 54)).alloc (.cells #[.int .u16 0, .bool false, .int .i64 0, .bool false, .bool false, .bool false, .bool false, .int .i64 0, .string ⟨#[]⟩, .int .u16 0, .slice none 0 0, .slice none 0 0, .slice none 0 0, .int .i64 0] 31)
  have hU := (((Cs.new (w.alloc (.cells #[.int .u16 id, .bool reply, .int .i64 op, .bool auth, .bool trunc, .bool want, .bool avail, .int .i64 cd, .string qn, .int .u16 qt, .slice A1 n1 c1, .slice A2 n2 c2, .slice A3 n3 c3, .int .i64 z] 31)) #[.int .u16 uid, .bool ureply, .int .i64 uop, .bool uauth, .bool utrunc, .bool uwant, .bool uavail, .int .i64 ucd, .string uqn, .int .u16 uqt, .slice U1 un1 uc1, .slice U2 un2 uc2, .slice U3 un3 uc3, .int .i64 uz] 31 [.int .u16 uid, .bool ureply, .int .i64 uop, .bool uauth, .bool utrunc, .bool uwant, .bool uavail, .int .i64 ucd, .string uqn, .int .u16 uqt, .slice U1 un1 uc1, .slice U2 un2 uc2, .slice U3 un3 uc3, .int .i64 uz]).at_ (w.heap.size + 1) (by simp)).alloc (.cells #[.int .i64 4, .string s, .bool b, .slice none 0 0] 54)).alloc (.cells #[.int .u16 0, .bool false, .int .i64 0, .bool false, .bool false, .bool false, .bool false, .int .i64 0, .string ⟨#[]⟩, .int .u16 0, .slice none 0 0, .slice none 0 0, .slice none 0 0, .int .i64 0] 31)
  have hA := ((Cs.new ((w.alloc (.cells #[.int .u16 id, .bool reply, .int .i64 op, .bool auth, .bool trunc, .bool want, .bool avail, .int .i64 cd, .string qn, .int .u16 qt, .slice A1 n1 c1, .slice A2 n2 c2, .slice A3 n3 c3, .int .i64 z] 31)).alloc (.cells #[.int .u16 uid, .bool ureply, .int .i64 uop, .bool uauth, .bool utrunc, .bool uwant, .bool uavail, .int .i64 ucd, .string uqn, .int .u16 uqt, .slice U1 un1 uc1, .slice U2 un2 uc2, .slice U3 un3 uc3, .int .i64 uz] 31)) #[.int .i64 4, .string s, .bool b, .slice none 0 0] 54 [.int .i64 4, .string s, .bool b, .slice none 0 0]).at_ (w.heap.size + 1 + 1) (by simp)).alloc (.cells #[.int .u16 0, .bool false, .int .i64 0, .bool false, .bool false, .bool false, .bool false, .int .i64 0, .string ⟨#[]⟩, .int .u16 0, .slice none 0 0, .slice none 0 0, .slice none 0 0, .int .i64 0] 31)
  have hR := (Cs.new (((w.alloc (.cells #[.int .u16 id, .bool reply, .int .i64 op, .bool auth, .bool trunc, .bool want, .bool avail, .int .i64 cd, .string qn, .int .u16 qt, .slice A1 n1 c1, .slice A2 n2 c2, .slice A3 n3 c3, .int .i64 z] 31)).alloc (.cells #[.int .u16 uid, .bool ureply, .int .i64 uop, .bool uauth, .bool utrunc, .bool uwant, .bool uavail, .int .i64 ucd, .string uqn, .int .u16 uqt, .slice U1 un1 uc1, .slice U2 un2 uc2, .slice U3 un3 uc3, .int .i64 uz] 31)).alloc (.cells #[.int .i64 4, .string s, .bool b, .slice none 0 0] 54)) #[.int .u16 0, .bool false, .int .i64 0, .bool false, .bool false, .bool false, .bool false, .int .i64 0, .string ⟨#[]⟩, .int .u16 0, .slice none 0 0, .slice none 0 0, .slice none 0 0, .int .i64 0] 31 [.int .u16 0, .bool false, .int .i64 0, .bool false, .bool false, .bool false, .bool false, .int .i64 0, .string ⟨#[]⟩, .int .u16 0, .slice none 0 0, .slice none 0 0, .slice none 0 0, .int .i64 0]).at_ (w.heap.size + 1 + 1 + 1) (by simp)
  have hb0 := ((((Below.refl w.heap.size w).alloc (Nat.le_refl _) (.cells #[.int .u16 id, .bool reply, .int .i64 op, .bool auth, .bool trunc, .bool want, .bool avail, .int .i64 cd, .string qn, .int .u16 qt, .slice A1 n1 c1, .slice A2 n2 c2, .slice A3 n3 c3, .int .i64 z] 31)).alloc (by simp) (.cells #[.int .u16 uid, .bool ureply, .int .i64 uop, .bool uauth, .bool utrunc, .bool uwant, .bool uavail, .int .i64 ucd, .string uqn, .int .u16 uqt, .slice U1 un1 uc1, .slice U2 un2 uc2, .slice U3 un3 uc3, .int .i64 uz] 31)).alloc (by simp; omega) (.cells #[.int .i64 4, .string s, .bool b, .slice none 0 0] 54)).alloc (by simp; omega) (.cells #[.int .u16 0, .bool false, .int .i64 0, .bool false, .bool false, .bool false, .bool false, .int .i64 0, .string ⟨#[]⟩, .int .u16 0, .slice none 0 0, .slice none 0 0, .slice none 0 0, .int .i64 0] 31)
  have a0 := hA.get 0 _
  have a1 := hA.get 1 _
  have a2 := hA.get 2 _
  have a3 := hA.get 3 _
  go_enter Try.func21, Try.ntmps21
  go_wp2_with fail
  refine (CH.out _).mono ?_
  rintro e w1 ⟨rfl, hb1'⟩
  have hQ1 := hQ.below hb1'
  have hU1 := hU.below hb1'
  have hA1 := hA.below hb1'
  have hR1 := hR.below hb1'
  have hb1 := below_trans hb0 hb0.size hb1'
  clear hQ hU hA hR hb0 hb1' a0 a1 a2 a3 CH
  have q0 := hQ1.get 0 _
  have q1 := hQ1.get 1 _
  have q2 := hQ1.get 2 _
  have q3 := hQ1.get 3 _
  have q4 := hQ1.get 4 _
  have q5 := hQ1.get 5 _
  have q6 := hQ1.get 6 _
  have q7 := hQ1.get 7 _
  have q8 := hQ1.get 8 _
  have q9 := hQ1.get 9 _
  have q10 := hQ1.get 10 _
  have q11 := hQ1.get 11 _
  have q12 := hQ1.get 12 _
  have q13 := hQ1.get 13 _
  have a0 := hA1.get 0 _
  have a1 := hA1.get 1 _
  have a2 := hA1.get 2 _
  have a3 := hA1.get 3 _
  have TT := Lib.hid (PT.out w1)
  clear PT
  clear hQ1 hU1 hA1
  go_wp2_with fail
  refine (TT.out).mono ?_
  rintro e w2 ⟨⟨xid, xreply, xop, xauth, xtrunc, xwant, xavail, xcd, xqn, xqt, X1, xn1, xc1, x1, X2, xn2, xc2, x2, X3, xn3, xc3, x3, xz⟩, rfl, hs, hh, ho, hb2'⟩
  unfold MsgT.v
  dsimp only
  have hR2 := hR1.below hb2'
  have hb2 := below_trans hb1 hb1.size hb2'
  have hRl := hR1.lt
  have hle := hb1.size
  have HS := Lib.hid hs
  have HH := Lib.hid hh
  have HO := Lib.hid ho
  have HB := Lib.hid hb2
  have r0 := hR2.get 0 _
  have r1 := hR2.get 1 _
  have r2 := hR2.get 2 _
  have r3 := hR2.get 3 _
  have r4 := hR2.get 4 _
  have r5 := hR2.get 5 _
  have r6 := hR2.get 6 _
  have r7 := hR2.get 7 _
  have r8 := hR2.get 8 _
  have r9 := hR2.get 9 _
  have r10 := hR2.get 10 _
  have r11 := hR2.get 11 _
  have r12 := hR2.get 12 _
  have r13 := hR2.get 13 _
  have f0 := hR2.froz 0 (by simp)
  have f1 := hR2.froz 1 (by simp)
  have f2 := hR2.froz 2 (by simp)
  have f3 := hR2.froz 3 (by simp)
  have f4 := hR2.froz 4 (by simp)
  have f5 := hR2.froz 5 (by simp)
  have f6 := hR2.froz 6 (by simp)
  have f7 := hR2.froz 7 (by simp)
  have f8 := hR2.froz 8 (by simp)
  have f9 := hR2.froz 9 (by simp)
  have f10 := hR2.froz 10 (by simp)
  have f11 := hR2.froz 11 (by simp)
  have f12 := hR2.froz 12 (by simp)
  have f13 := hR2.froz 13 (by simp)
  clear hR1 hR2 hs hh ho hb1 hb2 hb2' TT q0 q1 q2 q3 q4 q5 q6 q7 q8 q9 q10 q11 q12 q13  a0 a1 a2 a3
  go_wp2_with fail
  refine bodyPost_ret (v := .tuple #[.agg #[.int .u16 xid, .bool xreply, .int .i64 xop, .bool xauth, .bool xtrunc, .bool xwant, .bool xavail, .int .i64 xcd, .string xqn, .int .u16 xqt, .slice X1 xn1 xc1, .slice X2 xn2 xc2, .slice X3 xn3 xc3, .int .i64 xz], .bool true]) (by simp [results, Try.results21, go_sem, r0, r1, r2, r3, r4, r5, r6, r7, r8, r9, r10, r11, r12, r13]) rfl ⟨⟨xid, xreply, xop, xauth, xtrunc, xwant, xavail, xcd, xqn, xqt, X1, xn1, xc1, x1, X2, xn2, xc2, x2, X3, xn3, xc3, x3, xz⟩, rfl, HS.out, ?_, HO.out.more (by omega), ?_⟩
  · iterate 14 (refine MsgHas.other ?_ HO.out _ _ _ (by omega))
    exact HH.out
  · iterate 14 (refine Below.setCell ?_ (by simp; omega) _)
    exact HB.out
set_option maxHeartbeats 3200000 in
theorem of_rewN (q u : MsgT) (s : ByteArray) (b tcp : Bool) (w : World) (hs : s.size ≤ 140737488355328) (hn : q.qn.size ≤ 140737488355328) (hg : goalOf 7 s b q.qn = none) :
    TellsB Try.prog 21 #[q.v, u.v, .agg #[.int .i64 7, .string s, .bool b, .slice none 0 0], .bool tcp] w (q.baseT 2 false []) true := by
  unfold TellsB
  have CH := fun w => changes_any 7 s b tcp w
  rw [show chg 7 tcp = true from rfl] at CH
  have CH := Lib.hid CH
  have PT := Lib.hid (fun w' => rewritten_none q s b w' hs hn hg)
  unfold act3 at PT
  clear hs hn hg
  obtain ⟨id, reply, op, auth, trunc, want, avail, cd, qn, qt, A1, n1, c1, r1, A2, n2, c2, r2, A3, n3, c3, r3, z⟩ := q
  obtain ⟨uid, ureply, uop, uauth, utrunc, uwant, uavail, ucd, uqn, uqt, U1, un1, uc1, s1, U2, un2, uc2, s2, U3, un3, uc3, s3, uz⟩ := u
  unfold MsgT.v at *
  dsimp only at *
  have hQ := (((Cs.new w #[.int .u16 id, .bool reply, .int .i64 op, .bool auth, .bool trunc, .bool want, .bool avail, .int .i64 cd, .string qn, .int .u16 qt, .slice A1 n1 c1, .slice A2 n2 c2, .slice A3 n3 c3, .int .i64 z] 31 [.int .u16 id, .bool reply, .int .i64 op, .bool auth, .bool trunc, .bool want, .bool avail, .int .i64 cd, .string qn, .int .u16 qt, .slice A1 n1 c1, .slice A2 n2 c2, .slice A3 n3 c3, .int .i64 z]).alloc (.cells #[.int .u16 uid, .bool ureply, .int .i64 uop, .bool uauth, .bool utrunc, .bool uwant, .bool uavail, .int .i64 ucd, .string uqn, .int .u16 uqt, .slice U1 un1 uc1, .slice U2 un2 uc2, .slice U3 un3 uc3, .int .i64 uz] 31)).alloc (.cells #[.int .i64 7, .string s, .bool b, .slice none 0 0] 54)).alloc (.cells #[.int .u16 0, .bool false, .int .i64 0, .bool false, .bool false, .bool false, .bool false, .int .i64 0, .string ⟨#[]⟩, .int .u16 0, .slice none 0 0, .slice none 0 0, .slice none 0 0, .int .i64 0] 31)
  have hU := (((Cs.new (w.alloc (.cells #[.int .u16 id, .bool reply, .int .i64 op, .bool auth, .bool trunc, .bool want, .bool avail, .int .i64 cd, .string qn, .int .u16 qt, .slice A1 n1 c1, .slice A2 n2 c2, .slice A3 n3 c3, .int .i64 z] 31)) #[.int .u16 uid, .bool ureply, .int .i64 uop, .bool uauth, .bool utrunc, .bool uwant, .bool uavail, .int .i64 ucd, .string uqn, .int .u16 uqt, .slice U1 un1 uc1, .slice U2 un2 uc2, .slice U3 un3 uc3, .int .i64 uz] 31 [.int .u16 uid, .bool ureply, .int .i64 uop, .bool uauth, .bool utrunc, .bool uwant, .bool uavail, .int .i64 ucd, .string uqn, .int .u16 uqt, .slice U1 un1 uc1, .slice U2 un2 uc2, .slice U3 un3 uc3, .int .i64 uz]).at_ (w.heap.size + 1) (by simp)).alloc (.cells #[.int .i64 7, .string s, .bool b, .slice none 0 0] 54)).alloc (.cells #[.int .u16 0, .bool false, .int .i64 0, .bool false, .bool false, .bool false, .bool false, .int .i64 0, .string ⟨#[]⟩, .int .u16 0, .slice none 0 0, .slice none 0 0, .slice none 0 0, .int .i64 0] 31)
  have hA := ((Cs.new ((w.alloc (.cells #[.int .u16 id, .bool reply, .int .i64 op, .bool auth, .bool trunc, .bool want, .bool avail, .int .i64 cd, .string qn, .int .u16 qt, .slice A1 n1 c1, .slice A2 n2 c2, .slice A3 n3 c3, .int .i64 z] 31)).alloc (.cells #[.int .u16 uid, .bool ureply, .int .i64 uop, .bool uauth, .bool utrunc, .bool uwant, .bool uavail, .int .i64 ucd, .string uqn, .int .u16 uqt, .slice U1 un1 uc1, .slice U2 un2 uc2, .slice U3 un3 uc3, .int .i64 uz] 31)) #[.int .i64 7, .string s, .bool b, .slice none 0 0] 54 [.int .i64 7, .string s, .bool b, .slice none 0 0]).at_ (w.heap.size + 1 + 1) (by simp)).alloc (.cells #[.int .u16 0, .bool false, .int .i64 0, .bool false, .bool false, .bool false, .bool false, .int .i64 0, .string ⟨#[]⟩, .int .u16 0, .slice none 0 0, .slice none 0 0, .slice none 0 0, .int .i64 0] 31)
  have hR := (Cs.new (((w.alloc (.cells #[.int .u16 id, .bool reply, .int .i64 op, .bool auth, .bool trunc, .bool want, .bool avail, .int .i64 cd, .string qn, .int .u16 qt, .slice A1 n1 c1, .slice A2 n2 c2, .slice A3 n3 c3, .int .i64 z] 31)).alloc (.cells #[.int .u16 uid, .bool ureply, .int .i64 uop, .bool uauth, .bool utrunc, .bool uwant, .bool uavail, .int .i64 ucd, .string uqn, .int .u16 uqt, .slice U1 un1 uc1, .slice U2 un2 uc2, .slice U3 un3 uc3, .int .i64 uz] 31)).alloc (.cells #[.int .i64 7, .string s, .bool b, .slice none 0 0] 54)) #[.int .u16 0, .bool false, .int .i64 0, .bool false, .bool false, .bool false, .bool false, .int .i64 0, .string ⟨#[]⟩, .int .u16 0, .slice none 0 0, .slice none 0 0, .slice none 0 0, .int .i64 0] 31 [.int .u16 0, .bool false, .int .i64 0, .bool false, .bool false, .bool false, .bool false, .int .i64 0, .string ⟨#[]⟩, .int .u16 0, .slice none 0 0, .slice none 0 0, .slice none 0 0, .int .i64 0]).at_ (w.heap.size + 1 + 1 + 1) (by simp)
  have hb0 := ((((Below.refl w.heap.size w).alloc (Nat.le_refl _) (.cells #[.int .u16 id, .bool reply, .int .i64 op, .bool auth, .bool trunc, .bool want, .bool avail, .int .i64 cd, .string qn, .int .u16 qt, .slice A1 n1 c1, .slice A2 n2 c2, .slice A3 n3 c3, .int .i64 z] 31)).alloc (by simp) (.cells #[.int .u16 uid, .bool ureply, .int .i64 uop, .bool uauth, .bool utrunc, .bool uwant, .bool uavail, .int .i64 ucd, .string uqn, .int .u16 uqt, .slice U1 un1 uc1, .slice U2 un2 uc2, .slice U3 un3 uc3, .int .i64 uz] 31)).alloc (by simp; omega) (.cells #[.int .i64 7, .string s, .bool b, .slice none 0 0] 54)).alloc (by simp; omega) (.cells #[.int .u16 0, .bool false, .int .i64 0, .bool false, .bool false, .bool false, .bool false, .int .i64 0, .string ⟨#[]⟩, .int .u16 0, .slice none 0 0, .slice none 0 0, .slice none 0 0, .int .i64 0] 31)
  have a0 := hA.get 0 _
  have a1 := hA.get 1 _
  have a2 := hA.get 2 _
  have a3 := hA.get 3 _
  go_enter Try.func21, Try.ntmps21
  go_wp2_with fail
  refine (CH.out _).mono ?_
  rintro e w1 ⟨rfl, hb1'⟩
  have hQ1 := hQ.below hb1'
  have hU1 := hU.below hb1'
  have hA1 := hA.below hb1'
  have hR1 := hR.below hb1'
  have hb1 := below_trans hb0 hb0.size hb1'
  clear hQ hU hA hR hb0 hb1' a0 a1 a2 a3 CH
  have q0 := hQ1.get 0 _
  have q1 := hQ1.get 1 _
  have q2 := hQ1.get 2 _
  have q3 := hQ1.get 3 _
  have q4 := hQ1.get 4 _
  have q5 := hQ1.get 5 _
  have q6 := hQ1.get 6 _
  have q7 := hQ1.get 7 _
  have q8 := hQ1.get 8 _
  have q9 := hQ1.get 9 _
  have q10 := hQ1.get 10 _
  have q11 := hQ1.get 11 _
  have q12 := hQ1.get 12 _
  have q13 := hQ1.get 13 _
  have a0 := hA1.get 0 _
  have a1 := hA1.get 1 _
  have a2 := hA1.get 2 _
  have a3 := hA1.get 3 _
  have TT := Lib.hid (PT.out w1)
  clear PT
  clear hQ1 hU1 hA1
  go_wp2_with fail
  refine (TT.out).mono ?_
  rintro e w2 ⟨⟨xid, xreply, xop, xauth, xtrunc, xwant, xavail, xcd, xqn, xqt, X1, xn1, xc1, x1, X2, xn2, xc2, x2, X3, xn3, xc3, x3, xz⟩, rfl, hs, hh, ho, hb2'⟩
  unfold MsgT.v
  dsimp only
  have hR2 := hR1.below hb2'
  have hb2 := below_trans hb1 hb1.size hb2'
  have hRl := hR1.lt
  have hle := hb1.size
  have HS := Lib.hid hs
  have HH := Lib.hid hh
  have HO := Lib.hid ho
  have HB := Lib.hid hb2
  have r0 := hR2.get 0 _
  have r1 := hR2.get 1 _
  have r2 := hR2.get 2 _
  have r3 := hR2.get 3 _
  have r4 := hR2.get 4 _
  have r5 := hR2.get 5 _
  have r6 := hR2.get 6 _
  have r7 := hR2.get 7 _
  have r8 := hR2.get 8 _
  have r9 := hR2.get 9 _
  have r10 := hR2.get 10 _
  have r11 := hR2.get 11 _
  have r12 := hR2.get 12 _
  have r13 := hR2.get 13 _
  have f0 := hR2.froz 0 (by simp)
  have f1 := hR2.froz 1 (by simp)
  have f2 := hR2.froz 2 (by simp)
  have f3 := hR2.froz 3 (by simp)
  have f4 := hR2.froz 4 (by simp)
  have f5 := hR2.froz 5 (by simp)
  have f6 := hR2.froz 6 (by simp)
  have f7 := hR2.froz 7 (by simp)
  have f8 := hR2.froz 8 (by simp)
  have f9 := hR2.froz 9 (by simp)
  have f10 := hR2.froz 10 (by simp)
  have f11 := hR2.froz 11 (by simp)
  have f12 := hR2.froz 12 (by simp)
  have f13 := hR2.froz 13 (by simp)
  clear hR1 hR2 hs hh ho hb1 hb2 hb2' TT q0 q1 q2 q3 q4 q5 q6 q7 q8 q9 q10 q11 q12 q13  a0 a1 a2 a3
  go_wp2_with fail
  refine bodyPost_ret (v := .tuple #[.agg #[.int .u16 xid, .bool xreply, .int .i64 xop, .bool xauth, .bool xtrunc, .bool xwant, .bool xavail, .int .i64 xcd, .string xqn, .int .u16 xqt, .slice X1 xn1 xc1, .slice X2 xn2 xc2, .slice X3 xn3 xc3, .int .i64 xz], .bool true]) (by simp [results, Try.results21, go_sem, r0, r1, r2, r3, r4, r5, r6, r7, r8, r9, r10, r11, r12, r13]) rfl ⟨⟨xid, xreply, xop, xauth, xtrunc, xwant, xavail, xcd, xqn, xqt, X1, xn1, xc1, x1, X2, xn2, xc2, x2, X3, xn3, xc3, x3, xz⟩, rfl, HS.out, ?_, HO.out.more (by omega), ?_⟩
  · iterate 14 (refine MsgHas.other ?_ HO.out _ _ _ (by omega))
    exact HH.out
  · iterate 14 (refine Below.setCell ?_ (by simp; omega) _)
    exact HB.out
end Go.Proofs.Ytbjbppnjheaecaa
namespace Go.Proofs.Ytbjbppnjheaecaa
open Go.RowKit
set_option linter.unusedVariables false
set_option linter.unusedSimpArgs false
set_option maxRecDepth 20000
set_option maxHeartbeats 3200000 in
theorem of_rewS (q u : MsgT) (s : ByteArray) (b tcp : Bool) (w : World) (g : ByteArray) (hs : s.size ≤ 140737488355328) (hn : q.qn.size ≤ 140737488355328) (hg : goalOf 7 s b q.qn = some g) :
    TellsB Try.prog 21 #[q.v, u.v, .agg #[.int .i64 7, .string s, .bool b, .slice none 0 0], .bool tcp] w (q.baseT 0 false [(q.qn, 5, 60, g)]) true := by
  unfold TellsB
  have CH := fun w => changes_any 7 s b tcp w
  rw [show chg 7 tcp = true from rfl] at CH
  have CH := Lib.hid CH
  have PT := Lib.hid (fun w' => rewritten_some q s b w' hs hn g hg)
  unfold act3 at PT
  clear hs hn hg
  obtain ⟨id, reply, op, auth, trunc, want, avail, cd, qn, qt, A1, n1, c1, r1, A2, n2, c2, r2, A3, n3, c3, r3, z⟩ := q
  obtain ⟨uid, ureply, uop, uauth, utrunc, uwant, uavail, ucd, uqn, uqt, U1, un1, uc1, s1, U2, un2, uc2, s2, U3, un3, uc3, s3, uz⟩ := u
  unfold MsgT.v at *
  dsimp only at *
  have hQ := (((Cs.new w #[.int .u16 id, .bool reply, .int .i64 op, .bool auth, .bool trunc, .bool want, .bool avail, .int .i64 cd, .string qn, .int .u16 qt, .slice A1 n1 c1, .slice A2 n2 c2, .slice A3 n3 c3, .int .i64 z] 31 [.int .u16 id, .bool reply, .int .i64 op, .bool auth, .bool trunc, .bool want, .bool avail, .int .i64 cd, .string qn, .int .u16 qt, .slice A1 n1 c1, .slice A2 n2 c2, .slice A3 n3 c3, .int .i64 z]).alloc (.cells #[.int .u16 uid, .bool ureply, .int .i64 uop, .bool uauth, .bool utrunc, .bool uwant, .bool uavail, .int .i64 ucd, .string uqn, .int .u16 uqt, .slice U1 un1 uc1, .slice U2 un2 uc2, .slice U3 un3 uc3, .int .i64 uz] 31)).alloc (.cells #[.int .i64 7, .string s, .bool b, .slice none 0 0] 54)).alloc (.cells #[.int .u16 0, .bool false, .int .i64 0, .bool false, .bool false, .bool false, .bool false, .int .i64 0, .string ⟨#[]⟩, .int .u16 0, .slice none 0 0, .slice none 0 0, .slice none 0 0, .int .i64 0] 31)
  have hU := (((Cs.new (w.alloc (.cells #[.int .u16 id, .bool reply, .int .i64 op, .bool auth, .bool trunc, .bool want, .bool avail, .int .i64 cd, .string qn, .int .u16 qt, .slice A1 n1 c1, .slice A2 n2 c2, .slice A3 n3 c3, .int .i64 z] 31)) #[.int .u16 uid, .bool ureply, .int .i64 uop, .bool uauth, .bool utrunc, .bool uwant, .bool uavail, .int .i64 ucd, .string uqn, .int .u16 uqt, .slice U1 un1 uc1, .slice U2 un2 uc2, .slice U3 un3 uc3, .int .i64 uz] 31 [.int .u16 uid, .bool ureply, .int .i64 uop, .bool uauth, .bool utrunc, .bool uwant, .bool uavail, .int .i64 ucd, .string uqn, .int .u16 uqt, .slice U1 un1 uc1, .slice U2 un2 uc2, .slice U3 un3 uc3, .int .i64 uz]).at_ (w.heap.size + 1) (by simp)).alloc (.cells #[.int .i64 7, .string s, .bool b, .slice none 0 0] 54)).alloc (.cells #[.int .u16 0, .bool false, .int .i64 0, .bool false, .bool false, .bool false, .bool false, .int .i64 0, .string ⟨#[]⟩, .int .u16 0, .slice none 0 0, .slice none 0 0, .slice none 0 0, .int .i64 0] 31)
  have hA := ((Cs.new ((w.alloc (.cells #[.int .u16 id, .bool reply, .int .i64 op, .bool auth, .bool trunc, .bool want, .bool avail, .int .i64 cd, .string qn, .int .u16 qt, .slice A1 n1 c1, .slice A2 n2 c2, .slice A3 n3 c3, .int .i64 z] 31)).alloc (.cells #[.int .u16 uid, .bool ureply, .int .i64 uop, .bool uauth, .bool utrunc, .bool uwant, .bool uavail, .int .i64 ucd, .string uqn, .int .u16 uqt, .slice U1 un1 uc1, .slice U2 un2 uc2, .slice U3 un3 uc3, .int .i64 uz] 31)) #[.int .i64 7, .string s, .bool b, .slice none 0 0] 54 [.int .i64 7, .string s, .bool b, .slice none 0 0]).at_ (w.heap.size + 1 + 1) (by simp)).alloc (.cells #[.int .u16 0, .bool false, .int .i64 0, .bool false, .bool false, .bool false, .bool false, .int .i64 0, .string ⟨#[]⟩, .int .u16 0, .slice none 0 0, .slice none 0 0, .slice none 0 0, .int .i64 0] 31)
  have hR := (Cs.new (((w.alloc (.cells #[.int .u16 id, .bool reply, .int .i64 op, .bool auth, .bool trunc, .bool want, .bool avail, .int .i64 cd, .string qn, .int .u16 qt, .slice A1 n1 c1, .slice A2 n2 c2, .slice A3 n3 c3, .int .i64 z] 31)).alloc (.cells #[.int .u16 uid, .bool ureply, .int .i64 uop, .bool uauth, .bool utrunc, .bool uwant, .bool uavail, .int .i64 ucd, .string uqn, .int .u16 uqt, .slice U1 un1 uc1, .slice U2 un2 uc2, .slice U3 un3 uc3, .int .i64 uz] 31)).alloc (.cells #[.int .i64 7, .string s, .bool b, .slice none 0 0] 54)) #[.int .u16 0, .bool false, .int .i64 0, .bool false, .bool false, .bool false, .bool false, .int .i64 0, .string ⟨#[]⟩, .int .u16 0, .slice none 0 0, .slice none 0 0, .slice none 0 0, .int .i64 0] 31 [.int .u16 0, .bool false, .int .i64 0, .bool false, .bool false, .bool false, .bool false, .int .i64 0, .string ⟨#[]⟩, .int .u16 0, .slice none 0 0, .slice none 0 0, .slice none 0 0, .int .i64 0]).at_ (w.heap.size + 1 + 1 + 1) (by simp)
  have hb0 := ((((Below.refl w.heap.size w).alloc (Nat.le_refl _) (.cells #[.int .u16 id, .bool reply, .int .i64 op, .bool auth, .bool trunc, .bool want, .bool avail, .int .i64 cd, .string qn, .int .u16 qt, .slice A1 n1 c1, .slice A2 n2 c2, .slice A3 n3 c3, .int .i64 z] 31)).alloc (by simp) (.cells #[.int .u16 uid, .bool ureply, .int .i64 uop, .bool uauth, .bool utrunc, .bool uwant, .bool uavail, .int .i64 ucd, .string uqn, .int .u16 uqt, .slice U1 un1 uc1, .slice U2 un2 uc2, .slice U3 un3 uc3, .int .i64 uz] 31)).alloc (by simp; omega) (.cells #[.int .i64 7, .string s, .bool b, .slice none 0 0] 54)).alloc (by simp; omega) (.cells #[.int .u16 0, .bool false, .int .i64 0, .bool false, .bool false, .bool false, .bool false, .int .i64 0, .string ⟨#[]⟩, .int .u16 0, .slice none 0 0, .slice none 0 0, .slice none 0 0, .int .i64 0] 31)
  have a0 := hA.get 0 _
  have a1 := hA.get 1 _
  have a2 := hA.get 2 _
  have a3 := hA.get 3 _
  go_enter Try.func21, Try.ntmps21
  go_wp2_with fail
  refine (CH.out _).mono ?_
  rintro e w1 ⟨rfl, hb1'⟩
  have hQ1 := hQ.below hb1'
  have hU1 := hU.below hb1'
  have hA1 := hA.below hb1'
  have hR1 := hR.below hb1'
  have hb1 := below_trans hb0 hb0.size hb1'
  clear hQ hU hA hR hb0 hb1' a0 a1 a2 a3 CH
  have q0 := hQ1.get 0 _
  have q1 := hQ1.get 1 _
  have q2 := hQ1.get 2 _
  have q3 := hQ1.get 3 _
  have q4 := hQ1.get 4 _
  have q5 := hQ1.get 5 _
  have q6 := hQ1.get 6 _
  have q7 := hQ1.get 7 _
  have q8 := hQ1.get 8 _
  have q9 := hQ1.get 9 _
  have q10 := hQ1.get 10 _
  have q11 := hQ1.get 11 _
  have q12 := hQ1.get 12 _
  have q13 := hQ1.get 13 _
  have a0 := hA1.get 0 _
  have a1 := hA1.get 1 _
  have a2 := hA1.get 2 _
  have a3 := hA1.get 3 _
  have TT := Lib.hid (PT.out w1)
  clear PT
  clear hQ1 hU1 hA1
  go_wp2_with fail
  refine (TT.out).mono ?_
  rintro e w2 ⟨⟨xid, xreply, xop, xauth, xtrunc, xwant, xavail, xcd, xqn, xqt, X1, xn1, xc1, x1, X2, xn2, xc2, x2, X3, xn3, xc3, x3, xz⟩, rfl, hs, hh, ho, hb2'⟩
  unfold MsgT.v
  dsimp only
  have hR2 := hR1.below hb2'
  have hb2 := below_trans hb1 hb1.size hb2'
  have hRl := hR1.lt
  have hle := hb1.size
  have HS := Lib.hid hs
  have HH := Lib.hid hh
  have HO := Lib.hid ho
  have HB := Lib.hid hb2
  have r0 := hR2.get 0 _
  have r1 := hR2.get 1 _
  have r2 := hR2.get 2 _
  have r3 := hR2.get 3 _
  have r4 := hR2.get 4 _
  have r5 := hR2.get 5 _
  have r6 := hR2.get 6 _
  have r7 := hR2.get 7 _
  have r8 := hR2.get 8 _
  have r9 := hR2.get 9 _
  have r10 := hR2.get 10 _
  have r11 := hR2.get 11 _
  have r12 := hR2.get 12 _
  have r13 := hR2.get 13 _
  have f0 := hR2.froz 0 (by simp)
  have f1 := hR2.froz 1 (by simp)
  have f2 := hR2.froz 2 (by simp)
  have f3 := hR2.froz 3 (by simp)
  have f4 := hR2.froz 4 (by simp)
  have f5 := hR2.froz 5 (by simp)
  have f6 := hR2.froz 6 (by simp)
  have f7 := hR2.froz 7 (by simp)
  have f8 := hR2.froz 8 (by simp)
  have f9 := hR2.froz 9 (by simp)
  have f10 := hR2.froz 10 (by simp)
  have f11 := hR2.froz 11 (by simp)
  have f12 := hR2.froz 12 (by simp)
  have f13 := hR2.froz 13 (by simp)
  clear hR1 hR2 hs hh ho hb1 hb2 hb2' TT q0 q1 q2 q3 q4 q5 q6 q7 q8 q9 q10 q11 q12 q13  a0 a1 a2 a3
  go_wp2_with fail
  refine bodyPost_ret (v := .tuple #[.agg #[.int .u16 xid, .bool xreply, .int .i64 xop, .bool xauth, .bool xtrunc, .bool xwant, .bool xavail, .int .i64 xcd, .string xqn, .int .u16 xqt, .slice X1 xn1 xc1, .slice X2 xn2 xc2, .slice X3 xn3 xc3, .int .i64 xz], .bool true]) (by simp [results, Try.results21, go_sem, r0, r1, r2, r3, r4, r5, r6, r7, r8, r9, r10, r11, r12, r13]) rfl ⟨⟨xid, xreply, xop, xauth, xtrunc, xwant, xavail, xcd, xqn, xqt, X1, xn1, xc1, x1, X2, xn2, xc2, x2, X3, xn3, xc3, x3, xz⟩, rfl, HS.out, ?_, HO.out.more (by omega), ?_⟩
  · iterate 14 (refine MsgHas.other ?_ HO.out _ _ _ (by omega))
    exact HH.out
  · iterate 14 (refine Below.setCell ?_ (by simp; omega) _)
    exact HB.out
set_option maxHeartbeats 3200000 in
theorem of_local (q u : MsgT) (s : ByteArray) (b tcp : Bool) (RA : Option Addr) (n rc : Nat) (rs : List RecT) (w : World) (h : Recs w RA rs) (hl : rs.length = n) (hn : n ≤ 1000) :
    TellsB Try.prog 21 #[q.v, u.v, .agg #[.int .i64 8, .string s, .bool b, .slice RA n rc], .bool tcp] w (q.baseT 0 false (locR q.qn q.qt rs)) true := by
  unfold TellsB
  have CH := Lib.hid (fun w => changes8 s b RA n rc tcp w)
  have PT := Lib.hid (fun w' (hx : Below w.heap.size w w') => local_tells q s b RA n rc rs w' (h.below hx) hl hn)
  clear h hl hn
  obtain ⟨id, reply, op, auth, trunc, want, avail, cd, qn, qt, A1, n1, c1, r1, A2, n2, c2, r2, A3, n3, c3, r3, z⟩ := q
  obtain ⟨uid, ureply, uop, uauth, utrunc, uwant, uavail, ucd, uqn, uqt, U1, un1, uc1, s1, U2, un2, uc2, s2, U3, un3, uc3, s3, uz⟩ := u
  unfold MsgT.v at *
  dsimp only at *
  have hQ := (((Cs.new w #[.int .u16 id, .bool reply, .int .i64 op, .bool auth, .bool trunc, .bool want, .bool avail, .int .i64 cd, .string qn, .int .u16 qt, .slice A1 n1 c1, .slice A2 n2 c2, .slice A3 n3 c3, .int .i64 z] 31 [.int .u16 id, .bool reply, .int .i64 op, .bool auth, .bool trunc, .bool want, .bool avail, .int .i64 cd, .string qn, .int .u16 qt, .slice A1 n1 c1, .slice A2 n2 c2, .slice A3 n3 c3, .int .i64 z]).alloc (.cells #[.int .u16 uid, .bool ureply, .int .i64 uop, .bool uauth, .bool utrunc, .bool uwant, .bool uavail, .int .i64 ucd, .string uqn, .int .u16 uqt, .slice U1 un1 uc1, .slice U2 un2 uc2, .slice U3 un3 uc3, .int .i64 uz] 31)).alloc (.cells #[.int .i64 8, .string s, .bool b, .slice RA n rc] 54)).alloc (.cells #[.int .u16 0, .bool false, .int .i64 0, .bool false, .bool false, .bool false, .bool false, .int .i64 0, .string ⟨#[]⟩, .int .u16 0, .slice none 0 0, .slice none 0 0, .slice none 0 0, .int .i64 0] 31)
  have hU := (((Cs.new (w.alloc (.cells #[.int .u16 id, .bool reply, .int .i64 op, .bool auth, .bool trunc, .bool want, .bool avail, .int .i64 cd, .string qn, .int .u16 qt, .slice A1 n1 c1, .slice A2 n2 c2, .slice A3 n3 c3, .int .i64 z] 31)) #[.int .u16 uid, .bool ureply, .int .i64 uop, .bool uauth, .bool utrunc, .bool uwant, .bool uavail, .int .i64 ucd, .string uqn, .int .u16 uqt, .slice U1 un1 uc1, .slice U2 un2 uc2, .slice U3 un3 uc3, .int .i64 uz] 31 [.int .u16 uid, .bool ureply, .int .i64 uop, .bool uauth, .bool utrunc, .bool uwant, .bool uavail, .int .i64 ucd, .string uqn, .int .u16 uqt, .slice U1 un1 uc1, .slice U2 un2 uc2, .slice U3 un3 uc3, .int .i64 uz]).at_ (w.heap.size + 1) (by simp)).alloc (.cells #[.int .i64 8, .string s, .bool b, .slice RA n rc] 54)).alloc (.cells #[.int .u16 0, .bool false, .int .i64 0, .bool false, .bool false, .bool false, .bool false, .int .i64 0, .string ⟨#[]⟩, .int .u16 0, .slice none 0 0, .slice none 0 0, .slice none 0 0, .int .i64 0] 31)
  have hA := ((Cs.new ((w.alloc (.cells #[.int .u16 id, .bool reply, .int .i64 op, .bool auth, .bool trunc, .bool want, .bool avail, .int .i64 cd, .string qn, .int .u16 qt, .slice A1 n1 c1, .slice A2 n2 c2, .slice A3 n3 c3, .int .i64 z] 31)).alloc (.cells #[.int .u16 uid, .bool ureply, .int .i64 uop, .bool uauth, .bool utrunc, .bool uwant, .bool uavail, .int .i64 ucd, .string uqn, .int .u16 uqt, .slice U1 un1 uc1, .slice U2 un2 uc2, .slice U3 un3 uc3, .int .i64 uz] 31)) #[.int .i64 8, .string s, .bool b, .slice RA n rc] 54 [.int .i64 8, .string s, .bool b, .slice RA n rc]).at_ (w.heap.size + 1 + 1) (by simp)).alloc (.cells #[.int .u16 0, .bool false, .int .i64 0, .bool false, .bool false, .bool false, .bool false, .int .i64 0, .string ⟨#[]⟩, .int .u16 0, .slice none 0 0, .slice none 0 0, .slice none 0 0, .int .i64 0] 31)
  have hR := (Cs.new (((w.alloc (.cells #[.int .u16 id, .bool reply, .int .i64 op, .bool auth, .bool trunc, .bool want, .bool avail, .int .i64 cd, .string qn, .int .u16 qt, .slice A1 n1 c1, .slice A2 n2 c2, .slice A3 n3 c3, .int .i64 z] 31)).alloc (.cells #[.int .u16 uid, .bool ureply, .int .i64 uop, .bool uauth, .bool utrunc, .bool uwant, .bool uavail, .int .i64 ucd, .string uqn, .int .u16 uqt, .slice U1 un1 uc1, .slice U2 un2 uc2, .slice U3 un3 uc3, .int .i64 uz] 31)).alloc (.cells #[.int .i64 8, .string s, .bool b, .slice RA n rc] 54)) #[.int .u16 0, .bool false, .int .i64 0, .bool false, .bool false, .bool false, .bool false, .int .i64 0, .string ⟨#[]⟩, .int .u16 0, .slice none 0 0, .slice none 0 0, .slice none 0 0, .int .i64 0] 31 [.int .u16 0, .bool false, .int .i64 0, .bool false, .bool false, .bool false, .bool false, .int .i64 0, .string ⟨#[]⟩, .int .u16 0, .slice none 0 0, .slice none 0 0, .slice none 0 0, .int .i64 0]).at_ (w.heap.size + 1 + 1 + 1) (by simp)
  have hb0 := ((((Below.refl w.heap.size w).alloc (Nat.le_refl _) (.cells #[.int .u16 id, .bool reply, .int .i64 op, .bool auth, .bool trunc, .bool want, .bool avail, .int .i64 cd, .string qn, .int .u16 qt, .slice A1 n1 c1, .slice A2 n2 c2, .slice A3 n3 c3, .int .i64 z] 31)).alloc (by simp) (.cells #[.int .u16 uid, .bool ureply, .int .i64 uop, .bool uauth, .bool utrunc, .bool uwant, .bool uavail, .int .i64 ucd, .string uqn, .int .u16 uqt, .slice U1 un1 uc1, .slice U2 un2 uc2, .slice U3 un3 uc3, .int .i64 uz] 31)).alloc (by simp; omega) (.cells #[.int .i64 8, .string s, .bool b, .slice RA n rc] 54)).alloc (by simp; omega) (.cells #[.int .u16 0, .bool false, .int .i64 0, .bool false, .bool false, .bool false, .bool false, .int .i64 0, .string ⟨#[]⟩, .int .u16 0, .slice none 0 0, .slice none 0 0, .slice none 0 0, .int .i64 0] 31)
  have a0 := hA.get 0 _
  have a1 := hA.get 1 _
  have a2 := hA.get 2 _
  have a3 := hA.get 3 _
  go_enter Try.func21, Try.ntmps21
  go_wp2_with fail
  refine (CH.out _).mono ?_
  rintro e w1 ⟨rfl, hb1'⟩
  have hQ1 := hQ.below hb1'
  have hU1 := hU.below hb1'
  have hA1 := hA.below hb1'
  have hR1 := hR.below hb1'
  have hb1 := below_trans hb0 hb0.size hb1'
  clear hQ hU hA hR hb0 hb1' a0 a1 a2 a3 CH
  have q0 := hQ1.get 0 _
  have q1 := hQ1.get 1 _
  have q2 := hQ1.get 2 _
  have q3 := hQ1.get 3 _
  have q4 := hQ1.get 4 _
  have q5 := hQ1.get 5 _
  have q6 := hQ1.get 6 _
  have q7 := hQ1.get 7 _
  have q8 := hQ1.get 8 _
  have q9 := hQ1.get 9 _
  have q10 := hQ1.get 10 _
  have q11 := hQ1.get 11 _
  have q12 := hQ1.get 12 _
  have q13 := hQ1.get 13 _
  have a0 := hA1.get 0 _
  have a1 := hA1.get 1 _
  have a2 := hA1.get 2 _
  have a3 := hA1.get 3 _
  have TT := Lib.hid (PT.out w1 hb1)
  clear PT
  clear hQ1 hU1 hA1
  go_wp2_with fail
  refine (TT.out).mono ?_
  rintro e w2 ⟨⟨xid, xreply, xop, xauth, xtrunc, xwant, xavail, xcd, xqn, xqt, X1, xn1, xc1, x1, X2, xn2, xc2, x2, X3, xn3, xc3, x3, xz⟩, rfl, hs, hh, ho, hb2'⟩
  unfold MsgT.v
  dsimp only
  have hR2 := hR1.below hb2'
  have hb2 := below_trans hb1 hb1.size hb2'
  have hRl := hR1.lt
  have hle := hb1.size
  have HS := Lib.hid hs
  have HH := Lib.hid hh
  have HO := Lib.hid ho
  have HB := Lib.hid hb2
  have r0 := hR2.get 0 _
  have r1 := hR2.get 1 _
  have r2 := hR2.get 2 _
  have r3 := hR2.get 3 _
  have r4 := hR2.get 4 _
  have r5 := hR2.get 5 _
  have r6 := hR2.get 6 _
  have r7 := hR2.get 7 _
  have r8 := hR2.get 8 _
  have r9 := hR2.get 9 _
  have r10 := hR2.get 10 _
  have r11 := hR2.get 11 _
  have r12 := hR2.get 12 _
  have r13 := hR2.get 13 _
  have f0 := hR2.froz 0 (by simp)
  have f1 := hR2.froz 1 (by simp)
  have f2 := hR2.froz 2 (by simp)
  have f3 := hR2.froz 3 (by simp)
  have f4 := hR2.froz 4 (by simp)
  have f5 := hR2.froz 5 (by simp)
  have f6 := hR2.froz 6 (by simp)
  have f7 := hR2.froz 7 (by simp)
  have f8 := hR2.froz 8 (by simp)
  have f9 := hR2.froz 9 (by simp)
  have f10 := hR2.froz 10 (by simp)
  have f11 := hR2.froz 11 (by simp)
  have f12 := hR2.froz 12 (by simp)
  have f13 := hR2.froz 13 (by simp)
  clear hR1 hR2 hs hh ho hb1 hb2 hb2' TT q0 q1 q2 q3 q4 q5 q6 q7 q8 q9 q10 q11 q12 q13  a0 a1 a2 a3
  go_wp2_with fail
  refine bodyPost_ret (v := .tuple #[.agg #[.int .u16 xid, .bool xreply, .int .i64 xop, .bool xauth, .bool xtrunc, .bool xwant, .bool xavail, .int .i64 xcd, .string xqn, .int .u16 xqt, .slice X1 xn1 xc1, .slice X2 xn2 xc2, .slice X3 xn3 xc3, .int .i64 xz], .bool true]) (by simp [results, Try.results21, go_sem, r0, r1, r2, r3, r4, r5, r6, r7, r8, r9, r10, r11, r12, r13]) rfl ⟨⟨xid, xreply, xop, xauth, xtrunc, xwant, xavail, xcd, xqn, xqt, X1, xn1, xc1, x1, X2, xn2, xc2, x2, X3, xn3, xc3, x3, xz⟩, rfl, HS.out, ?_, HO.out.more (by omega), ?_⟩
  · iterate 14 (refine MsgHas.other ?_ HO.out _ _ _ (by omega))
    exact HH.out
  · iterate 14 (refine Below.setCell ?_ (by simp; omega) _)
    exact HB.out
set_option maxHeartbeats 3200000 in
theorem of_empty (q u : MsgT) (s : ByteArray) (b tcp : Bool) (w : World) :
    TellsB Try.prog 21 #[q.v, u.v, .agg #[.int .i64 5, .string s, .bool b, .slice none 0 0], .bool tcp] w (q.baseT 0 false []) true := by
  unfold TellsB
  have CH := fun w => changes_any 5 s b tcp w
  rw [show chg 5 tcp = true from rfl] at CH
  have CH := Lib.hid CH
  have BA := fun w => base_any q 0 w
  unfold MsgT.base at BA
  obtain ⟨id, reply, op, auth, trunc, want, avail, cd, qn, qt, A1, n1, c1, r1, A2, n2, c2, r2, A3, n3, c3, r3, z⟩ := q
  obtain ⟨uid, ureply, uop, uauth, utrunc, uwant, uavail, ucd, uqn, uqt, U1, un1, uc1, s1, U2, un2, uc2, s2, U3, un3, uc3, s3, uz⟩ := u
  unfold MsgT.v at *
  dsimp only at *
  generalize hmz : minZ z = mz at *
  rw [show (0 : Int) % 16 = 0 by decide] at BA
  have BA := Lib.hid BA
  have hQ := (((Cs.new w #[.int .u16 id, .bool reply, .int .i64 op, .bool auth, .bool trunc, .bool want, .bool avail, .int .i64 cd, .string qn, .int .u16 qt, .slice A1 n1 c1, .slice A2 n2 c2, .slice A3 n3 c3, .int .i64 z] 31 [.int .u16 id, .bool reply, .int .i64 op, .bool auth, .bool trunc, .bool want, .bool avail, .int .i64 cd, .string qn, .int .u16 qt, .slice A1 n1 c1, .slice A2 n2 c2, .slice A3 n3 c3, .int .i64 z]).alloc (.cells #[.int .u16 uid, .bool ureply, .int .i64 uop, .bool uauth, .bool utrunc, .bool uwant, .bool uavail, .int .i64 ucd, .string uqn, .int .u16 uqt, .slice U1 un1 uc1, .slice U2 un2 uc2, .slice U3 un3 uc3, .int .i64 uz] 31)).alloc (.cells #[.int .i64 5, .string s, .bool b, .slice none 0 0] 54)).alloc (.cells #[.int .u16 0, .bool false, .int .i64 0, .bool false, .bool false, .bool false, .bool false, .int .i64 0, .string ⟨#[]⟩, .int .u16 0, .slice none 0 0, .slice none 0 0, .slice none 0 0, .int .i64 0] 31)
  have hU := (((Cs.new (w.alloc (.cells #[.int .u16 id, .bool reply, .int .i64 op, .bool auth, .bool trunc, .bool want, .bool avail, .int .i64 cd, .string qn, .int .u16 qt, .slice A1 n1 c1, .slice A2 n2 c2, .slice A3 n3 c3, .int .i64 z] 31)) #[.int .u16 uid, .bool ureply, .int .i64 uop, .bool uauth, .bool utrunc, .bool uwant, .bool uavail, .int .i64 ucd, .string uqn, .int .u16 uqt, .slice U1 un1 uc1, .slice U2 un2 uc2, .slice U3 un3 uc3, .int .i64 uz] 31 [.int .u16 uid, .bool ureply, .int .i64 uop, .bool uauth, .bool utrunc, .bool uwant, .bool uavail, .int .i64 ucd, .string uqn, .int .u16 uqt, .slice U1 un1 uc1, .slice U2 un2 uc2, .slice U3 un3 uc3, .int .i64 uz]).at_ (w.heap.size + 1) (by simp)).alloc (.cells #[.int .i64 5, .string s, .bool b, .slice none 0 0] 54)).alloc (.cells #[.int .u16 0, .bool false, .int .i64 0, .bool false, .bool false, .bool false, .bool false, .int .i64 0, .string ⟨#[]⟩, .int .u16 0, .slice none 0 0, .slice none 0 0, .slice none 0 0, .int .i64 0] 31)
  have hA := ((Cs.new ((w.alloc (.cells #[.int .u16 id, .bool reply, .int .i64 op, .bool auth, .bool trunc, .bool want, .bool avail, .int .i64 cd, .string qn, .int .u16 qt, .slice A1 n1 c1, .slice A2 n2 c2, .slice A3 n3 c3, .int .i64 z] 31)).alloc (.cells #[.int .u16 uid, .bool ureply, .int .i64 uop, .bool uauth, .bool utrunc, .bool uwant, .bool uavail, .int .i64 ucd, .string uqn, .int .u16 uqt, .slice U1 un1 uc1, .slice U2 un2 uc2, .slice U3 un3 uc3, .int .i64 uz] 31)) #[.int .i64 5, .string s, .bool b, .slice none 0 0] 54 [.int .i64 5, .string s, .bool b, .slice none 0 0]).at_ (w.heap.size + 1 + 1) (by simp)).alloc (.cells #[.int .u16 0, .bool false, .int .i64 0, .bool false, .bool false, .bool false, .bool false, .int .i64 0, .string ⟨#[]⟩, .int .u16 0, .slice none 0 0, .slice none 0 0, .slice none 0 0, .int .i64 0] 31)
  have hR := (Cs.new (((w.alloc (.cells #[.int .u16 id, .bool reply, .int .i64 op, .bool auth, .bool trunc, .bool want, .bool avail, .int .i64 cd, .string qn, .int .u16 qt, .slice A1 n1 c1, .slice A2 n2 c2, .slice A3 n3 c3, .int .i64 z] 31)).alloc (.cells #[.int .u16 uid, .bool ureply, .int .i64 uop, .bool uauth, .bool utrunc, .bool uwant, .bool uavail, .int .i64 ucd, .string uqn, .int .u16 uqt, .slice U1 un1 uc1, .slice U2 un2 uc2, .slice U3 un3 uc3, .int .i64 uz] 31)).alloc (.cells #[.int .i64 5, .string s, .bool b, .slice none 0 0] 54)) #[.int .u16 0, .bool false, .int .i64 0, .bool false, .bool false, .bool false, .bool false, .int .i64 0, .string ⟨#[]⟩, .int .u16 0, .slice none 0 0, .slice none 0 0, .slice none 0 0, .int .i64 0] 31 [.int .u16 0, .bool false, .int .i64 0, .bool false, .bool false, .bool false, .bool false, .int .i64 0, .string ⟨#[]⟩, .int .u16 0, .slice none 0 0, .slice none 0 0, .slice none 0 0, .int .i64 0]).at_ (w.heap.size + 1 + 1 + 1) (by simp)
  have hb0 := ((((Below.refl w.heap.size w).alloc (Nat.le_refl _) (.cells #[.int .u16 id, .bool reply, .int .i64 op, .bool auth, .bool trunc, .bool want, .bool avail, .int .i64 cd, .string qn, .int .u16 qt, .slice A1 n1 c1, .slice A2 n2 c2, .slice A3 n3 c3, .int .i64 z] 31)).alloc (by simp) (.cells #[.int .u16 uid, .bool ureply, .int .i64 uop, .bool uauth, .bool utrunc, .bool uwant, .bool uavail, .int .i64 ucd, .string uqn, .int .u16 uqt, .slice U1 un1 uc1, .slice U2 un2 uc2, .slice U3 un3 uc3, .int .i64 uz] 31)).alloc (by simp; omega) (.cells #[.int .i64 5, .string s, .bool b, .slice none 0 0] 54)).alloc (by simp; omega) (.cells #[.int .u16 0, .bool false, .int .i64 0, .bool false, .bool false, .bool false, .bool false, .int .i64 0, .string ⟨#[]⟩, .int .u16 0, .slice none 0 0, .slice none 0 0, .slice none 0 0, .int .i64 0] 31)
  have a0 := hA.get 0 _
  have a1 := hA.get 1 _
  have a2 := hA.get 2 _
  have a3 := hA.get 3 _
  go_enter Try.func21, Try.ntmps21
  go_wp2_with fail
  refine (CH.out _).mono ?_
  rintro e w1 ⟨rfl, hb1'⟩
  have hQ1 := hQ.below hb1'
  have hU1 := hU.below hb1'
  have hA1 := hA.below hb1'
  have hR1 := hR.below hb1'
  have hb1 := below_trans hb0 hb0.size hb1'
  clear hQ hU hA hR hb0 hb1' a0 a1 a2 a3 CH
  have q0 := hQ1.get 0 _
  have q1 := hQ1.get 1 _
  have q2 := hQ1.get 2 _
  have q3 := hQ1.get 3 _
  have q4 := hQ1.get 4 _
  have q5 := hQ1.get 5 _
  have q6 := hQ1.get 6 _
  have q7 := hQ1.get 7 _
  have q8 := hQ1.get 8 _
  have q9 := hQ1.get 9 _
  have q10 := hQ1.get 10 _
  have q11 := hQ1.get 11 _
  have q12 := hQ1.get 12 _
  have q13 := hQ1.get 13 _
  have a0 := hA1.get 0 _
  have a1 := hA1.get 1 _
  have a2 := hA1.get 2 _
  have a3 := hA1.get 3 _
  have HA := Lib.hid hA1
  clear hQ1 hU1 hA1
  go_wp2_with fail
  refine (BA.out _).mono ?_
  rintro e w2 ⟨rfl, hb2'⟩
  have hR2 := (hR1.below hb2').alloc (.cells #[.int .u16 id, .bool true, .int .i64 op, .bool false, .bool false, .bool want, .bool true, .int .i64 (0), .string qn, .int .u16 qt, .slice none 0 0, .slice none 0 0, .slice none 0 0, .int .i64 mz] 31)
  have hA2 := ((((Cs.below (w' := w2) (w := w1) (b := w.heap.size + 1 + 1) (vs := [.int .i64 5, .string s, .bool b, .slice none 0 0]) HA.out hb2').alloc (.cells #[.int .u16 id, .bool true, .int .i64 op, .bool false, .bool false, .bool want, .bool true, .int .i64 (0), .string qn, .int .u16 qt, .slice none 0 0, .slice none 0 0, .slice none 0 0, .int .i64 mz] 31))))
  have hb2 := below_trans hb1 hb1.size hb2'
  have hb3 := hb2.alloc hb2.size (.cells #[.int .u16 id, .bool true, .int .i64 op, .bool false, .bool false, .bool want, .bool true, .int .i64 (0), .string qn, .int .u16 qt, .slice none 0 0, .slice none 0 0, .slice none 0 0, .int .i64 mz] 31)
  have hRl := (hR1.below hb2').lt
  have hle := hb1.size
  clear q0 q1 q2 q3 q4 q5 q6 q7 q8 q9 q10 q11 q12 q13 hR1 hb2' a1 a2 a3 a0
  have a0 := hA2.get 0 _
  have hM := Cs.new w2 #[.int .u16 id, .bool true, .int .i64 op, .bool false, .bool false, .bool want, .bool true, .int .i64 (0), .string qn, .int .u16 qt, .slice none 0 0, .slice none 0 0, .slice none 0 0, .int .i64 mz] 31 [.int .u16 id, .bool true, .int .i64 op, .bool false, .bool false, .bool want, .bool true, .int .i64 (0), .string qn, .int .u16 qt, .slice none 0 0, .slice none 0 0, .slice none 0 0, .int .i64 mz]
  go_upto_region 13 with fail
  generalize hW3 : w2.alloc (.cells #[.int .u16 id, .bool true, .int .i64 op, .bool false, .bool false, .bool want, .bool true, .int .i64 (0), .string qn, .int .u16 qt, .slice none 0 0, .slice none 0 0, .slice none 0 0, .int .i64 mz] 31) = W3 at *
  generalize hM2 : w2.heap.size = MM at *
  have m0 := hM.get 0 _
  have m1 := hM.get 1 _
  have m2 := hM.get 2 _
  have m3 := hM.get 3 _
  have m4 := hM.get 4 _
  have m5 := hM.get 5 _
  have m6 := hM.get 6 _
  have m7 := hM.get 7 _
  have m8 := hM.get 8 _
  have m9 := hM.get 9 _
  have m10 := hM.get 10 _
  have m11 := hM.get 11 _
  have m12 := hM.get 12 _
  have m13 := hM.get 13 _
  have r0 := hR2.get 0 _
  have r1 := hR2.get 1 _
  have r2 := hR2.get 2 _
  have r3 := hR2.get 3 _
  have r4 := hR2.get 4 _
  have r5 := hR2.get 5 _
  have r6 := hR2.get 6 _
  have r7 := hR2.get 7 _
  have r8 := hR2.get 8 _
  have r9 := hR2.get 9 _
  have r10 := hR2.get 10 _
  have r11 := hR2.get 11 _
  have r12 := hR2.get 12 _
  have r13 := hR2.get 13 _
  have f0 := hR2.froz 0 (by simp)
  have f1 := hR2.froz 1 (by simp)
  have f2 := hR2.froz 2 (by simp)
  have f3 := hR2.froz 3 (by simp)
  have f4 := hR2.froz 4 (by simp)
  have f5 := hR2.froz 5 (by simp)
  have f6 := hR2.froz 6 (by simp)
  have f7 := hR2.froz 7 (by simp)
  have f8 := hR2.froz 8 (by simp)
  have f9 := hR2.froz 9 (by simp)
  have f10 := hR2.froz 10 (by simp)
  have f11 := hR2.froz 11 (by simp)
  have f12 := hR2.froz 12 (by simp)
  have f13 := hR2.froz 13 (by simp)
  clear hR2 hA2 hb1 hb2 a0 hM hW3
  have HB := Lib.hid hb3
  clear hb3
  go_wp2_with fail
  refine bodyPost_ret (v := .tuple #[.agg #[.int .u16 id, .bool true, .int .i64 op, .bool false, .bool false, .bool want, .bool true, .int .i64 (0), .string qn, .int .u16 qt, .slice none 0 0, .slice none 0 0, .slice none 0 0, .int .i64 mz], .bool true]) (by simp [results, Try.results21, go_sem, r0, r1, r2, r3, r4, r5, r6, r7, r8, r9, r10, r11, r12, r13]) rfl ⟨⟨id, true, op, false, false, want, true, 0, qn, qt, none, 0, 0, [], none, 0, 0, [], none, 0, 0, [], mz⟩, rfl, ⟨rfl, rfl, rfl, rfl, rfl, rfl, rfl, rfl, rfl, rfl, hmz.symm, rfl, rfl, rfl⟩, ⟨Recs.nil _ _, Recs.nil _ _, Recs.nil _ _, rfl, rfl, rfl, Nat.zero_le _, Nat.zero_le _, Nat.zero_le _⟩, ⟨OwnA.none _, OwnA.none _, OwnA.none _⟩, ?_⟩
  iterate 14 (refine Below.setCell ?_ (by simp; omega) _)
  exact HB.out
set_option maxHeartbeats 3200000 in
theorem of_tcp (q u : MsgT) (s : ByteArray) (b : Bool) (w : World) :
    TellsB Try.prog 21 #[q.v, u.v, .agg #[.int .i64 6, .string s, .bool b, .slice none 0 0], .bool false] w (q.baseT 0 true []) true := by
  unfold TellsB
  have CH := fun w => changes_any 6 s b false w
  rw [show chg 6 false = true from rfl] at CH
  have CH := Lib.hid CH
  have BA := fun w => base_any q 0 w
  unfold MsgT.base at BA
  obtain ⟨id, reply, op, auth, trunc, want, avail, cd, qn, qt, A1, n1, c1, r1, A2, n2, c2, r2, A3, n3, c3, r3, z⟩ := q
  obtain ⟨uid, ureply, uop, uauth, utrunc, uwant, uavail, ucd, uqn, uqt, U1, un1, uc1, s1, U2, un2, uc2, s2, U3, un3, uc3, s3, uz⟩ := u
  unfold MsgT.v at *
  dsimp only at *
  generalize hmz : minZ z = mz at *
  rw [show (0 : Int) % 16 = 0 by decide] at BA
  have BA := Lib.hid BA
  have hQ := (((Cs.new w #[.int .u16 id, .bool reply, .int .i64 op, .bool auth, .bool trunc, .bool want, .bool avail, .int .i64 cd, .string qn, .int .u16 qt, .slice A1 n1 c1, .slice A2 n2 c2, .slice A3 n3 c3, .int .i64 z] 31 [.int .u16 id, .bool reply, .int .i64 op, .bool auth, .bool trunc, .bool want, .bool avail, .int .i64 cd, .string qn, .int .u16 qt, .slice A1 n1 c1, .slice A2 n2 c2, .slice A3 n3 c3, .int .i64 z]).alloc (.cells #[.int .u16 uid, .bool ureply, .int .i64 uop, .bool uauth, .bool utrunc, .bool uwant, .bool uavail, .int .i64 ucd, .string uqn, .int .u16 uqt, .slice U1 un1 uc1, .slice U2 un2 uc2, .slice U3 un3 uc3, .int .i64 uz] 31)).alloc (.cells #[.int .i64 6, .string s, .bool b, .slice none 0 0] 54)).alloc (.cells #[.int .u16 0, .bool false, .int .i64 0, .bool false, .bool false, .bool false, .bool false, .int .i64 0, .string ⟨#[]⟩, .int .u16 0, .slice none 0 0, .slice none 0 0, .slice none 0 0, .int .i64 0] 31)
  have hU := (((Cs.new (w.alloc (.cells #[.int .u16 id, .bool reply, .int .i64 op, .bool auth, .bool trunc, .bool want, .bool avail, .int .i64 cd, .string qn, .int .u16 qt, .slice A1 n1 c1, .slice A2 n2 c2, .slice A3 n3 c3, .int .i64 z] 31)) #[.int .u16 uid, .bool ureply, .int .i64 uop, .bool uauth, .bool utrunc, .bool uwant, .bool uavail, .int .i64 ucd, .string uqn, .int .u16 uqt, .slice U1 un1 uc1, .slice U2 un2 uc2, .slice U3 un3 uc3, .int .i64 uz] 31 [.int .u16 uid, .bool ureply, .int .i64 uop, .bool uauth, .bool utrunc, .bool uwant, .bool uavail, .int .i64 ucd, .string uqn, .int .u16 uqt, .slice U1 un1 uc1, .slice U2 un2 uc2, .slice U3 un3 uc3, .int .i64 uz]).at_ (w.heap.size + 1) (by simp)).alloc (.cells #[.int .i64 6, .string s, .bool b, .slice none 0 0] 54)).alloc (.cells #[.int .u16 0, .bool false, .int .i64 0, .bool false, .bool false, .bool false, .bool false, .int .i64 0, .string ⟨#[]⟩, .int .u16 0, .slice none 0 0, .slice none 0 0, .slice none 0 0, .int .i64 0] 31)
  have hA := ((Cs.new ((w.alloc (.cells #[.int .u16 id, .bool reply, .int .i64 op, .bool auth, .bool trunc, .bool want, .bool avail, .int .i64 cd, .string qn, .int .u16 qt, .slice A1 n1 c1, .slice A2 n2 c2, .slice A3 n3 c3, .int .i64 z] 31)).alloc (.cells #[.int .u16 uid, .bool ureply, .int .i64 uop, .bool uauth, .bool utrunc, .bool uwant, .bool uavail, .int .i64 ucd, .string uqn, .int .u16 uqt, .slice U1 un1 uc1, .slice U2 un2 uc2, .slice U3 un3 uc3, .int .i64 uz] 31)) #[.int .i64 6, .string s, .bool b, .slice none 0 0] 54 [.int .i64 6, .string s, .bool b, .slice none 0 0]).at_ (w.heap.size + 1 + 1) (by simp)).alloc (.cells #[.int .u16 0, .bool false, .int .i64 0, .bool false, .bool false, .bool false, .bool false, .int .i64 0, .string ⟨#[]⟩, .int .u16 0, .slice none 0 0, .slice none 0 0, .slice none 0 0, .int .i64 0] 31)
  have hR := (Cs.new (((w.alloc (.cells #[.int .u16 id, .bool reply, .int .i64 op, .bool auth, .bool trunc, .bool want, .bool avail, .int .i64 cd, .string qn, .int .u16 qt, .slice A1 n1 c1, .slice A2 n2 c2, .slice A3 n3 c3, .int .i64 z] 31)).alloc (.cells #[.int .u16 uid, .bool ureply, .int .i64 uop, .bool uauth, .bool utrunc, .bool uwant, .bool uavail, .int .i64 ucd, .string uqn, .int .u16 uqt, .slice U1 un1 uc1, .slice U2 un2 uc2, .slice U3 un3 uc3, .int .i64 uz] 31)).alloc (.cells #[.int .i64 6, .string s, .bool b, .slice none 0 0] 54)) #[.int .u16 0, .bool false, .int .i64 0, .bool false, .bool false, .bool false, .bool false, .int .i64 0, .string ⟨#[]⟩, .int .u16 0, .slice none 0 0, .slice none 0 0, .slice none 0 0, .int .i64 0] 31 [.int .u16 0, .bool false, .int .i64 0, .bool false, .bool false, .bool false, .bool false, .int .i64 0, .string ⟨#[]⟩, .int .u16 0, .slice none 0 0, .slice none 0 0, .slice none 0 0, .int .i64 0]).at_ (w.heap.size + 1 + 1 + 1) (by simp)
  have hb0 := ((((Below.refl w.heap.size w).alloc (Nat.le_refl _) (.cells #[.int .u16 id, .bool reply, .int .i64 op, .bool auth, .bool trunc, .bool want, .bool avail, .int .i64 cd, .string qn, .int .u16 qt, .slice A1 n1 c1, .slice A2 n2 c2, .slice A3 n3 c3, .int .i64 z] 31)).alloc (by simp) (.cells #[.int .u16 uid, .bool ureply, .int .i64 uop, .bool uauth, .bool utrunc, .bool uwant, .bool uavail, .int .i64 ucd, .string uqn, .int .u16 uqt, .slice U1 un1 uc1, .slice U2 un2 uc2, .slice U3 un3 uc3, .int .i64 uz] 31)).alloc (by simp; omega) (.cells #[.int .i64 6, .string s, .bool b, .slice none 0 0] 54)).alloc (by simp; omega) (.cells #[.int .u16 0, .bool false, .int .i64 0, .bool false, .bool false, .bool false, .bool false, .int .i64 0, .string ⟨#[]⟩, .int .u16 0, .slice none 0 0, .slice none 0 0, .slice none 0 0, .int .i64 0] 31)
  have a0 := hA.get 0 _
  have a1 := hA.get 1 _
  have a2 := hA.get 2 _
  have a3 := hA.get 3 _
  go_enter Try.func21, Try.ntmps21
  go_wp2_with fail
  refine (CH.out _).mono ?_
  rintro e w1 ⟨rfl, hb1'⟩
  have hQ1 := hQ.below hb1'
  have hU1 := hU.below hb1'
  have hA1 := hA.below hb1'
  have hR1 := hR.below hb1'
  have hb1 := below_trans hb0 hb0.size hb1'
  clear hQ hU hA hR hb0 hb1' a0 a1 a2 a3 CH
  have q0 := hQ1.get 0 _
  have q1 := hQ1.get 1 _
  have q2 := hQ1.get 2 _
  have q3 := hQ1.get 3 _
  have q4 := hQ1.get 4 _
  have q5 := hQ1.get 5 _
  have q6 := hQ1.get 6 _
  have q7 := hQ1.get 7 _
  have q8 := hQ1.get 8 _
  have q9 := hQ1.get 9 _
  have q10 := hQ1.get 10 _
  have q11 := hQ1.get 11 _
  have q12 := hQ1.get 12 _
  have q13 := hQ1.get 13 _
  have a0 := hA1.get 0 _
  have a1 := hA1.get 1 _
  have a2 := hA1.get 2 _
  have a3 := hA1.get 3 _
  have HA := Lib.hid hA1
  clear hQ1 hU1 hA1
  go_wp2_with fail
  refine (BA.out _).mono ?_
  rintro e w2 ⟨rfl, hb2'⟩
  have hR2 := (hR1.below hb2').alloc (.cells #[.int .u16 id, .bool true, .int .i64 op, .bool false, .bool true, .bool want, .bool true, .int .i64 (0), .string qn, .int .u16 qt, .slice none 0 0, .slice none 0 0, .slice none 0 0, .int .i64 mz] 31)
  have hA2 := ((((Cs.below (w' := w2) (w := w1) (b := w.heap.size + 1 + 1) (vs := [.int .i64 6, .string s, .bool b, .slice none 0 0]) HA.out hb2').alloc (.cells #[.int .u16 id, .bool true, .int .i64 op, .bool false, .bool false, .bool want, .bool true, .int .i64 (0), .string qn, .int .u16 qt, .slice none 0 0, .slice none 0 0, .slice none 0 0, .int .i64 mz] 31))))
  have hb2 := below_trans hb1 hb1.size hb2'
  have hb3 := hb2.alloc hb2.size (.cells #[.int .u16 id, .bool true, .int .i64 op, .bool false, .bool true, .bool want, .bool true, .int .i64 (0), .string qn, .int .u16 qt, .slice none 0 0, .slice none 0 0, .slice none 0 0, .int .i64 mz] 31)
  have hRl := (hR1.below hb2').lt
  have hle := hb1.size
  clear q0 q1 q2 q3 q4 q5 q6 q7 q8 q9 q10 q11 q12 q13 hR1 hb2' a1 a2 a3 a0
  have a0 := hA2.get 0 _
  have hM := Cs.new w2 #[.int .u16 id, .bool true, .int .i64 op, .bool false, .bool true, .bool want, .bool true, .int .i64 (0), .string qn, .int .u16 qt, .slice none 0 0, .slice none 0 0, .slice none 0 0, .int .i64 mz] 31 [.int .u16 id, .bool true, .int .i64 op, .bool false, .bool true, .bool want, .bool true, .int .i64 (0), .string qn, .int .u16 qt, .slice none 0 0, .slice none 0 0, .slice none 0 0, .int .i64 mz]
  go_upto_region 13 with fail
  generalize hW3 : w2.alloc (.cells #[.int .u16 id, .bool true, .int .i64 op, .bool false, .bool true, .bool want, .bool true, .int .i64 (0), .string qn, .int .u16 qt, .slice none 0 0, .slice none 0 0, .slice none 0 0, .int .i64 mz] 31) = W3 at *
  generalize hM2 : w2.heap.size = MM at *
  have m0 := hM.get 0 _
  have m1 := hM.get 1 _
  have m2 := hM.get 2 _
  have m3 := hM.get 3 _
  have m4 := hM.get 4 _
  have m5 := hM.get 5 _
  have m6 := hM.get 6 _
  have m7 := hM.get 7 _
  have m8 := hM.get 8 _
  have m9 := hM.get 9 _
  have m10 := hM.get 10 _
  have m11 := hM.get 11 _
  have m12 := hM.get 12 _
  have m13 := hM.get 13 _
  have r0 := hR2.get 0 _
  have r1 := hR2.get 1 _
  have r2 := hR2.get 2 _
  have r3 := hR2.get 3 _
  have r4 := hR2.get 4 _
  have r5 := hR2.get 5 _
  have r6 := hR2.get 6 _
  have r7 := hR2.get 7 _
  have r8 := hR2.get 8 _
  have r9 := hR2.get 9 _
  have r10 := hR2.get 10 _
  have r11 := hR2.get 11 _
  have r12 := hR2.get 12 _
  have r13 := hR2.get 13 _
  have f0 := hR2.froz 0 (by simp)
  have f1 := hR2.froz 1 (by simp)
  have f2 := hR2.froz 2 (by simp)
  have f3 := hR2.froz 3 (by simp)
  have f4 := hR2.froz 4 (by simp)
  have f5 := hR2.froz 5 (by simp)
  have f6 := hR2.froz 6 (by simp)
  have f7 := hR2.froz 7 (by simp)
  have f8 := hR2.froz 8 (by simp)
  have f9 := hR2.froz 9 (by simp)
  have f10 := hR2.froz 10 (by simp)
  have f11 := hR2.froz 11 (by simp)
  have f12 := hR2.froz 12 (by simp)
  have f13 := hR2.froz 13 (by simp)
  clear hR2 hA2 hb1 hb2 a0 hM hW3
  have HB := Lib.hid hb3
  clear hb3
  go_wp2_with fail
  refine bodyPost_ret (v := .tuple #[.agg #[.int .u16 id, .bool true, .int .i64 op, .bool false, .bool true, .bool want, .bool true, .int .i64 (0), .string qn, .int .u16 qt, .slice none 0 0, .slice none 0 0, .slice none 0 0, .int .i64 mz], .bool true]) (by simp [results, Try.results21, go_sem, r0, r1, r2, r3, r4, r5, r6, r7, r8, r9, r10, r11, r12, r13]) rfl ⟨⟨id, true, op, false, true, want, true, 0, qn, qt, none, 0, 0, [], none, 0, 0, [], none, 0, 0, [], mz⟩, rfl, ⟨rfl, rfl, rfl, rfl, rfl, rfl, rfl, rfl, rfl, rfl, hmz.symm, rfl, rfl, rfl⟩, ⟨Recs.nil _ _, Recs.nil _ _, Recs.nil _ _, rfl, rfl, rfl, Nat.zero_le _, Nat.zero_le _, Nat.zero_le _⟩, ⟨OwnA.none _, OwnA.none _, OwnA.none _⟩, ?_⟩
  iterate 14 (refine Below.setCell ?_ (by simp; omega) _)
  exact HB.out
end Go.Proofs.Ytbjbppnjheaecaa
