/- The walk of ReplyHides. -/
import Derived.Test.YtbjbppnjheaecaaRepR
import Derived.Outline
namespace Go.Proofs.Ytbjbppnjheaecaa
open Go.RowKit
set_option linter.unusedVariables false
set_option linter.unusedSimpArgs false
set_option maxRecDepth 20000
set_option maxHeartbeats 12800000 in
theorem replyHides_walk (w : World) (q : MsgT) (hq : MsgOk w q) (bq1 : q.c1 ≤ 3518437208780) (bq2 : q.c2 ≤ 3518437208780) (bq3 : q.c3 ≤ 3518437208780) (bqn : q.qn.size ≤ 140737488351232) (u : MsgT) (hu : MsgOk w u) (bu1 : u.c1 ≤ 3518437208780) (bu2 : u.c2 ≤ 3518437208780) (bu3 : u.c3 ≤ 3518437208780) (bun : u.qn.size ≤ 140737488351232)
    (ot : MsgT) (ho : MsgOk w ot) (bo1 : ot.c1 ≤ 3518437208780) (bo2 : ot.c2 ≤ 3518437208780) (bo3 : ot.c3 ≤ 3518437208780) (bon : ot.qn.size ≤ 140737488351232)
    (kd : Int) (hkd : (Lit.int .u8 kd).wf = true) (how : Int) (hhow : (Lit.int .u8 how).wf = true) (NA : Option Addr) (nn nc : Nat) (zs : List Int) (hV : SlView w NA nn nc (zs.map (Value.int .u8))) (hl : zs.length = nn) (hzw : ∀ z ∈ zs, (Lit.int .u8 z).wf = true) (hc : nc ≤ 140737488351232)
    (RA : Option Addr) (rn rc : Nat) (ds : List ActT) (hD : Acts5 w RA rn rc ds) (tcp : Bool) :
    Calls Try.prog 6 #[q.v, u.v, ot.v, .agg #[.int .u8 kd, .int .u8 how, .slice NA nn nc, .slice RA rn rc], .bool tcp] w fun e w' => e = .returned (.bool true) ∧ Below w.heap.size w w' := by
  have hk' := u8_wf hkd
  have hh' := u8_wf hhow
  obtain ⟨kn, rfl⟩ : ∃ k : Nat, kd = k := ⟨kd.toNat, by omega⟩
  obtain ⟨hw, rfl⟩ : ∃ k : Nat, how = k := ⟨how.toNat, by omega⟩
  have hz : ∀ z ∈ zs, 0 ≤ z ∧ z < 256 := fun z h => u8_wf (hzw z h)
  have CA := Lib.hid (fun (w' : World) (hx : Below w.heap.size w w') => choice_any kn (by omega) hw (by omega) NA nn nc zs RA rn rc ds w' ((hV.sl.below hx).more hx.size) hz (by have := hV.le; omega) (hD.at_.below hx) hD.most)
  have UPU := Lib.hid (hu.up bu1 bu2 bu3)
  have UPO := Lib.hid (ho.up bo1 bo2 bo3)
  have HQN := Lib.hid (show q.qn.size ≤ 140737488355328 by omega)
  have AW := Lib.hid (fun w => awake21 w)
  clear hkd hhow hV hzw hz hl hc hD hq hu ho bq1 bq2 bq3 bu1 bu2 bu3 bo1 bo2 bo3 bqn bun bon hk' hh'
  obtain ⟨K, hK⟩ : ∃ K, kn % 10 = K := ⟨_, rfl⟩
  rw [hK] at CA
  clear hK
  have TU := Lib.hid (fun (K : Nat) s b X xn xc rs (w' : World) h1 h2 => of_any q u K s b X xn xc rs tcp w' h1 h2 HQN.out)
  have TO := Lib.hid (fun (K : Nat) s b X xn xc rs (w' : World) h1 h2 => of_any q ot K s b X xn xc rs tcp w' h1 h2 HQN.out)
  have OC := Lib.hid (fun k s b rs => ofT_chg q u ot k s b rs tcp)
  have OP := Lib.hid (fun k s b rs => ofT_pass q u k s b rs tcp)
  have PR1 := Lib.hid (show (q.passT u).r1 = u.r1 from rfl)
  have PR2 := Lib.hid (show (q.passT ot).r1 = ot.r1 from rfl)
  generalize hFU : ofT q u = FU at *
  generalize hFO : ofT q ot = FO at *
  generalize hPU : q.passT u = PU at *
  generalize hPO : q.passT ot = PO at *
  clear hFU hFO hPU hPO HQN
  have HUH := Lib.hid UPU.out.has
  obtain ⟨id, reply, op, auth, trunc, want, avail, cd, qn, qt, A1, n1, c1, r1, A2, n2, c2, r2, A3, n3, c3, r3, z⟩ := q
  obtain ⟨uid, ureply, uop, uauth, utrunc, uwant, uavail, ucd, uqn, uqt, U1, un1, uc1, s1, U2, un2, uc2, s2, U3, un3, uc3, s3, uz⟩ := u
  obtain ⟨oid, oreply, oop, oauth, otrunc, owant, oavail, ocd, oqn, oqt, O1, on1, oc1, os1, O2, on2, oc2, os2, O3, on3, oc3, os3, oz⟩ := ot
  unfold MsgT.v at *
  dsimp only at *
  have hQ := (((Cs.new w #[.int .u16 id, .bool reply, .int .i64 op, .bool auth, .bool trunc, .bool want, .bool avail, .int .i64 cd, .string qn, .int .u16 qt, .slice A1 n1 c1, .slice A2 n2 c2, .slice A3 n3 c3, .int .i64 z] 31 [.int .u16 id, .bool reply, .int .i64 op, .bool auth, .bool trunc, .bool want, .bool avail, .int .i64 cd, .string qn, .int .u16 qt, .slice A1 n1 c1, .slice A2 n2 c2, .slice A3 n3 c3, .int .i64 z]).alloc (.cells #[.int .u16 uid, .bool ureply, .int .i64 uop, .bool uauth, .bool utrunc, .bool uwant, .bool uavail, .int .i64 ucd, .string uqn, .int .u16 uqt, .slice U1 un1 uc1, .slice U2 un2 uc2, .slice U3 un3 uc3, .int .i64 uz] 31)).alloc (.cells #[.int .u16 oid, .bool oreply, .int .i64 oop, .bool oauth, .bool otrunc, .bool owant, .bool oavail, .int .i64 ocd, .string oqn, .int .u16 oqt, .slice O1 on1 oc1, .slice O2 on2 oc2, .slice O3 on3 oc3, .int .i64 oz] 31)).alloc (.cells #[.int .u8 (kn : Nat), .int .u8 (hw : Nat), .slice NA nn nc, .slice RA rn rc] 51)
  have hU := (((Cs.new (w.alloc (.cells #[.int .u16 id, .bool reply, .int .i64 op, .bool auth, .bool trunc, .bool want, .bool avail, .int .i64 cd, .string qn, .int .u16 qt, .slice A1 n1 c1, .slice A2 n2 c2, .slice A3 n3 c3, .int .i64 z] 31)) #[.int .u16 uid, .bool ureply, .int .i64 uop, .bool uauth, .bool utrunc, .bool uwant, .bool uavail, .int .i64 ucd, .string uqn, .int .u16 uqt, .slice U1 un1 uc1, .slice U2 un2 uc2, .slice U3 un3 uc3, .int .i64 uz] 31 [.int .u16 uid, .bool ureply, .int .i64 uop, .bool uauth, .bool utrunc, .bool uwant, .bool uavail, .int .i64 ucd, .string uqn, .int .u16 uqt, .slice U1 un1 uc1, .slice U2 un2 uc2, .slice U3 un3 uc3, .int .i64 uz]).at_ (w.heap.size + 1) (by simp)).alloc (.cells #[.int .u16 oid, .bool oreply, .int .i64 oop, .bool oauth, .bool otrunc, .bool owant, .bool oavail, .int .i64 ocd, .string oqn, .int .u16 oqt, .slice O1 on1 oc1, .slice O2 on2 oc2, .slice O3 on3 oc3, .int .i64 oz] 31)).alloc (.cells #[.int .u8 (kn : Nat), .int .u8 (hw : Nat), .slice NA nn nc, .slice RA rn rc] 51)
  have hO := ((Cs.new ((w.alloc (.cells #[.int .u16 id, .bool reply, .int .i64 op, .bool auth, .bool trunc, .bool want, .bool avail, .int .i64 cd, .string qn, .int .u16 qt, .slice A1 n1 c1, .slice A2 n2 c2, .slice A3 n3 c3, .int .i64 z] 31)).alloc (.cells #[.int .u16 uid, .bool ureply, .int .i64 uop, .bool uauth, .bool utrunc, .bool uwant, .bool uavail, .int .i64 ucd, .string uqn, .int .u16 uqt, .slice U1 un1 uc1, .slice U2 un2 uc2, .slice U3 un3 uc3, .int .i64 uz] 31)) #[.int .u16 oid, .bool oreply, .int .i64 oop, .bool oauth, .bool otrunc, .bool owant, .bool oavail, .int .i64 ocd, .string oqn, .int .u16 oqt, .slice O1 on1 oc1, .slice O2 on2 oc2, .slice O3 on3 oc3, .int .i64 oz] 31 [.int .u16 oid, .bool oreply, .int .i64 oop, .bool oauth, .bool otrunc, .bool owant, .bool oavail, .int .i64 ocd, .string oqn, .int .u16 oqt, .slice O1 on1 oc1, .slice O2 on2 oc2, .slice O3 on3 oc3, .int .i64 oz]).at_ (w.heap.size + 1 + 1) (by simp)).alloc (.cells #[.int .u8 (kn : Nat), .int .u8 (hw : Nat), .slice NA nn nc, .slice RA rn rc] 51)
  have hC := (Cs.new (((w.alloc (.cells #[.int .u16 id, .bool reply, .int .i64 op, .bool auth, .bool trunc, .bool want, .bool avail, .int .i64 cd, .string qn, .int .u16 qt, .slice A1 n1 c1, .slice A2 n2 c2, .slice A3 n3 c3, .int .i64 z] 31)).alloc (.cells #[.int .u16 uid, .bool ureply, .int .i64 uop, .bool uauth, .bool utrunc, .bool uwant, .bool uavail, .int .i64 ucd, .string uqn, .int .u16 uqt, .slice U1 un1 uc1, .slice U2 un2 uc2, .slice U3 un3 uc3, .int .i64 uz] 31)).alloc (.cells #[.int .u16 oid, .bool oreply, .int .i64 oop, .bool oauth, .bool otrunc, .bool owant, .bool oavail, .int .i64 ocd, .string oqn, .int .u16 oqt, .slice O1 on1 oc1, .slice O2 on2 oc2, .slice O3 on3 oc3, .int .i64 oz] 31)) #[.int .u8 (kn : Nat), .int .u8 (hw : Nat), .slice NA nn nc, .slice RA rn rc] 51 [.int .u8 (kn : Nat), .int .u8 (hw : Nat), .slice NA nn nc, .slice RA rn rc]).at_ (w.heap.size + 1 + 1 + 1) (by simp)
  have hb0 := ((((Below.refl w.heap.size w).alloc (Nat.le_refl _) (.cells #[.int .u16 id, .bool reply, .int .i64 op, .bool auth, .bool trunc, .bool want, .bool avail, .int .i64 cd, .string qn, .int .u16 qt, .slice A1 n1 c1, .slice A2 n2 c2, .slice A3 n3 c3, .int .i64 z] 31)).alloc (by simp) (.cells #[.int .u16 uid, .bool ureply, .int .i64 uop, .bool uauth, .bool utrunc, .bool uwant, .bool uavail, .int .i64 ucd, .string uqn, .int .u16 uqt, .slice U1 un1 uc1, .slice U2 un2 uc2, .slice U3 un3 uc3, .int .i64 uz] 31)).alloc (by simp; omega) (.cells #[.int .u16 oid, .bool oreply, .int .i64 oop, .bool oauth, .bool otrunc, .bool owant, .bool oavail, .int .i64 ocd, .string oqn, .int .u16 oqt, .slice O1 on1 oc1, .slice O2 on2 oc2, .slice O3 on3 oc3, .int .i64 oz] 31)).alloc (by simp; omega) (.cells #[.int .u8 (kn : Nat), .int .u8 (hw : Nat), .slice NA nn nc, .slice RA rn rc] 51)
  go_enter Try.func6, Try.ntmps6
  go_wp2_with fail
  refine (AW.out _).mono ?_
  rintro e w1 ⟨rfl, hb1'⟩
  have hb1 := below_trans hb0 hb0.size hb1'
  have hQ1 := hQ.below hb1'
  have hU1 := hU.below hb1'
  have hO1 := hO.below hb1'
  have hC1 := hC.below hb1'
  have c0 := hC1.get 0 _
  have c1 := hC1.get 1 _
  have c2 := hC1.get 2 _
  have c3 := hC1.get 3 _
  clear hQ hU hO hC hb0 hb1' AW
  go_wp2_with fail
  refine (CA.out _ hb1).mono ?_
  rintro e w2 ⟨s, b, X, xn, xc, rs, rfl, ha, -, hb2'⟩
  have hb2 := below_trans hb1 hb1.size hb2'
  have hb2a := hb2.alloc hb2.size (.cells #[.int .i64 ((K : Nat) : Int), .string s, .bool b, .slice X xn xc] 54)
  have hQ2 := (hQ1.below hb2').alloc (.cells #[.int .i64 ((K : Nat) : Int), .string s, .bool b, .slice X xn xc] 54)
  have hU2 := (hU1.below hb2').alloc (.cells #[.int .i64 ((K : Nat) : Int), .string s, .bool b, .slice X xn xc] 54)
  have hO2 := (hO1.below hb2').alloc (.cells #[.int .i64 ((K : Nat) : Int), .string s, .bool b, .slice X xn xc] 54)
  have hA2 := Cs.new w2 #[.int .i64 ((K : Nat) : Int), .string s, .bool b, .slice X xn xc] 54 [.int .i64 ((K : Nat) : Int), .string s, .bool b, .slice X xn xc]
  have ha2 := ha.below ((Below.refl w2.heap.size w2).alloc (Nat.le_refl _) (.cells #[.int .i64 ((K : Nat) : Int), .string s, .bool b, .slice X xn xc] 54))
  clear c0 c1 c2 c3 hQ1 hU1 hO1 hC1 hb2' hb2 hb1 CA ha
  go_upto_region 4 with fail
  have hAl := hA2.lt
  generalize hWA : w2.alloc (.cells #[.int .i64 ((K : Nat) : Int), .string s, .bool b, .slice X xn xc] 54) = WA at *
  generalize hAB : w2.heap.size = AB at *
  clear hWA hAB
  have TU1 := Lib.hid (TU.out K s b X xn xc rs WA (UPU.out.below hb2a) ha2)
  have q0 := hQ2.get 0 _
  have q1 := hQ2.get 1 _
  have q2 := hQ2.get 2 _
  have q3 := hQ2.get 3 _
  have q4 := hQ2.get 4 _
  have q5 := hQ2.get 5 _
  have q6 := hQ2.get 6 _
  have q7 := hQ2.get 7 _
  have q8 := hQ2.get 8 _
  have q9 := hQ2.get 9 _
  have q10 := hQ2.get 10 _
  have q11 := hQ2.get 11 _
  have q12 := hQ2.get 12 _
  have q13 := hQ2.get 13 _
  have u0 := hU2.get 0 _
  have u1 := hU2.get 1 _
  have u2 := hU2.get 2 _
  have u3 := hU2.get 3 _
  have u4 := hU2.get 4 _
  have u5 := hU2.get 5 _
  have u6 := hU2.get 6 _
  have u7 := hU2.get 7 _
  have u8 := hU2.get 8 _
  have u9 := hU2.get 9 _
  have u10 := hU2.get 10 _
  have u11 := hU2.get 11 _
  have u12 := hU2.get 12 _
  have u13 := hU2.get 13 _
  have a0 := hA2.get 0 _
  have a1 := hA2.get 1 _
  have a2 := hA2.get 2 _
  have a3 := hA2.get 3 _
  have HB2 := Lib.hid hb2a
  have HA2 := Lib.hid ha2
  clear TU hb2a ha2
  go_wp2_with fail
  refine (TU1.out).mono ?_
  rintro e w3 ⟨⟨xid, xreply, xop, xauth, xtrunc, xwant, xavail, xcd, xqn, xqt, X1, xn1, xc1, x1, X2, xn2, xc2, x2, X3, xn3, xc3, x3, xz⟩, rfl, hs3, hh3, -, hb3'⟩
  unfold MsgT.v
  dsimp only
  have hb3 := below_trans HB2.out HB2.out.size hb3'
  have hb3a := hb3.alloc hb3.size (.cells #[.int .u16 xid, .bool xreply, .int .i64 xop, .bool xauth, .bool xtrunc, .bool xwant, .bool xavail, .int .i64 xcd, .string xqn, .int .u16 xqt, .slice X1 xn1 xc1, .slice X2 xn2 xc2, .slice X3 xn3 xc3, .int .i64 xz] 31)
  have hQ3 := (hQ2.below hb3').alloc (.cells #[.int .u16 xid, .bool xreply, .int .i64 xop, .bool xauth, .bool xtrunc, .bool xwant, .bool xavail, .int .i64 xcd, .string xqn, .int .u16 xqt, .slice X1 xn1 xc1, .slice X2 xn2 xc2, .slice X3 xn3 xc3, .int .i64 xz] 31)
  have hU3 := (hU2.below hb3').alloc (.cells #[.int .u16 xid, .bool xreply, .int .i64 xop, .bool xauth, .bool xtrunc, .bool xwant, .bool xavail, .int .i64 xcd, .string xqn, .int .u16 xqt, .slice X1 xn1 xc1, .slice X2 xn2 xc2, .slice X3 xn3 xc3, .int .i64 xz] 31)
  have hO3 := (hO2.below hb3').alloc (.cells #[.int .u16 xid, .bool xreply, .int .i64 xop, .bool xauth, .bool xtrunc, .bool xwant, .bool xavail, .int .i64 xcd, .string xqn, .int .u16 xqt, .slice X1 xn1 xc1, .slice X2 xn2 xc2, .slice X3 xn3 xc3, .int .i64 xz] 31)
  have hA3 := (hA2.below hb3').alloc (.cells #[.int .u16 xid, .bool xreply, .int .i64 xop, .bool xauth, .bool xtrunc, .bool xwant, .bool xavail, .int .i64 xcd, .string xqn, .int .u16 xqt, .slice X1 xn1 xc1, .slice X2 xn2 xc2, .slice X3 xn3 xc3, .int .i64 xz] 31)
  have hX3 := Cs.new w3 #[.int .u16 xid, .bool xreply, .int .i64 xop, .bool xauth, .bool xtrunc, .bool xwant, .bool xavail, .int .i64 xcd, .string xqn, .int .u16 xqt, .slice X1 xn1 xc1, .slice X2 xn2 xc2, .slice X3 xn3 xc3, .int .i64 xz] 31 [.int .u16 xid, .bool xreply, .int .i64 xop, .bool xauth, .bool xtrunc, .bool xwant, .bool xavail, .int .i64 xcd, .string xqn, .int .u16 xqt, .slice X1 xn1 xc1, .slice X2 xn2 xc2, .slice X3 xn3 xc3, .int .i64 xz]
  have ha3 := (HA2.out.below hb3').below ((Below.refl w3.heap.size w3).alloc (Nat.le_refl _) (.cells #[.int .u16 xid, .bool xreply, .int .i64 xop, .bool xauth, .bool xtrunc, .bool xwant, .bool xavail, .int .i64 xcd, .string xqn, .int .u16 xqt, .slice X1 xn1 xc1, .slice X2 xn2 xc2, .slice X3 xn3 xc3, .int .i64 xz] 31))
  have hh3a := hh3.below ((Below.refl w3.heap.size w3).alloc (Nat.le_refl _) (.cells #[.int .u16 xid, .bool xreply, .int .i64 xop, .bool xauth, .bool xtrunc, .bool xwant, .bool xavail, .int .i64 xcd, .string xqn, .int .u16 xqt, .slice X1 xn1 xc1, .slice X2 xn2 xc2, .slice X3 xn3 xc3, .int .i64 xz] 31))
  have HS3 := Lib.hid hs3
  clear q0 u0 q1 u1 q2 u2 q3 u3 q4 u4 q5 u5 q6 u6 q7 u7 q8 u8 q9 u9 q10 u10 q11 u11 q12 u12 q13 u13 a0 a1 a2 a3 hQ2 hU2 hO2 hA2 HB2 HA2 hb3 hb3' hs3 hh3 TU1
  go_upto_region 5 with fail
  have hXl := hX3.lt
  generalize hWX : w3.alloc (.cells #[.int .u16 xid, .bool xreply, .int .i64 xop, .bool xauth, .bool xtrunc, .bool xwant, .bool xavail, .int .i64 xcd, .string xqn, .int .u16 xqt, .slice X1 xn1 xc1, .slice X2 xn2 xc2, .slice X3 xn3 xc3, .int .i64 xz] 31) = WX at *
  generalize hXB : w3.heap.size = XB at *
  clear hWX hXB
  have TO1 := Lib.hid (TO.out K s b X xn xc rs WX (UPO.out.below hb3a) ha3)
  have q0 := hQ3.get 0 _
  have q1 := hQ3.get 1 _
  have q2 := hQ3.get 2 _
  have q3 := hQ3.get 3 _
  have q4 := hQ3.get 4 _
  have q5 := hQ3.get 5 _
  have q6 := hQ3.get 6 _
  have q7 := hQ3.get 7 _
  have q8 := hQ3.get 8 _
  have q9 := hQ3.get 9 _
  have q10 := hQ3.get 10 _
  have q11 := hQ3.get 11 _
  have q12 := hQ3.get 12 _
  have q13 := hQ3.get 13 _
  have o0 := hO3.get 0 _
  have o1 := hO3.get 1 _
  have o2 := hO3.get 2 _
  have o3 := hO3.get 3 _
  have o4 := hO3.get 4 _
  have o5 := hO3.get 5 _
  have o6 := hO3.get 6 _
  have o7 := hO3.get 7 _
  have o8 := hO3.get 8 _
  have o9 := hO3.get 9 _
  have o10 := hO3.get 10 _
  have o11 := hO3.get 11 _
  have o12 := hO3.get 12 _
  have o13 := hO3.get 13 _
  have a0 := hA3.get 0 _
  have a1 := hA3.get 1 _
  have a2 := hA3.get 2 _
  have a3 := hA3.get 3 _
  have HB3 := Lib.hid hb3a
  have HA3 := Lib.hid ha3
  have HH3 := Lib.hid hh3a
  clear TO hb3a ha3 hh3a
  go_wp2_with fail
  refine (TO1.out).mono ?_
  rintro e w4 ⟨⟨yid, yreply, yop, yauth, ytrunc, ywant, yavail, ycd, yqn, yqt, Y1, yn1, yc1, y1, Y2, yn2, yc2, y2, Y3, yn3, yc3, y3, yz⟩, rfl, hs4, hh4, -, hb4'⟩
  unfold MsgT.v
  dsimp only
  have hb4 := below_trans HB3.out HB3.out.size hb4'
  have hb4a := hb4.alloc hb4.size (.cells #[.int .u16 yid, .bool yreply, .int .i64 yop, .bool yauth, .bool ytrunc, .bool ywant, .bool yavail, .int .i64 ycd, .string yqn, .int .u16 yqt, .slice Y1 yn1 yc1, .slice Y2 yn2 yc2, .slice Y3 yn3 yc3, .int .i64 yz] 31)
  have hU4 := (hU3.below hb4').alloc (.cells #[.int .u16 yid, .bool yreply, .int .i64 yop, .bool yauth, .bool ytrunc, .bool ywant, .bool yavail, .int .i64 ycd, .string yqn, .int .u16 yqt, .slice Y1 yn1 yc1, .slice Y2 yn2 yc2, .slice Y3 yn3 yc3, .int .i64 yz] 31)
  have hA4 := (hA3.below hb4').alloc (.cells #[.int .u16 yid, .bool yreply, .int .i64 yop, .bool yauth, .bool ytrunc, .bool ywant, .bool yavail, .int .i64 ycd, .string yqn, .int .u16 yqt, .slice Y1 yn1 yc1, .slice Y2 yn2 yc2, .slice Y3 yn3 yc3, .int .i64 yz] 31)
  have hX4 := (hX3.below hb4').alloc (.cells #[.int .u16 yid, .bool yreply, .int .i64 yop, .bool yauth, .bool ytrunc, .bool ywant, .bool yavail, .int .i64 ycd, .string yqn, .int .u16 yqt, .slice Y1 yn1 yc1, .slice Y2 yn2 yc2, .slice Y3 yn3 yc3, .int .i64 yz] 31)
  have hY4 := Cs.new w4 #[.int .u16 yid, .bool yreply, .int .i64 yop, .bool yauth, .bool ytrunc, .bool ywant, .bool yavail, .int .i64 ycd, .string yqn, .int .u16 yqt, .slice Y1 yn1 yc1, .slice Y2 yn2 yc2, .slice Y3 yn3 yc3, .int .i64 yz] 31 [.int .u16 yid, .bool yreply, .int .i64 yop, .bool yauth, .bool ytrunc, .bool ywant, .bool yavail, .int .i64 ycd, .string yqn, .int .u16 yqt, .slice Y1 yn1 yc1, .slice Y2 yn2 yc2, .slice Y3 yn3 yc3, .int .i64 yz]
  have ha4 := (HA3.out.below hb4').below ((Below.refl w4.heap.size w4).alloc (Nat.le_refl _) (.cells #[.int .u16 yid, .bool yreply, .int .i64 yop, .bool yauth, .bool ytrunc, .bool ywant, .bool yavail, .int .i64 ycd, .string yqn, .int .u16 yqt, .slice Y1 yn1 yc1, .slice Y2 yn2 yc2, .slice Y3 yn3 yc3, .int .i64 yz] 31))
  have hh3b := (HH3.out.below hb4').below ((Below.refl w4.heap.size w4).alloc (Nat.le_refl _) (.cells #[.int .u16 yid, .bool yreply, .int .i64 yop, .bool yauth, .bool ytrunc, .bool ywant, .bool yavail, .int .i64 ycd, .string yqn, .int .u16 yqt, .slice Y1 yn1 yc1, .slice Y2 yn2 yc2, .slice Y3 yn3 yc3, .int .i64 yz] 31))
  have hh4a := hh4.below ((Below.refl w4.heap.size w4).alloc (Nat.le_refl _) (.cells #[.int .u16 yid, .bool yreply, .int .i64 yop, .bool yauth, .bool ytrunc, .bool ywant, .bool yavail, .int .i64 ycd, .string yqn, .int .u16 yqt, .slice Y1 yn1 yc1, .slice Y2 yn2 yc2, .slice Y3 yn3 yc3, .int .i64 yz] 31))
  have HS4 := Lib.hid hs4
  clear q0 o0 q1 o1 q2 o2 q3 o3 q4 o4 q5 o5 q6 o6 q7 o7 q8 o8 q9 o9 q10 o10 q11 o11 q12 o12 q13 o13 a0 a1 a2 a3 hQ3 hO3 hU3 hA3 hX3 HB3 HA3 HH3 hb4 hb4' hs4 hh4 TO1
  go_upto_region 6 with fail
  generalize hWY : w4.alloc (.cells #[.int .u16 yid, .bool yreply, .int .i64 yop, .bool yauth, .bool ytrunc, .bool ywant, .bool yavail, .int .i64 ycd, .string yqn, .int .u16 yqt, .slice Y1 yn1 yc1, .slice Y2 yn2 yc2, .slice Y3 yn3 yc3, .int .i64 yz] 31) = WY at *
  generalize hYB : w4.heap.size = YB at *
  clear hWY hYB
  have HC := Lib.hid (changes_good K s b X xn xc rs tcp WY WY ha4)
  have a0 := hA4.get 0 _
  have a1 := hA4.get 1 _
  have a2 := hA4.get 2 _
  have a3 := hA4.get 3 _
  have HB4 := Lib.hid hb4a
  have H3 := Lib.hid hh3b
  have H4 := Lib.hid hh4a
  have HUU := Lib.hid (HUH.out.below hb4a)
  clear hb4a hh3b hh4a ha4
  obtain ⟨cg, hcg⟩ : ∃ c, chg (K : Int) tcp = c := ⟨_, rfl⟩
  rw [hcg] at HC
  have HCG := Lib.hid hcg
  clear hcg
  obtain ⟨t3, ht3⟩ : ∃ t, ((K : Int) == 3) = t := ⟨_, rfl⟩
  rw [ht3]
  go_wp2_with fail
  refine HC.out.mono ?_
  rintro e w5 ⟨rfl, hb5'⟩
  have hb5 := below_trans HB4.out HB4.out.size hb5'
  have HB5 := Lib.hid hb5
  have hU5 := hU4.below hb5'
  have hA5 := hA4.below hb5'
  have hX5 := hX4.below hb5'
  have hY5 := hY4
  clear a0 a1 a2 a3 hb5 HB4 hU4 hA4 hX4 HC
  cases cg with
  | false =>
    have hr : x1 = s1 := by
      have h1 := HS3.out.r1
      rw [OP.out _ _ _ _ HCG.out] at h1
      exact h1.trans PR1.out
    have SR := Lib.hid (same_recs X1 U1 xc1 uc1 x1 s1 w5 ((H3.out.below hb5').h1) ((HUU.out.below hb5').h1) (by rw [H3.out.l1]; exact H3.out.x1) (by rw [HUU.out.l1]; exact HUU.out.x1))
    rw [show decide (x1 = s1) = true from decide_eq_true hr] at SR
    rw [show x1.length = xn1 from H3.out.l1, show s1.length = un1 from HUU.out.l1] at SR
    have m10 := hX5.get 10 _
    have u10 := hU5.get 10 _
    clear hr hU5 hA5 hX5 hY5 hb5'
    go_wp2_with fail
    refine SR.out.mono ?_
    rintro e w6 ⟨rfl, hb6'⟩
    have hb6 := below_trans HB5.out HB5.out.size hb6'
    go_wp2_with fail
    go_ret
    exact ⟨rfl, hb6⟩
  | true =>
    obtain ⟨o1, o2, o3, o4⟩ := OC.out (K : Int) s b rs HCG.out
    have hs : SameT _ _ := HS3.out.trans (o1 ▸ HS4.out.symm)
    have hx2 : xn2 = 0 := by have h1 := HS3.out.r2; rw [o2] at h1; have h2 := H3.out.l2; rw [h1] at h2; exact h2.symm
    have hx3 : xn3 = 0 := by have h1 := HS3.out.r3; rw [o3] at h1; have h2 := H3.out.l3; rw [h1] at h2; exact h2.symm
    have hor : xn1 = 0 ∨ (xn1 ≠ 0 ∧ K = 7) ∨ (xn1 ≠ 0 ∧ K = 8) := by
      by_cases h0 : xn1 = 0
      · exact .inl h0
      · rcases o4 with h1 | h1 | h1
        · have h2 := HS3.out.r1
          rw [h1] at h2
          have h3 := H3.out.l1
          rw [h2] at h3
          exact absurd h3.symm h0
        · exact .inr (.inl ⟨h0, by omega⟩)
        · exact .inr (.inr ⟨h0, by omega⟩)
    have SM := same_msgT ⟨xid, xreply, xop, xauth, xtrunc, xwant, xavail, xcd, xqn, xqt, X1, xn1, xc1, x1, X2, xn2, xc2, x2, X3, xn3, xc3, x3, xz⟩ ⟨yid, yreply, yop, yauth, ytrunc, ywant, yavail, ycd, yqn, yqt, Y1, yn1, yc1, y1, Y2, yn2, yc2, y2, Y3, yn3, yc3, y3, yz⟩ w5 (H3.out.below hb5') (H4.out.below hb5') hs
    unfold MsgT.v at SM
    dsimp only at SM
    subst hx2 hx3
    have SM := Lib.hid SM
    have hY5 := hY5.below hb5'
    have m0 := hX5.get 0 _
    have m1 := hX5.get 1 _
    have m2 := hX5.get 2 _
    have m3 := hX5.get 3 _
    have m4 := hX5.get 4 _
    have m5 := hX5.get 5 _
    have m6 := hX5.get 6 _
    have m7 := hX5.get 7 _
    have m8 := hX5.get 8 _
    have m9 := hX5.get 9 _
    have m10 := hX5.get 10 _
    have m11 := hX5.get 11 _
    have m12 := hX5.get 12 _
    have m13 := hX5.get 13 _
    have y0 := hY5.get 0 _
    have y1 := hY5.get 1 _
    have y2 := hY5.get 2 _
    have y3 := hY5.get 3 _
    have y4 := hY5.get 4 _
    have y5 := hY5.get 5 _
    have y6 := hY5.get 6 _
    have y7 := hY5.get 7 _
    have y8 := hY5.get 8 _
    have y9 := hY5.get 9 _
    have y10 := hY5.get 10 _
    have y11 := hY5.get 11 _
    have y12 := hY5.get 12 _
    have y13 := hY5.get 13 _
    clear hU5 hs o1 o2 o3 o4 HS3 HS4 H3 H4 HUU OC OP hb5'
    go_wp2_with fail
    refine SM.out.mono ?_
    rintro e w6 ⟨rfl, hb6'⟩
    have hb6 := below_trans HB5.out HB5.out.size hb6'
    have HX6 := hX5.below hb6'
    have HA6 := hA5.below hb6'
    have m10 := HX6.get 10 _
    have m11 := HX6.get 11 _
    have m12 := HX6.get 12 _
    have a0 := HA6.get 0 _
    clear y0 y1 y2 y3 y4 y5 y6 y7 y8 y9 y10 y11 y12 y13 m0 m1 m2 m3 m4 m5 m6 m7 m8 m9 m13 hY5 hX5 hA5 HX6 HA6 hb6' SM
    rcases hor with rfl | ⟨h0, h7⟩ | ⟨h0, h8⟩
    · go_wp2_with fail
      go_ret
      exact ⟨rfl, hb6⟩
    · have e0 : ((xn1 : Int) == 0) = false := by have : (xn1 : Int) ≠ 0 := by omega
                                                 simpa using this
      have e7 : ((K : Int) == 7) = true := by subst h7; rfl
      clear h0 h7
      go_wp2_with fail
      go_ret
      exact ⟨rfl, hb6⟩
    · have e0 : ((xn1 : Int) == 0) = false := by have : (xn1 : Int) ≠ 0 := by omega
                                                 simpa using this
      have e7 : ((K : Int) == 7) = false := by subst h8; rfl
      have e8 : ((K : Int) == 8) = true := by subst h8; rfl
      clear h0 h8
      go_wp2_with fail
      go_ret
      exact ⟨rfl, hb6⟩
end Go.Proofs.Ytbjbppnjheaecaa
