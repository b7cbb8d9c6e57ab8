/- The walk of ReplyOf. -/
import Derived.Test.YtbjbppnjheaecaaLawRepO1
namespace Go.Proofs.Ytbjbppnjheaecaa
open Go.RowKit
set_option linter.unusedVariables false
set_option linter.unusedSimpArgs false
set_option maxRecDepth 20000
set_option maxHeartbeats 25600000 in
theorem replyOf_k7 (w : World) (q : MsgT) (hq : MsgOk w q) (bq1 : q.c1 ≤ 3518437208780) (bq2 : q.c2 ≤ 3518437208780) (bq3 : q.c3 ≤ 3518437208780) (bqn : q.qn.size ≤ 140737488351232) (u : MsgT) (hu : MsgOk w u) (bu1 : u.c1 ≤ 3518437208780) (bu2 : u.c2 ≤ 3518437208780) (bu3 : u.c3 ≤ 3518437208780) (bun : u.qn.size ≤ 140737488351232)
    (kd : Int) (hkd : (Lit.int .u8 kd).wf = true) (how : Int) (hhow : (Lit.int .u8 how).wf = true) (NA : Option Addr) (nn nc : Nat) (zs : List Int) (hV : SlView w NA nn nc (zs.map (Value.int .u8))) (hl : zs.length = nn) (hzw : ∀ z ∈ zs, (Lit.int .u8 z).wf = true) (hc : nc ≤ 140737488351232)
    (RA : Option Addr) (rn rc : Nat) (ds : List ActT) (hD : Acts5 w RA rn rc ds) (MA : Option Addr) (mn mc : Nat) (ms : List Int) (hM : SlView w MA mn mc (ms.map (Value.int .u8))) (hml : ms.length = mn) (hmw : ∀ z ∈ ms, (Lit.int .u8 z).wf = true) (hmc : mc ≤ 140737488351232) (tcp : Bool) (hKx : kd.toNat % 10 = 7) :
    Calls Try.prog 5 #[q.v, u.v, .agg #[.int .u8 kd, .int .u8 how, .slice NA nn nc, .slice RA rn rc], .slice MA mn mc, .bool tcp] w fun e w' => e = .returned (.bool true) ∧ Below w.heap.size w w' := by
  have hk' := u8_wf hkd
  have hh' := u8_wf hhow
  obtain ⟨kn, rfl⟩ : ∃ k : Nat, kd = k := ⟨kd.toNat, by omega⟩
  obtain ⟨hw, rfl⟩ : ∃ k : Nat, how = k := ⟨how.toNat, by omega⟩
  have hz : ∀ z ∈ zs, 0 ≤ z ∧ z < 256 := fun z h => u8_wf (hzw z h)
  have hmz' : ∀ z ∈ ms, 0 ≤ z ∧ z < 256 := fun z h => u8_wf (hmw z h)
  have CA := Lib.hid (fun (w' : World) (hx : Below w.heap.size w w') => choice_any kn (by omega) hw (by omega) NA nn nc zs RA rn rc ds w' ((hV.sl.below hx).more hx.size) hz (by have := hV.le; omega) (hD.at_.below hx) hD.most)
  have NM := fun (w' : World) (hx : Below w.heap.size w w') => name_any MA mn mc ms w' ((hM.sl.below hx).more hx.size) hmz' (by have := hM.le; unfold maxLen; omega)
  have hNl := nameZ_len ms hmz'
  unfold sv at NM
  obtain ⟨N, hN⟩ : ∃ N, ByteArray.mk (nameZ ms).toArray = N := ⟨_, rfl⟩
  rw [hN] at NM
  have NM := Lib.hid NM
  have HNS := Lib.hid (show N.size ≤ 84 by rw [← hN, mk_size]; exact hNl)
  have UPU := Lib.hid (hu.up bu1 bu2 bu3)
  have HUC := Lib.hid hu.code
  have AW := Lib.hid (fun w => awake21 w)
  obtain ⟨K, hK⟩ : ∃ K, kn % 10 = K := ⟨_, rfl⟩
  rw [hK] at CA
  obtain ⟨J, hJ⟩ : ∃ J, hw % 3 = J := ⟨_, rfl⟩
  obtain ⟨G, hG⟩ : ∃ G, hw % 4 = G := ⟨_, rfl⟩
  have hJt : (hw : Int).tmod 3 = (J : Int) := by rw [Int.tmod_eq_emod_of_nonneg (by omega)]; omega
  have hGt : (hw : Int).tmod 4 = (G : Int) := by rw [Int.tmod_eq_emod_of_nonneg (by omega)]; omega
  have hJ3 : J < 3 := by omega
  have HKK := Lib.hid (show K = 7 by rw [← hK]; simpa using hKx)
  clear hKx hkd hhow hV hzw hz hl hc hD hq hu bq1 bq2 bq3 bu1 bu2 bu3 bqn bun hk' hh' hK hJ hG hM hml hmw hmc hmz' hNl hN
  obtain ⟨id, reply, op, auth, trunc, want, avail, cd, qn, qt, A1, n1, c1, r1, A2, n2, c2, r2, A3, n3, c3, r3, z⟩ := q
  unfold MsgT.v at *
  obtain ⟨uid, ureply, uop, uauth, utrunc, uwant, uavail, ucd, uqn, uqt, U1, un1, uc1, s1, U2, un2, uc2, s2, U3, un3, uc3, s3, uz⟩ := u
  dsimp only at *
  have hQ := (((Cs.new w #[.int .u16 id, .bool reply, .int .i64 op, .bool auth, .bool trunc, .bool want, .bool avail, .int .i64 cd, .string qn, .int .u16 qt, .slice A1 n1 c1, .slice A2 n2 c2, .slice A3 n3 c3, .int .i64 z] 31 [.int .u16 id, .bool reply, .int .i64 op, .bool auth, .bool trunc, .bool want, .bool avail, .int .i64 cd, .string qn, .int .u16 qt, .slice A1 n1 c1, .slice A2 n2 c2, .slice A3 n3 c3, .int .i64 z]).alloc (.cells #[.int .u16 uid, .bool ureply, .int .i64 uop, .bool uauth, .bool utrunc, .bool uwant, .bool uavail, .int .i64 ucd, .string uqn, .int .u16 uqt, .slice U1 un1 uc1, .slice U2 un2 uc2, .slice U3 un3 uc3, .int .i64 uz] 31)).alloc (.cells #[.int .u8 (kn : Nat), .int .u8 (hw : Nat), .slice NA nn nc, .slice RA rn rc] 51))
  have hU := (((Cs.new (w.alloc (.cells #[.int .u16 id, .bool reply, .int .i64 op, .bool auth, .bool trunc, .bool want, .bool avail, .int .i64 cd, .string qn, .int .u16 qt, .slice A1 n1 c1, .slice A2 n2 c2, .slice A3 n3 c3, .int .i64 z] 31)) #[.int .u16 uid, .bool ureply, .int .i64 uop, .bool uauth, .bool utrunc, .bool uwant, .bool uavail, .int .i64 ucd, .string uqn, .int .u16 uqt, .slice U1 un1 uc1, .slice U2 un2 uc2, .slice U3 un3 uc3, .int .i64 uz] 31 [.int .u16 uid, .bool ureply, .int .i64 uop, .bool uauth, .bool utrunc, .bool uwant, .bool uavail, .int .i64 ucd, .string uqn, .int .u16 uqt, .slice U1 un1 uc1, .slice U2 un2 uc2, .slice U3 un3 uc3, .int .i64 uz]).at_ (w.heap.size + 1) (by simp)).alloc (.cells #[.int .u8 (kn : Nat), .int .u8 (hw : Nat), .slice NA nn nc, .slice RA rn rc] 51))
  have hC := (Cs.new ((w.alloc (.cells #[.int .u16 id, .bool reply, .int .i64 op, .bool auth, .bool trunc, .bool want, .bool avail, .int .i64 cd, .string qn, .int .u16 qt, .slice A1 n1 c1, .slice A2 n2 c2, .slice A3 n3 c3, .int .i64 z] 31)).alloc (.cells #[.int .u16 uid, .bool ureply, .int .i64 uop, .bool uauth, .bool utrunc, .bool uwant, .bool uavail, .int .i64 ucd, .string uqn, .int .u16 uqt, .slice U1 un1 uc1, .slice U2 un2 uc2, .slice U3 un3 uc3, .int .i64 uz] 31)) #[.int .u8 (kn : Nat), .int .u8 (hw : Nat), .slice NA nn nc, .slice RA rn rc] 51 [.int .u8 (kn : Nat), .int .u8 (hw : Nat), .slice NA nn nc, .slice RA rn rc]).at_ (w.heap.size + 1 + 1) (by simp)
  have hb0 := (((Below.refl w.heap.size w).alloc (Nat.le_refl _) (.cells #[.int .u16 id, .bool reply, .int .i64 op, .bool auth, .bool trunc, .bool want, .bool avail, .int .i64 cd, .string qn, .int .u16 qt, .slice A1 n1 c1, .slice A2 n2 c2, .slice A3 n3 c3, .int .i64 z] 31)).alloc (by simp) (.cells #[.int .u16 uid, .bool ureply, .int .i64 uop, .bool uauth, .bool utrunc, .bool uwant, .bool uavail, .int .i64 ucd, .string uqn, .int .u16 uqt, .slice U1 un1 uc1, .slice U2 un2 uc2, .slice U3 un3 uc3, .int .i64 uz] 31)).alloc (by simp; omega) (.cells #[.int .u8 (kn : Nat), .int .u8 (hw : Nat), .slice NA nn nc, .slice RA rn rc] 51)
  go_enter Try.func5, Try.ntmps5
  go_wp2_with fail
  refine (AW.out _).mono ?_
  rintro e w1 ⟨rfl, hb1'⟩
  have hb1 := below_trans hb0 hb0.size hb1'
  have hlt0 := (hQ.below hb1').lt
  have hQ1 := hQ.below hb1'
  have hU1 := hU.below hb1'
  have hC1 := hC.below hb1'
  have c0 := hC1.get 0 _
  have c1 := hC1.get 1 _
  have c2 := hC1.get 2 _
  have c3 := hC1.get 3 _
  clear hQ hU hC hb0 hb1' AW
  go_wp2_with fail
  refine (CA.out _ hb1).mono ?_
  rintro e w2 ⟨s, b, X, xn, xc, rs, rfl, ha, hoX, hb2'⟩
  have hb2 := below_trans hb1 hb1.size hb2'
  have hb2a := hb2.alloc hb2.size (.cells #[.int .i64 ((K : Nat) : Int), .string s, .bool b, .slice X xn xc] 54)
  have hQ2 := (hQ1.below hb2').alloc (.cells #[.int .i64 ((K : Nat) : Int), .string s, .bool b, .slice X xn xc] 54)
  have hU2 := (hU1.below hb2').alloc (.cells #[.int .i64 ((K : Nat) : Int), .string s, .bool b, .slice X xn xc] 54)
  have hC2 := (hC1.below hb2').alloc (.cells #[.int .i64 ((K : Nat) : Int), .string s, .bool b, .slice X xn xc] 54)
  have hA2 := Cs.new w2 #[.int .i64 ((K : Nat) : Int), .string s, .bool b, .slice X xn xc] 54 [.int .i64 ((K : Nat) : Int), .string s, .bool b, .slice X xn xc]
  have ha2 := ha.below ((Below.refl w2.heap.size w2).alloc (Nat.le_refl _) (.cells #[.int .i64 ((K : Nat) : Int), .string s, .bool b, .slice X xn xc] 54))
  have hlt2 := (hC1.below hb2').lt
  clear c0 c1 c2 c3 hQ1 hU1 hC1 hb2' hb2 hb1 CA ha
  go_upto_region 4 with fail
  generalize hWA : w2.alloc (.cells #[.int .i64 ((K : Nat) : Int), .string s, .bool b, .slice X xn xc] 54) = WA at *
  generalize hAB : w2.heap.size = AB at *
  clear hWA hAB
  go_wp2_with fail
  refine (NM.out _ hb2a).mono ?_
  rintro e w3 ⟨rfl, hb3'⟩
  have hb3 := below_trans hb2a hb2a.size hb3'
  have hQ3 := hQ2.below hb3'
  have q8 := hQ3.get 8 _
  have f8 := hQ3.froz 8 (by simp)
  have hQ3a := hQ3.set' 8 (.string N) (by simp)
  simp only [List.set_cons_succ, List.set_cons_zero] at hQ3a
  have hU3a := (hU2.below hb3').other w.heap.size 8 (.string N) (by omega)
  have hC3a := (hC2.below hb3').other w.heap.size 8 (.string N) (by omega)
  have hA3a := (hA2.below hb3').other w.heap.size 8 (.string N) (by omega)
  have hb3a := hb3.setCell (p := ⟨w.heap.size, 8, none⟩) (by simp) (.string N)
  have ha3 := (ha2.below hb3').otherC w.heap.size 8 (.string N) (fun b off e => by have := hoX b off e; have := hlt0; omega)
  clear hQ2 hU2 hC2 hA2 hb2a hb3 NM ha2
  go_upto_region 5 with fail
  generalize hW4 : w3.setCell ⟨w.heap.size, 8, none⟩ (.string N) = W4 at *
  have c1 := hC3a.get 1 _
  have HoX := Lib.hid hoX
  clear hW4 hQ3 q8 f8 hb3' hoX
  obtain ⟨t4, ht4⟩ : ∃ t, decide (0 < G) = t := ⟨_, rfl⟩
  go_cut [30] (fun v wc => v = .bool t4 ∧ wc = W4)
  case first =>
    go_wp2_with fail
    go_meet
    exact ⟨rfl, rfl⟩
  case rest =>
  obtain ⟨rfl, rfl⟩ := hcut
  clear c1 ht4
  rename_i Kx hKx Ky hKy
  refine hKy _ _ ?_
  go_cut [30] (fun v wc => v = .bool t4 ∧ ∃ T : Int, Hid (Cs wc w.heap.size [.int .u16 id, .bool reply, .int .i64 op, .bool auth, .bool trunc, .bool want, .bool avail, .int .i64 cd, .string N, .int .u16 T, .slice A1 n1 c1, .slice A2 n2 c2, .slice A3 n3 c3, .int .i64 z]) ∧ Hid (Cs wc (w.heap.size + 1) [.int .u16 uid, .bool ureply, .int .i64 uop, .bool uauth, .bool utrunc, .bool uwant, .bool uavail, .int .i64 ucd, .string uqn, .int .u16 uqt, .slice U1 un1 uc1, .slice U2 un2 uc2, .slice U3 un3 uc3, .int .i64 uz]) ∧ Hid (Cs wc AB [.int .i64 ((K : Nat) : Int), .string s, .bool b, .slice X xn xc]) ∧ Hid (ActGood wc K s b X xn xc rs) ∧ Hid (Below w.heap.size w wc))
  case first =>
    cases t4 with
    | false =>
      go_wp2_with fail
      go_meet
      exact ⟨rfl, qt, Lib.hid hQ3a, Lib.hid hU3a, Lib.hid hA3a, Lib.hid ha3, Lib.hid hb3a⟩
    | true =>
      have hJc : (J = 0 ∨ J = 1) ∨ J = 2 := by omega
      have hcw := (hC3a.alloc (.cells #[.int .u16 1, .int .u16 16, .int .u16 28] 26))
      rcases hJc with (h | h) | h
      · have hJ0 : (hw : Int).tmod 3 = 0 := by rw [hJt, h]; rfl
        clear hJt h
        have c1 := hcw.get 1 _
        have hQa := hQ3a.alloc (.cells #[.int .u16 1, .int .u16 16, .int .u16 28] 26)
        have q9 := hQa.get 9 _
        have f9 := hQa.froz 9 (by simp)
        have hQl := hQa.lt
        have hQb := hQa.set' 9 (.int .u16 1) (by simp)
        simp only [List.set_cons_succ, List.set_cons_zero] at hQb
        have HQb := Lib.hid hQb
        clear hQb
        go_wp2_with fail
        go_meet
        exact ⟨rfl, 1, HQb, Lib.hid ((hU3a.alloc _).other _ _ _ (by omega)), Lib.hid ((hA3a.alloc _).other _ _ _ (by omega)), Lib.hid ((ha3.below ((Below.refl wc.heap.size wc).alloc (Nat.le_refl _) _)).otherC _ _ _ (fun b off e => by have := HoX.out b off e; have := hlt0; omega)), Lib.hid ((hb3a.alloc hb3a.size _).setCell (by simp) _)⟩
      · have hJ0 : (hw : Int).tmod 3 = 1 := by rw [hJt, h]; rfl
        clear hJt h
        have c1 := hcw.get 1 _
        have hQa := hQ3a.alloc (.cells #[.int .u16 1, .int .u16 16, .int .u16 28] 26)
        have q9 := hQa.get 9 _
        have f9 := hQa.froz 9 (by simp)
        have hQl := hQa.lt
        have hQb := hQa.set' 9 (.int .u16 16) (by simp)
        simp only [List.set_cons_succ, List.set_cons_zero] at hQb
        have HQb := Lib.hid hQb
        clear hQb
        go_wp2_with fail
        go_meet
        exact ⟨rfl, 16, HQb, Lib.hid ((hU3a.alloc _).other _ _ _ (by omega)), Lib.hid ((hA3a.alloc _).other _ _ _ (by omega)), Lib.hid ((ha3.below ((Below.refl wc.heap.size wc).alloc (Nat.le_refl _) _)).otherC _ _ _ (fun b off e => by have := HoX.out b off e; have := hlt0; omega)), Lib.hid ((hb3a.alloc hb3a.size _).setCell (by simp) _)⟩
      · have hJ0 : (hw : Int).tmod 3 = 2 := by rw [hJt, h]; rfl
        clear hJt h
        have c1 := hcw.get 1 _
        have hQa := hQ3a.alloc (.cells #[.int .u16 1, .int .u16 16, .int .u16 28] 26)
        have q9 := hQa.get 9 _
        have f9 := hQa.froz 9 (by simp)
        have hQl := hQa.lt
        have hQb := hQa.set' 9 (.int .u16 28) (by simp)
        simp only [List.set_cons_succ, List.set_cons_zero] at hQb
        have HQb := Lib.hid hQb
        clear hQb
        go_wp2_with fail
        go_meet
        exact ⟨rfl, 28, HQb, Lib.hid ((hU3a.alloc _).other _ _ _ (by omega)), Lib.hid ((hA3a.alloc _).other _ _ _ (by omega)), Lib.hid ((ha3.below ((Below.refl wc.heap.size wc).alloc (Nat.le_refl _) _)).otherC _ _ _ (fun b off e => by have := HoX.out b off e; have := hlt0; omega)), Lib.hid ((hb3a.alloc hb3a.size _).setCell (by simp) _)⟩
  case rest =>
  obtain ⟨rfl, T, HQ4, HU4, HA4, HG4, HB4⟩ := hcut
  clear hQ3a hU3a hC3a hA3a ha3 hb3a hJt hGt
  refine hKx _ _ ?_
  have TU1 := of_any ⟨id, reply, op, auth, trunc, want, avail, cd, N, T, A1, n1, c1, r1, A2, n2, c2, r2, A3, n3, c3, r3, z⟩ ⟨uid, ureply, uop, uauth, utrunc, uwant, uavail, ucd, uqn, uqt, U1, un1, uc1, s1, U2, un2, uc2, s2, U3, un3, uc3, s3, uz⟩ K s b X xn xc rs tcp wc (UPU.out.below HB4.out) HG4.out (by have := HNS.out; show N.size ≤ _; omega)
  have LB := fun w => lbase_any ⟨id, reply, op, auth, trunc, want, avail, cd, N, T, A1, n1, c1, r1, A2, n2, c2, r2, A3, n3, c3, r3, z⟩ 0 w (by decide)
  unfold TellsB at TU1
  unfold MsgT.base at LB
  unfold MsgT.v at *
  dsimp only at TU1 LB
  rw [show (0 : Int) % 16 = 0 by decide] at LB
  obtain ⟨t3, ht3⟩ : ∃ t, ((K : Int) == 3) = t := ⟨_, rfl⟩
  rw [ht3] at TU1
  generalize hmz : minZ z = mz at *
  have TU1 := Lib.hid TU1
  have LB := Lib.hid LB
  have HT3 := Lib.hid ht3
  have HMZ := Lib.hid hmz
  clear ht3 hmz
  have hQ4 := HQ4.out
  have hU4 := HU4.out
  have hA4 := HA4.out
  have hQl4 := hQ4.lt
  have hUl4 := hU4.lt
  have hAl4 := hA4.lt
  have q0 := hQ4.get 0 _
  have q1 := hQ4.get 1 _
  have q2 := hQ4.get 2 _
  have q3 := hQ4.get 3 _
  have q4 := hQ4.get 4 _
  have q5 := hQ4.get 5 _
  have q6 := hQ4.get 6 _
  have q7 := hQ4.get 7 _
  have q8 := hQ4.get 8 _
  have q9 := hQ4.get 9 _
  have q10 := hQ4.get 10 _
  have q11 := hQ4.get 11 _
  have q12 := hQ4.get 12 _
  have q13 := hQ4.get 13 _
  have u0 := hU4.get 0 _
  have u1 := hU4.get 1 _
  have u2 := hU4.get 2 _
  have u3 := hU4.get 3 _
  have u4 := hU4.get 4 _
  have u5 := hU4.get 5 _
  have u6 := hU4.get 6 _
  have u7 := hU4.get 7 _
  have u8 := hU4.get 8 _
  have u9 := hU4.get 9 _
  have u10 := hU4.get 10 _
  have u11 := hU4.get 11 _
  have u12 := hU4.get 12 _
  have u13 := hU4.get 13 _
  have a0 := hA4.get 0 _
  have a1 := hA4.get 1 _
  have a2 := hA4.get 2 _
  have a3 := hA4.get 3 _
  clear hQ4 hU4 hA4
  go_wp2_with fail
  refine (TU1.out).mono ?_
  rintro e w7 ⟨⟨xid, xreply, xop, xauth, xtrunc, xwant, xavail, xcd, xqn, xqt, X1, xn1, xc1, x1, X2, xn2, xc2, x2, X3, xn3, xc3, x3, xz⟩, rfl, hs7, hh7, -, hb7'⟩
  dsimp only
  have hb7 := below_trans HB4.out HB4.out.size hb7'
  have hb7a := hb7.alloc hb7.size (.cells #[.int .u16 xid, .bool xreply, .int .i64 xop, .bool xauth, .bool xtrunc, .bool xwant, .bool xavail, .int .i64 xcd, .string xqn, .int .u16 xqt, .slice X1 xn1 xc1, .slice X2 xn2 xc2, .slice X3 xn3 xc3, .int .i64 xz] 31)
  have hQ7 := (HQ4.out.below hb7').alloc (.cells #[.int .u16 xid, .bool xreply, .int .i64 xop, .bool xauth, .bool xtrunc, .bool xwant, .bool xavail, .int .i64 xcd, .string xqn, .int .u16 xqt, .slice X1 xn1 xc1, .slice X2 xn2 xc2, .slice X3 xn3 xc3, .int .i64 xz] 31)
  have hU7 := (HU4.out.below hb7').alloc (.cells #[.int .u16 xid, .bool xreply, .int .i64 xop, .bool xauth, .bool xtrunc, .bool xwant, .bool xavail, .int .i64 xcd, .string xqn, .int .u16 xqt, .slice X1 xn1 xc1, .slice X2 xn2 xc2, .slice X3 xn3 xc3, .int .i64 xz] 31)
  have hA7 := (HA4.out.below hb7').alloc (.cells #[.int .u16 xid, .bool xreply, .int .i64 xop, .bool xauth, .bool xtrunc, .bool xwant, .bool xavail, .int .i64 xcd, .string xqn, .int .u16 xqt, .slice X1 xn1 xc1, .slice X2 xn2 xc2, .slice X3 xn3 xc3, .int .i64 xz] 31)
  have hX7 := Cs.new w7 #[.int .u16 xid, .bool xreply, .int .i64 xop, .bool xauth, .bool xtrunc, .bool xwant, .bool xavail, .int .i64 xcd, .string xqn, .int .u16 xqt, .slice X1 xn1 xc1, .slice X2 xn2 xc2, .slice X3 xn3 xc3, .int .i64 xz] 31 [.int .u16 xid, .bool xreply, .int .i64 xop, .bool xauth, .bool xtrunc, .bool xwant, .bool xavail, .int .i64 xcd, .string xqn, .int .u16 xqt, .slice X1 xn1 xc1, .slice X2 xn2 xc2, .slice X3 xn3 xc3, .int .i64 xz]
  have hg7 := (HG4.out.below hb7').below ((Below.refl w7.heap.size w7).alloc (Nat.le_refl _) (.cells #[.int .u16 xid, .bool xreply, .int .i64 xop, .bool xauth, .bool xtrunc, .bool xwant, .bool xavail, .int .i64 xcd, .string xqn, .int .u16 xqt, .slice X1 xn1 xc1, .slice X2 xn2 xc2, .slice X3 xn3 xc3, .int .i64 xz] 31))
  have hh7a := hh7.below ((Below.refl w7.heap.size w7).alloc (Nat.le_refl _) (.cells #[.int .u16 xid, .bool xreply, .int .i64 xop, .bool xauth, .bool xtrunc, .bool xwant, .bool xavail, .int .i64 xcd, .string xqn, .int .u16 xqt, .slice X1 xn1 xc1, .slice X2 xn2 xc2, .slice X3 xn3 xc3, .int .i64 xz] 31))
  have hXq := (HQ4.out.below hb7').lt
  have hXu := (HU4.out.below hb7').lt
  have hXa := (HA4.out.below hb7').lt
  have HS := Lib.hid hs7
  clear q0 u0 q1 u1 q2 u2 q3 u3 q4 u4 q5 u5 q6 u6 q7 u7 q8 u8 q9 u9 q10 u10 q11 u11 q12 u12 q13 u13 a0 a1 a2 a3 hs7 hh7 TU1 hb7 hb7' HQ4 HU4 HA4 HG4 HB4
  go_upto_region 8 with fail
  have hXl := hX7.lt
  generalize hWX : w7.alloc (.cells #[.int .u16 xid, .bool xreply, .int .i64 xop, .bool xauth, .bool xtrunc, .bool xwant, .bool xavail, .int .i64 xcd, .string xqn, .int .u16 xqt, .slice X1 xn1 xc1, .slice X2 xn2 xc2, .slice X3 xn3 xc3, .int .i64 xz] 31) = W7 at *
  generalize hXB : w7.heap.size = XB at *
  clear hWX hXB
  have q0 := hQ7.get 0 _
  have q1 := hQ7.get 1 _
  have q2 := hQ7.get 2 _
  have q3 := hQ7.get 3 _
  have q4 := hQ7.get 4 _
  have q5 := hQ7.get 5 _
  have q6 := hQ7.get 6 _
  have q7 := hQ7.get 7 _
  have q8 := hQ7.get 8 _
  have q9 := hQ7.get 9 _
  have q10 := hQ7.get 10 _
  have q11 := hQ7.get 11 _
  have q12 := hQ7.get 12 _
  have q13 := hQ7.get 13 _
  have HB7 := Lib.hid hb7a
  have HG7 := Lib.hid hg7
  have HH7 := Lib.hid hh7a
  clear hb7a hg7 hh7a
  go_wp2_with fail
  refine (LB.out _).mono ?_
  rintro e w8 ⟨rfl, hb8'⟩
  have hb8 := below_trans HB7.out HB7.out.size hb8'
  have hQ8 := (hQ7.below hb8').alloc (.cells #[.int .u16 id, .bool true, .int .i64 op, .bool false, .bool false, .bool want, .bool true, .int .i64 0, .string N, .int .u16 T, .slice none 0 0, .slice none 0 0, .slice none 0 0, .int .i64 mz] 31)
  have hU8 := (hU7.below hb8').alloc (.cells #[.int .u16 id, .bool true, .int .i64 op, .bool false, .bool false, .bool want, .bool true, .int .i64 0, .string N, .int .u16 T, .slice none 0 0, .slice none 0 0, .slice none 0 0, .int .i64 mz] 31)
  have hA8 := (hA7.below hb8').alloc (.cells #[.int .u16 id, .bool true, .int .i64 op, .bool false, .bool false, .bool want, .bool true, .int .i64 0, .string N, .int .u16 T, .slice none 0 0, .slice none 0 0, .slice none 0 0, .int .i64 mz] 31)
  have hX8 := (hX7.below hb8').alloc (.cells #[.int .u16 id, .bool true, .int .i64 op, .bool false, .bool false, .bool want, .bool true, .int .i64 0, .string N, .int .u16 T, .slice none 0 0, .slice none 0 0, .slice none 0 0, .int .i64 mz] 31)
  have hT8 := Cs.new w8 #[.int .u16 id, .bool true, .int .i64 op, .bool false, .bool false, .bool want, .bool true, .int .i64 0, .string N, .int .u16 T, .slice none 0 0, .slice none 0 0, .slice none 0 0, .int .i64 mz] 31 [.int .u16 id, .bool true, .int .i64 op, .bool false, .bool false, .bool want, .bool true, .int .i64 0, .string N, .int .u16 T, .slice none 0 0, .slice none 0 0, .slice none 0 0, .int .i64 mz]
  have hTx := (hX7.below hb8').lt
  have h08 := HH7.out.below hb8'
  have hh8 := h08.below ((Below.refl w8.heap.size w8).alloc (Nat.le_refl _) (.cells #[.int .u16 id, .bool true, .int .i64 op, .bool false, .bool false, .bool want, .bool true, .int .i64 0, .string N, .int .u16 T, .slice none 0 0, .slice none 0 0, .slice none 0 0, .int .i64 mz] 31))
  have HG7o := HG7.out.below hb8'
  have hg8 := (HG7.out.below hb8').below ((Below.refl w8.heap.size w8).alloc (Nat.le_refl _) (.cells #[.int .u16 id, .bool true, .int .i64 op, .bool false, .bool false, .bool want, .bool true, .int .i64 0, .string N, .int .u16 T, .slice none 0 0, .slice none 0 0, .slice none 0 0, .int .i64 mz] 31))
  have hb8a := hb8.alloc hb8.size (.cells #[.int .u16 id, .bool true, .int .i64 op, .bool false, .bool false, .bool want, .bool true, .int .i64 0, .string N, .int .u16 T, .slice none 0 0, .slice none 0 0, .slice none 0 0, .int .i64 mz] 31)
  have hupu := UPU.out.below hb8a
  have hg08 := HG7o
  have hwT := hb8.size
  have hW8s : (w8.alloc (.cells #[.int .u16 id, .bool true, .int .i64 op, .bool false, .bool false, .bool want, .bool true, .int .i64 0, .string N, .int .u16 T, .slice none 0 0, .slice none 0 0, .slice none 0 0, .int .i64 mz] 31)).heap.size = w8.heap.size + 1 := by simp
  clear q0 q1 q2 q3 q4 q5 q6 q7 q8 q9 q10 q11 q12 q13 hQ7 hU7 hA7 hX7 HB7 HG7 HH7 hb8 hb8' LB
  go_upto_region 9 with fail
  have hTl := hT8.lt
  generalize hWT : w8.alloc (.cells #[.int .u16 id, .bool true, .int .i64 op, .bool false, .bool false, .bool want, .bool true, .int .i64 0, .string N, .int .u16 T, .slice none 0 0, .slice none 0 0, .slice none 0 0, .int .i64 mz] 31) = W8 at *
  generalize hTB : w8.heap.size = TB at *
  have hz8 := Nat.le_of_eq hTB
  clear hWT
  have a0 := hA8.get 0 _
  have HQ := Lib.hid hQ8
  have HU := Lib.hid hU8
  have HA := Lib.hid hA8
  have HX := Lib.hid hX8
  have HT := Lib.hid hT8
  have HH0 := Lib.hid h08
  have HH := Lib.hid hh8
  have HG := Lib.hid hg8
  have HB := Lib.hid hb8a
  have HZ := Lib.hid hz8
  have HUP := Lib.hid hupu
  have HUH := Lib.hid UPU.out.has
  have HUL := Lib.hid hwT
  have HW8 := Lib.hid hW8s
  have HG0 := Lib.hid hg08
  clear hQ8 hU8 hA8 hX8 hT8 h08 hh8 hg8 hb8a hz8 hTB hupu
  go_upto_block 0 with fail
  go_cut [] (fun wc => t3 = false ∧ ∃ wt : MsgT, Hid (Cs wc XB [.int .u16 xid, .bool xreply, .int .i64 xop, .bool xauth, .bool xtrunc, .bool xwant, .bool xavail, .int .i64 xcd, .string xqn, .int .u16 xqt, .slice X1 xn1 xc1, .slice X2 xn2 xc2, .slice X3 xn3 xc3, .int .i64 xz]) ∧ Hid (Cs wc TB wt.cells) ∧ Hid (MsgHas wc ⟨xid, xreply, xop, xauth, xtrunc, xwant, xavail, xcd, xqn, xqt, X1, xn1, xc1, x1, X2, xn2, xc2, x2, X3, xn3, xc3, x3, xz⟩) ∧ Hid (MsgHas wc wt) ∧ Hid (SameT ⟨xid, xreply, xop, xauth, xtrunc, xwant, xavail, xcd, xqn, xqt, X1, xn1, xc1, x1, X2, xn2, xc2, x2, X3, xn3, xc3, x3, xz⟩ wt) ∧ Hid (Below w.heap.size w wc))
  case first =>
    have hk := HKK.out
    have e3 : ((K : Int) == 3) = false := by rw [beq_eq_false_iff_ne]; omega
    have e4 : ((K : Int) == 4) = false := by rw [beq_eq_false_iff_ne]; omega
    have e5 : ((K : Int) == 5) = false := by rw [beq_eq_false_iff_ne]; omega
    have e6 : ((K : Int) == 6) = false := by rw [beq_eq_false_iff_ne]; omega
    have e7 : ((K : Int) == 7) = true := by rw [beq_iff_eq]; omega
    have ht3 : t3 = false := by rw [← HT3.out]; exact e3
    subst ht3
    have hK7 : K = 7 := hk
    obtain ⟨rfl, rfl, rfl, rfl⟩ := HG.out.other (by omega)
    have GO := fun w => goal_any (K : Int) s b N w (by have := HG.out.size; omega) (by have := HNS.out; omega)
    unfold act3 at GO
    have hA := HA.out
    have a1 := hA.get 1 _
    have a2 := hA.get 2 _
    have a3 := hA.get 3 _
    have q8 := HQ.out.get 8 _
    cases hgo : goalOf (K : Int) s b N with
    | none =>
      rw [hgo] at GO
      have hOF : ofT ⟨id, reply, op, auth, trunc, want, avail, cd, N, T, A1, n1, c1, r1, A2, n2, c2, r2, A3, n3, c3, r3, z⟩ ⟨uid, ureply, uop, uauth, utrunc, uwant, uavail, ucd, uqn, uqt, U1, un1, uc1, s1, U2, un2, uc2, s2, U3, un3, uc3, s3, uz⟩ (K : Int) s b [] tcp = MsgT.baseT ⟨id, reply, op, auth, trunc, want, avail, cd, N, T, A1, n1, c1, r1, A2, n2, c2, r2, A3, n3, c3, r3, z⟩ 2 false [] := by
        subst hK7
        cases tcp <;> (show (match goalOf 7 s b N with | none => MsgT.baseT ⟨id, reply, op, auth, trunc, want, avail, cd, N, T, A1, n1, c1, r1, A2, n2, c2, r2, A3, n3, c3, r3, z⟩ 2 false [] | some g => MsgT.baseT ⟨id, reply, op, auth, trunc, want, avail, cd, N, T, A1, n1, c1, r1, A2, n2, c2, r2, A3, n3, c3, r3, z⟩ 0 false [(N, 5, 60, g)]) = _; rw [show goalOf 7 s b N = none from hgo])
      have GO := Lib.hid GO
      clear hgo hA hk hK7
      go_wp2_with fail
      refine (GO.out _).mono ?_
      rintro e w9 ⟨rfl, hb9'⟩
      have hT := HT.out.below hb9'
      have t7 := hT.get 7 _
      have f7 := hT.froz 7 (by simp)
      have hT2 := hT.set' 7 (.int .i64 2) (by simp)
      simp only [List.set_cons_succ, List.set_cons_zero] at hT2
      have HT2 := Lib.hid hT2
      have HX9 := Lib.hid (HX.out.below hb9')
      have HH9 := Lib.hid (HH.out.below hb9')
      have HB9 := Lib.hid (below_trans HB.out HB.out.size hb9')
      simp only [strOf, Option.isSome]
      clear hT hT2 hb9' q8 a0 a1 a2 a3
      go_wp2_with fail
      go_meet
      exact ⟨trivial, ⟨id, true, op, false, false, want, true, 2, N, T, none, 0, 0, [], none, 0, 0, [], none, 0, 0, [], mz⟩, Lib.hid (HX9.out.other _ _ _ (by omega)), HT2, Lib.hid (HH9.out.otherTop HH0.out _ _ _ HZ.out), Lib.hid ⟨Recs.nil _ _, Recs.nil _ _, Recs.nil _ _, rfl, rfl, rfl, Nat.zero_le _, Nat.zero_le _, Nat.zero_le _⟩, Lib.hid (by have q := HS.out; rw [hOF] at q; exact q.trans ⟨rfl, rfl, rfl, rfl, rfl, rfl, rfl, rfl, rfl, rfl, HMZ.out, rfl, rfl, rfl⟩), Lib.hid (HB9.out.setCell (by simp; omega) _)⟩
    | some g =>
      rw [hgo] at GO
      have hOF : ofT ⟨id, reply, op, auth, trunc, want, avail, cd, N, T, A1, n1, c1, r1, A2, n2, c2, r2, A3, n3, c3, r3, z⟩ ⟨uid, ureply, uop, uauth, utrunc, uwant, uavail, ucd, uqn, uqt, U1, un1, uc1, s1, U2, un2, uc2, s2, U3, un3, uc3, s3, uz⟩ (K : Int) s b [] tcp = MsgT.baseT ⟨id, reply, op, auth, trunc, want, avail, cd, N, T, A1, n1, c1, r1, A2, n2, c2, r2, A3, n3, c3, r3, z⟩ 0 false [(N, 5, 60, g)] := by
        subst hK7
        cases tcp <;> (show (match goalOf 7 s b N with | none => MsgT.baseT ⟨id, reply, op, auth, trunc, want, avail, cd, N, T, A1, n1, c1, r1, A2, n2, c2, r2, A3, n3, c3, r3, z⟩ 2 false [] | some g => MsgT.baseT ⟨id, reply, op, auth, trunc, want, avail, cd, N, T, A1, n1, c1, r1, A2, n2, c2, r2, A3, n3, c3, r3, z⟩ 0 false [(N, 5, 60, g)]) = _; rw [show goalOf 7 s b N = some g from hgo])
      have GO := Lib.hid GO
      clear hgo hA hk hK7
      go_wp2_with fail
      refine (GO.out _).mono ?_
      rintro e w9 ⟨rfl, hb9'⟩
      have q8 := (HQ.out.below hb9').get 8 _
      have hTb := (HT.out.below hb9').lt
      have hXb := (HX.out.below hb9').lt
      have hT := HT.out.below hb9'
      have t10 := (hT.alloc (.cells #[.string N, .int .u16 5, .int .u32 60, .string g] 44)).get 10 _
      have f10 := (hT.alloc (.cells #[.string N, .int .u16 5, .int .u32 60, .string g] 44)).froz 10 (by simp)
      have hT2 := hT.set' 10 (.slice (some ⟨w9.heap.size, 0, none⟩) 1 1) (by simp)
      simp only [List.set_cons_succ, List.set_cons_zero] at hT2
      have HT2 := Lib.hid (hT2.alloc (.cells #[.string N, .int .u16 5, .int .u32 60, .string g] 44))
      have hG := Lib.hid ((Cs.new (w9.setCell ⟨TB, 10, none⟩ (.slice (some ⟨w9.heap.size, 0, none⟩) 1 1)) #[.string N, .int .u16 5, .int .u32 60, .string g] 44 [.string N, .int .u16 5, .int .u32 60, .string g]).at_ w9.heap.size (by simp))
      have HX9 := Lib.hid (((HX.out.below hb9').other TB 10 (.slice (some ⟨w9.heap.size, 0, none⟩) 1 1) (by omega)).alloc (.cells #[.string N, .int .u16 5, .int .u32 60, .string g] 44))
      have hh9 := (HH.out.below hb9').otherTop HH0.out TB 10 (.slice (some ⟨w9.heap.size, 0, none⟩) 1 1) HZ.out
      have HH9 := Lib.hid (hh9.below ((Below.refl _ _).alloc (Nat.le_refl _) (.cells #[.string N, .int .u16 5, .int .u32 60, .string g] 44)))
      have hbb := (below_trans HB.out HB.out.size hb9').setCell (p := ⟨TB, 10, none⟩) (by simp; omega) (.slice (some ⟨w9.heap.size, 0, none⟩) 1 1)
      have HB9 := Lib.hid (hbb.alloc hbb.size (.cells #[.string N, .int .u16 5, .int .u32 60, .string g] 44))
      simp only [strOf, Option.isSome]
      clear hT hT2 hb9' a0 a1 a2 a3 hbb hh9
      go_wp2_with fail
      go_meet
      exact ⟨trivial, ⟨id, true, op, false, false, want, true, 0, N, T, some ⟨w9.heap.size, 0, none⟩, 1, 1, [(N, 5, 60, g)], none, 0, 0, [], none, 0, 0, [], mz⟩, HX9, HT2, HH9, Lib.hid ⟨Cs.recs1 (vs := [.string N, .int .u16 5, .int .u32 60, .string g]) hG.out (N, 5, 60, g) rfl, Recs.nil _ _, Recs.nil _ _, rfl, rfl, rfl, by show 1 ≤ maxLen; unfold maxLen; omega, Nat.zero_le _, Nat.zero_le _⟩, Lib.hid (by have q := HS.out; rw [hOF] at q; exact q.trans ⟨rfl, rfl, rfl, rfl, rfl, rfl, rfl, rfl, rfl, rfl, HMZ.out, rfl, rfl, rfl⟩), HB9⟩
  case rest =>
  obtain ⟨rfl, wt, HXz, HTz, HHz, HWz, HSz, HBz⟩ := hcut
  obtain ⟨yid, yreply, yop, yauth, ytrunc, ywant, yavail, ycd, yqn, yqt, Y1, yn1, yc1, y1, Y2, yn2, yc2, y2, Y3, yn3, yc3, y3, yz⟩ := wt
  have SM := same_msgT ⟨xid, xreply, xop, xauth, xtrunc, xwant, xavail, xcd, xqn, xqt, X1, xn1, xc1, x1, X2, xn2, xc2, x2, X3, xn3, xc3, x3, xz⟩ ⟨yid, yreply, yop, yauth, ytrunc, ywant, yavail, ycd, yqn, yqt, Y1, yn1, yc1, y1, Y2, yn2, yc2, y2, Y3, yn3, yc3, y3, yz⟩ _ HHz.out HWz.out HSz.out
  unfold MsgT.v at SM
  dsimp only at SM
  have SM := Lib.hid SM
  have hXz := HXz.out
  have hTz := HTz.out
  unfold MsgT.cells at hTz
  dsimp only at hTz
  have m0 := hXz.get 0 _
  have m1 := hXz.get 1 _
  have m2 := hXz.get 2 _
  have m3 := hXz.get 3 _
  have m4 := hXz.get 4 _
  have m5 := hXz.get 5 _
  have m6 := hXz.get 6 _
  have m7 := hXz.get 7 _
  have m8 := hXz.get 8 _
  have m9 := hXz.get 9 _
  have m10 := hXz.get 10 _
  have m11 := hXz.get 11 _
  have m12 := hXz.get 12 _
  have m13 := hXz.get 13 _
  have k0 := hTz.get 0 _
  have k1 := hTz.get 1 _
  have k2 := hTz.get 2 _
  have k3 := hTz.get 3 _
  have k4 := hTz.get 4 _
  have k5 := hTz.get 5 _
  have k6 := hTz.get 6 _
  have k7 := hTz.get 7 _
  have k8 := hTz.get 8 _
  have k9 := hTz.get 9 _
  have k10 := hTz.get 10 _
  have k11 := hTz.get 11 _
  have k12 := hTz.get 12 _
  have k13 := hTz.get 13 _
  clear hXz hTz a0
  go_wp2_with fail
  refine SM.out.mono ?_
  rintro e wz ⟨rfl, hbz'⟩
  have hbz := below_trans HBz.out HBz.out.size hbz'
  go_wp2_with fail
  go_ret
  exact ⟨rfl, hbz⟩
set_option maxHeartbeats 25600000 in
theorem replyOf_k8 (w : World) (q : MsgT) (hq : MsgOk w q) (bq1 : q.c1 ≤ 3518437208780) (bq2 : q.c2 ≤ 3518437208780) (bq3 : q.c3 ≤ 3518437208780) (bqn : q.qn.size ≤ 140737488351232) (u : MsgT) (hu : MsgOk w u) (bu1 : u.c1 ≤ 3518437208780) (bu2 : u.c2 ≤ 3518437208780) (bu3 : u.c3 ≤ 3518437208780) (bun : u.qn.size ≤ 140737488351232)
    (kd : Int) (hkd : (Lit.int .u8 kd).wf = true) (how : Int) (hhow : (Lit.int .u8 how).wf = true) (NA : Option Addr) (nn nc : Nat) (zs : List Int) (hV : SlView w NA nn nc (zs.map (Value.int .u8))) (hl : zs.length = nn) (hzw : ∀ z ∈ zs, (Lit.int .u8 z).wf = true) (hc : nc ≤ 140737488351232)
    (RA : Option Addr) (rn rc : Nat) (ds : List ActT) (hD : Acts5 w RA rn rc ds) (MA : Option Addr) (mn mc : Nat) (ms : List Int) (hM : SlView w MA mn mc (ms.map (Value.int .u8))) (hml : ms.length = mn) (hmw : ∀ z ∈ ms, (Lit.int .u8 z).wf = true) (hmc : mc ≤ 140737488351232) (tcp : Bool) (hKx : kd.toNat % 10 = 8) :
    Calls Try.prog 5 #[q.v, u.v, .agg #[.int .u8 kd, .int .u8 how, .slice NA nn nc, .slice RA rn rc], .slice MA mn mc, .bool tcp] w fun e w' => e = .returned (.bool true) ∧ Below w.heap.size w w' := by
  have hk' := u8_wf hkd
  have hh' := u8_wf hhow
  obtain ⟨kn, rfl⟩ : ∃ k : Nat, kd = k := ⟨kd.toNat, by omega⟩
  obtain ⟨hw, rfl⟩ : ∃ k : Nat, how = k := ⟨how.toNat, by omega⟩
  have hz : ∀ z ∈ zs, 0 ≤ z ∧ z < 256 := fun z h => u8_wf (hzw z h)
  have hmz' : ∀ z ∈ ms, 0 ≤ z ∧ z < 256 := fun z h => u8_wf (hmw z h)
  have CA := Lib.hid (fun (w' : World) (hx : Below w.heap.size w w') => choice_any kn (by omega) hw (by omega) NA nn nc zs RA rn rc ds w' ((hV.sl.below hx).more hx.size) hz (by have := hV.le; omega) (hD.at_.below hx) hD.most)
  have NM := fun (w' : World) (hx : Below w.heap.size w w') => name_any MA mn mc ms w' ((hM.sl.below hx).more hx.size) hmz' (by have := hM.le; unfold maxLen; omega)
  have hNl := nameZ_len ms hmz'
  unfold sv at NM
  obtain ⟨N, hN⟩ : ∃ N, ByteArray.mk (nameZ ms).toArray = N := ⟨_, rfl⟩
  rw [hN] at NM
  have NM := Lib.hid NM
  have HNS := Lib.hid (show N.size ≤ 84 by rw [← hN, mk_size]; exact hNl)
  have UPU := Lib.hid (hu.up bu1 bu2 bu3)
  have HUC := Lib.hid hu.code
  have AW := Lib.hid (fun w => awake21 w)
  obtain ⟨K, hK⟩ : ∃ K, kn % 10 = K := ⟨_, rfl⟩
  rw [hK] at CA
  obtain ⟨J, hJ⟩ : ∃ J, hw % 3 = J := ⟨_, rfl⟩
  obtain ⟨G, hG⟩ : ∃ G, hw % 4 = G := ⟨_, rfl⟩
  have hJt : (hw : Int).tmod 3 = (J : Int) := by rw [Int.tmod_eq_emod_of_nonneg (by omega)]; omega
  have hGt : (hw : Int).tmod 4 = (G : Int) := by rw [Int.tmod_eq_emod_of_nonneg (by omega)]; omega
  have hJ3 : J < 3 := by omega
  have HKK := Lib.hid (show K = 8 by rw [← hK]; simpa using hKx)
  clear hKx hkd hhow hV hzw hz hl hc hD hq hu bq1 bq2 bq3 bu1 bu2 bu3 bqn bun hk' hh' hK hJ hG hM hml hmw hmc hmz' hNl hN
  obtain ⟨id, reply, op, auth, trunc, want, avail, cd, qn, qt, A1, n1, c1, r1, A2, n2, c2, r2, A3, n3, c3, r3, z⟩ := q
  unfold MsgT.v at *
  obtain ⟨uid, ureply, uop, uauth, utrunc, uwant, uavail, ucd, uqn, uqt, U1, un1, uc1, s1, U2, un2, uc2, s2, U3, un3, uc3, s3, uz⟩ := u
  dsimp only at *
  have hQ := (((Cs.new w #[.int .u16 id, .bool reply, .int .i64 op, .bool auth, .bool trunc, .bool want, .bool avail, .int .i64 cd, .string qn, .int .u16 qt, .slice A1 n1 c1, .slice A2 n2 c2, .slice A3 n3 c3, .int .i64 z] 31 [.int .u16 id, .bool reply, .int .i64 op, .bool auth, .bool trunc, .bool want, .bool avail, .int .i64 cd, .string qn, .int .u16 qt, .slice A1 n1 c1, .slice A2 n2 c2, .slice A3 n3 c3, .int .i64 z]).alloc (.cells #[.int .u16 uid, .bool ureply, .int .i64 uop, .bool uauth, .bool utrunc, .bool uwant, .bool uavail, .int .i64 ucd, .string uqn, .int .u16 uqt, .slice U1 un1 uc1, .slice U2 un2 uc2, .slice U3 un3 uc3, .int .i64 uz] 31)).alloc (.cells #[.int .u8 (kn : Nat), .int .u8 (hw : Nat), .slice NA nn nc, .slice RA rn rc] 51))
  have hU := (((Cs.new (w.alloc (.cells #[.int .u16 id, .bool reply, .int .i64 op, .bool auth, .bool trunc, .bool want, .bool avail, .int .i64 cd, .string qn, .int .u16 qt, .slice A1 n1 c1, .slice A2 n2 c2, .slice A3 n3 c3, .int .i64 z] 31)) #[.int .u16 uid, .bool ureply, .int .i64 uop, .bool uauth, .bool utrunc, .bool uwant, .bool uavail, .int .i64 ucd, .string uqn, .int .u16 uqt, .slice U1 un1 uc1, .slice U2 un2 uc2, .slice U3 un3 uc3, .int .i64 uz] 31 [.int .u16 uid, .bool ureply, .int .i64 uop, .bool uauth, .bool utrunc, .bool uwant, .bool uavail, .int .i64 ucd, .string uqn, .int .u16 uqt, .slice U1 un1 uc1, .slice U2 un2 uc2, .slice U3 un3 uc3, .int .i64 uz]).at_ (w.heap.size + 1) (by simp)).alloc (.cells #[.int .u8 (kn : Nat), .int .u8 (hw : Nat), .slice NA nn nc, .slice RA rn rc] 51))
  have hC := (Cs.new ((w.alloc (.cells #[.int .u16 id, .bool reply, .int .i64 op, .bool auth, .bool trunc, .bool want, .bool avail, .int .i64 cd, .string qn, .int .u16 qt, .slice A1 n1 c1, .slice A2 n2 c2, .slice A3 n3 c3, .int .i64 z] 31)).alloc (.cells #[.int .u16 uid, .bool ureply, .int .i64 uop, .bool uauth, .bool utrunc, .bool uwant, .bool uavail, .int .i64 ucd, .string uqn, .int .u16 uqt, .slice U1 un1 uc1, .slice U2 un2 uc2, .slice U3 un3 uc3, .int .i64 uz] 31)) #[.int .u8 (kn : Nat), .int .u8 (hw : Nat), .slice NA nn nc, .slice RA rn rc] 51 [.int .u8 (kn : Nat), .int .u8 (hw : Nat), .slice NA nn nc, .slice RA rn rc]).at_ (w.heap.size + 1 + 1) (by simp)
  have hb0 := (((Below.refl w.heap.size w).alloc (Nat.le_refl _) (.cells #[.int .u16 id, .bool reply, .int .i64 op, .bool auth, .bool trunc, .bool want, .bool avail, .int .i64 cd, .string qn, .int .u16 qt, .slice A1 n1 c1, .slice A2 n2 c2, .slice A3 n3 c3, .int .i64 z] 31)).alloc (by simp) (.cells #[.int .u16 uid, .bool ureply, .int .i64 uop, .bool uauth, .bool utrunc, .bool uwant, .bool uavail, .int .i64 ucd, .string uqn, .int .u16 uqt, .slice U1 un1 uc1, .slice U2 un2 uc2, .slice U3 un3 uc3, .int .i64 uz] 31)).alloc (by simp; omega) (.cells #[.int .u8 (kn : Nat), .int .u8 (hw : Nat), .slice NA nn nc, .slice RA rn rc] 51)
  go_enter Try.func5, Try.ntmps5
  go_wp2_with fail
  refine (AW.out _).mono ?_
  rintro e w1 ⟨rfl, hb1'⟩
  have hb1 := below_trans hb0 hb0.size hb1'
  have hlt0 := (hQ.below hb1').lt
  have hQ1 := hQ.below hb1'
  have hU1 := hU.below hb1'
  have hC1 := hC.below hb1'
  have c0 := hC1.get 0 _
  have c1 := hC1.get 1 _
  have c2 := hC1.get 2 _
  have c3 := hC1.get 3 _
  clear hQ hU hC hb0 hb1' AW
  go_wp2_with fail
  refine (CA.out _ hb1).mono ?_
  rintro e w2 ⟨s, b, X, xn, xc, rs, rfl, ha, hoX, hb2'⟩
  have hb2 := below_trans hb1 hb1.size hb2'
  have hb2a := hb2.alloc hb2.size (.cells #[.int .i64 ((K : Nat) : Int), .string s, .bool b, .slice X xn xc] 54)
  have hQ2 := (hQ1.below hb2').alloc (.cells #[.int .i64 ((K : Nat) : Int), .string s, .bool b, .slice X xn xc] 54)
  have hU2 := (hU1.below hb2').alloc (.cells #[.int .i64 ((K : Nat) : Int), .string s, .bool b, .slice X xn xc] 54)
  have hC2 := (hC1.below hb2').alloc (.cells #[.int .i64 ((K : Nat) : Int), .string s, .bool b, .slice X xn xc] 54)
  have hA2 := Cs.new w2 #[.int .i64 ((K : Nat) : Int), .string s, .bool b, .slice X xn xc] 54 [.int .i64 ((K : Nat) : Int), .string s, .bool b, .slice X xn xc]
  have ha2 := ha.below ((Below.refl w2.heap.size w2).alloc (Nat.le_refl _) (.cells #[.int .i64 ((K : Nat) : Int), .string s, .bool b, .slice X xn xc] 54))
  have hlt2 := (hC1.below hb2').lt
  clear c0 c1 c2 c3 hQ1 hU1 hC1 hb2' hb2 hb1 CA ha
  go_upto_region 4 with fail
  generalize hWA : w2.alloc (.cells #[.int .i64 ((K : Nat) : Int), .string s, .bool b, .slice X xn xc] 54) = WA at *
  generalize hAB : w2.heap.size = AB at *
  clear hWA hAB
  go_wp2_with fail
  refine (NM.out _ hb2a).mono ?_
  rintro e w3 ⟨rfl, hb3'⟩
  have hb3 := below_trans hb2a hb2a.size hb3'
  have hQ3 := hQ2.below hb3'
  have q8 := hQ3.get 8 _
  have f8 := hQ3.froz 8 (by simp)
  have hQ3a := hQ3.set' 8 (.string N) (by simp)
  simp only [List.set_cons_succ, List.set_cons_zero] at hQ3a
  have hU3a := (hU2.below hb3').other w.heap.size 8 (.string N) (by omega)
  have hC3a := (hC2.below hb3').other w.heap.size 8 (.string N) (by omega)
  have hA3a := (hA2.below hb3').other w.heap.size 8 (.string N) (by omega)
  have hb3a := hb3.setCell (p := ⟨w.heap.size, 8, none⟩) (by simp) (.string N)
  have ha3 := (ha2.below hb3').otherC w.heap.size 8 (.string N) (fun b off e => by have := hoX b off e; have := hlt0; omega)
  clear hQ2 hU2 hC2 hA2 hb2a hb3 NM ha2
  go_upto_region 5 with fail
  generalize hW4 : w3.setCell ⟨w.heap.size, 8, none⟩ (.string N) = W4 at *
  have c1 := hC3a.get 1 _
  have HoX := Lib.hid hoX
  clear hW4 hQ3 q8 f8 hb3' hoX
  obtain ⟨t4, ht4⟩ : ∃ t, decide (0 < G) = t := ⟨_, rfl⟩
  go_cut [30] (fun v wc => v = .bool t4 ∧ wc = W4)
  case first =>
    go_wp2_with fail
    go_meet
    exact ⟨rfl, rfl⟩
  case rest =>
  obtain ⟨rfl, rfl⟩ := hcut
  clear c1 ht4
  rename_i Kx hKx Ky hKy
  refine hKy _ _ ?_
  go_cut [30] (fun v wc => v = .bool t4 ∧ ∃ T : Int, Hid (Cs wc w.heap.size [.int .u16 id, .bool reply, .int .i64 op, .bool auth, .bool trunc, .bool want, .bool avail, .int .i64 cd, .string N, .int .u16 T, .slice A1 n1 c1, .slice A2 n2 c2, .slice A3 n3 c3, .int .i64 z]) ∧ Hid (Cs wc (w.heap.size + 1) [.int .u16 uid, .bool ureply, .int .i64 uop, .bool uauth, .bool utrunc, .bool uwant, .bool uavail, .int .i64 ucd, .string uqn, .int .u16 uqt, .slice U1 un1 uc1, .slice U2 un2 uc2, .slice U3 un3 uc3, .int .i64 uz]) ∧ Hid (Cs wc AB [.int .i64 ((K : Nat) : Int), .string s, .bool b, .slice X xn xc]) ∧ Hid (ActGood wc K s b X xn xc rs) ∧ Hid (Below w.heap.size w wc))
  case first =>
    cases t4 with
    | false =>
      go_wp2_with fail
      go_meet
      exact ⟨rfl, qt, Lib.hid hQ3a, Lib.hid hU3a, Lib.hid hA3a, Lib.hid ha3, Lib.hid hb3a⟩
    | true =>
      have hJc : (J = 0 ∨ J = 1) ∨ J = 2 := by omega
      have hcw := (hC3a.alloc (.cells #[.int .u16 1, .int .u16 16, .int .u16 28] 26))
      rcases hJc with (h | h) | h
      · have hJ0 : (hw : Int).tmod 3 = 0 := by rw [hJt, h]; rfl
        clear hJt h
        have c1 := hcw.get 1 _
        have hQa := hQ3a.alloc (.cells #[.int .u16 1, .int .u16 16, .int .u16 28] 26)
        have q9 := hQa.get 9 _
        have f9 := hQa.froz 9 (by simp)
        have hQl := hQa.lt
        have hQb := hQa.set' 9 (.int .u16 1) (by simp)
        simp only [List.set_cons_succ, List.set_cons_zero] at hQb
        have HQb := Lib.hid hQb
        clear hQb
        go_wp2_with fail
        go_meet
        exact ⟨rfl, 1, HQb, Lib.hid ((hU3a.alloc _).other _ _ _ (by omega)), Lib.hid ((hA3a.alloc _).other _ _ _ (by omega)), Lib.hid ((ha3.below ((Below.refl wc.heap.size wc).alloc (Nat.le_refl _) _)).otherC _ _ _ (fun b off e => by have := HoX.out b off e; have := hlt0; omega)), Lib.hid ((hb3a.alloc hb3a.size _).setCell (by simp) _)⟩
      · have hJ0 : (hw : Int).tmod 3 = 1 := by rw [hJt, h]; rfl
        clear hJt h
        have c1 := hcw.get 1 _
        have hQa := hQ3a.alloc (.cells #[.int .u16 1, .int .u16 16, .int .u16 28] 26)
        have q9 := hQa.get 9 _
        have f9 := hQa.froz 9 (by simp)
        have hQl := hQa.lt
        have hQb := hQa.set' 9 (.int .u16 16) (by simp)
        simp only [List.set_cons_succ, List.set_cons_zero] at hQb
        have HQb := Lib.hid hQb
        clear hQb
        go_wp2_with fail
        go_meet
        exact ⟨rfl, 16, HQb, Lib.hid ((hU3a.alloc _).other _ _ _ (by omega)), Lib.hid ((hA3a.alloc _).other _ _ _ (by omega)), Lib.hid ((ha3.below ((Below.refl wc.heap.size wc).alloc (Nat.le_refl _) _)).otherC _ _ _ (fun b off e => by have := HoX.out b off e; have := hlt0; omega)), Lib.hid ((hb3a.alloc hb3a.size _).setCell (by simp) _)⟩
      · have hJ0 : (hw : Int).tmod 3 = 2 := by rw [hJt, h]; rfl
        clear hJt h
        have c1 := hcw.get 1 _
        have hQa := hQ3a.alloc (.cells #[.int .u16 1, .int .u16 16, .int .u16 28] 26)
        have q9 := hQa.get 9 _
        have f9 := hQa.froz 9 (by simp)
        have hQl := hQa.lt
        have hQb := hQa.set' 9 (.int .u16 28) (by simp)
        simp only [List.set_cons_succ, List.set_cons_zero] at hQb
        have HQb := Lib.hid hQb
        clear hQb
        go_wp2_with fail
        go_meet
        exact ⟨rfl, 28, HQb, Lib.hid ((hU3a.alloc _).other _ _ _ (by omega)), Lib.hid ((hA3a.alloc _).other _ _ _ (by omega)), Lib.hid ((ha3.below ((Below.refl wc.heap.size wc).alloc (Nat.le_refl _) _)).otherC _ _ _ (fun b off e => by have := HoX.out b off e; have := hlt0; omega)), Lib.hid ((hb3a.alloc hb3a.size _).setCell (by simp) _)⟩
  case rest =>
  obtain ⟨rfl, T, HQ4, HU4, HA4, HG4, HB4⟩ := hcut
  clear hQ3a hU3a hC3a hA3a ha3 hb3a hJt hGt
  refine hKx _ _ ?_
  have TU1 := of_any ⟨id, reply, op, auth, trunc, want, avail, cd, N, T, A1, n1, c1, r1, A2, n2, c2, r2, A3, n3, c3, r3, z⟩ ⟨uid, ureply, uop, uauth, utrunc, uwant, uavail, ucd, uqn, uqt, U1, un1, uc1, s1, U2, un2, uc2, s2, U3, un3, uc3, s3, uz⟩ K s b X xn xc rs tcp wc (UPU.out.below HB4.out) HG4.out (by have := HNS.out; show N.size ≤ _; omega)
  have LB := fun w => lbase_any ⟨id, reply, op, auth, trunc, want, avail, cd, N, T, A1, n1, c1, r1, A2, n2, c2, r2, A3, n3, c3, r3, z⟩ 0 w (by decide)
  unfold TellsB at TU1
  unfold MsgT.base at LB
  unfold MsgT.v at *
  dsimp only at TU1 LB
  rw [show (0 : Int) % 16 = 0 by decide] at LB
  obtain ⟨t3, ht3⟩ : ∃ t, ((K : Int) == 3) = t := ⟨_, rfl⟩
  rw [ht3] at TU1
  generalize hmz : minZ z = mz at *
  have TU1 := Lib.hid TU1
  have LB := Lib.hid LB
  have HT3 := Lib.hid ht3
  have HMZ := Lib.hid hmz
  clear ht3 hmz
  have hQ4 := HQ4.out
  have hU4 := HU4.out
  have hA4 := HA4.out
  have hQl4 := hQ4.lt
  have hUl4 := hU4.lt
  have hAl4 := hA4.lt
  have q0 := hQ4.get 0 _
  have q1 := hQ4.get 1 _
  have q2 := hQ4.get 2 _
  have q3 := hQ4.get 3 _
  have q4 := hQ4.get 4 _
  have q5 := hQ4.get 5 _
  have q6 := hQ4.get 6 _
  have q7 := hQ4.get 7 _
  have q8 := hQ4.get 8 _
  have q9 := hQ4.get 9 _
  have q10 := hQ4.get 10 _
  have q11 := hQ4.get 11 _
  have q12 := hQ4.get 12 _
  have q13 := hQ4.get 13 _
  have u0 := hU4.get 0 _
  have u1 := hU4.get 1 _
  have u2 := hU4.get 2 _
  have u3 := hU4.get 3 _
  have u4 := hU4.get 4 _
  have u5 := hU4.get 5 _
  have u6 := hU4.get 6 _
  have u7 := hU4.get 7 _
  have u8 := hU4.get 8 _
  have u9 := hU4.get 9 _
  have u10 := hU4.get 10 _
  have u11 := hU4.get 11 _
  have u12 := hU4.get 12 _
  have u13 := hU4.get 13 _
  have a0 := hA4.get 0 _
  have a1 := hA4.get 1 _
  have a2 := hA4.get 2 _
  have a3 := hA4.get 3 _
  clear hQ4 hU4 hA4
  go_wp2_with fail
  refine (TU1.out).mono ?_
  rintro e w7 ⟨⟨xid, xreply, xop, xauth, xtrunc, xwant, xavail, xcd, xqn, xqt, X1, xn1, xc1, x1, X2, xn2, xc2, x2, X3, xn3, xc3, x3, xz⟩, rfl, hs7, hh7, -, hb7'⟩
  dsimp only
  have hb7 := below_trans HB4.out HB4.out.size hb7'
  have hb7a := hb7.alloc hb7.size (.cells #[.int .u16 xid, .bool xreply, .int .i64 xop, .bool xauth, .bool xtrunc, .bool xwant, .bool xavail, .int .i64 xcd, .string xqn, .int .u16 xqt, .slice X1 xn1 xc1, .slice X2 xn2 xc2, .slice X3 xn3 xc3, .int .i64 xz] 31)
  have hQ7 := (HQ4.out.below hb7').alloc (.cells #[.int .u16 xid, .bool xreply, .int .i64 xop, .bool xauth, .bool xtrunc, .bool xwant, .bool xavail, .int .i64 xcd, .string xqn, .int .u16 xqt, .slice X1 xn1 xc1, .slice X2 xn2 xc2, .slice X3 xn3 xc3, .int .i64 xz] 31)
  have hU7 := (HU4.out.below hb7').alloc (.cells #[.int .u16 xid, .bool xreply, .int .i64 xop, .bool xauth, .bool xtrunc, .bool xwant, .bool xavail, .int .i64 xcd, .string xqn, .int .u16 xqt, .slice X1 xn1 xc1, .slice X2 xn2 xc2, .slice X3 xn3 xc3, .int .i64 xz] 31)
  have hA7 := (HA4.out.below hb7').alloc (.cells #[.int .u16 xid, .bool xreply, .int .i64 xop, .bool xauth, .bool xtrunc, .bool xwant, .bool xavail, .int .i64 xcd, .string xqn, .int .u16 xqt, .slice X1 xn1 xc1, .slice X2 xn2 xc2, .slice X3 xn3 xc3, .int .i64 xz] 31)
  have hX7 := Cs.new w7 #[.int .u16 xid, .bool xreply, .int .i64 xop, .bool xauth, .bool xtrunc, .bool xwant, .bool xavail, .int .i64 xcd, .string xqn, .int .u16 xqt, .slice X1 xn1 xc1, .slice X2 xn2 xc2, .slice X3 xn3 xc3, .int .i64 xz] 31 [.int .u16 xid, .bool xreply, .int .i64 xop, .bool xauth, .bool xtrunc, .bool xwant, .bool xavail, .int .i64 xcd, .string xqn, .int .u16 xqt, .slice X1 xn1 xc1, .slice X2 xn2 xc2, .slice X3 xn3 xc3, .int .i64 xz]
  have hg7 := (HG4.out.below hb7').below ((Below.refl w7.heap.size w7).alloc (Nat.le_refl _) (.cells #[.int .u16 xid, .bool xreply, .int .i64 xop, .bool xauth, .bool xtrunc, .bool xwant, .bool xavail, .int .i64 xcd, .string xqn, .int .u16 xqt, .slice X1 xn1 xc1, .slice X2 xn2 xc2, .slice X3 xn3 xc3, .int .i64 xz] 31))
  have hh7a := hh7.below ((Below.refl w7.heap.size w7).alloc (Nat.le_refl _) (.cells #[.int .u16 xid, .bool xreply, .int .i64 xop, .bool xauth, .bool xtrunc, .bool xwant, .bool xavail, .int .i64 xcd, .string xqn, .int .u16 xqt, .slice X1 xn1 xc1, .slice X2 xn2 xc2, .slice X3 xn3 xc3, .int .i64 xz] 31))
  have hXq := (HQ4.out.below hb7').lt
  have hXu := (HU4.out.below hb7').lt
  have hXa := (HA4.out.below hb7').lt
  have HS := Lib.hid hs7
  clear q0 u0 q1 u1 q2 u2 q3 u3 q4 u4 q5 u5 q6 u6 q7 u7 q8 u8 q9 u9 q10 u10 q11 u11 q12 u12 q13 u13 a0 a1 a2 a3 hs7 hh7 TU1 hb7 hb7' HQ4 HU4 HA4 HG4 HB4
  go_upto_region 8 with fail
  have hXl := hX7.lt
  generalize hWX : w7.alloc (.cells #[.int .u16 xid, .bool xreply, .int .i64 xop, .bool xauth, .bool xtrunc, .bool xwant, .bool xavail, .int .i64 xcd, .string xqn, .int .u16 xqt, .slice X1 xn1 xc1, .slice X2 xn2 xc2, .slice X3 xn3 xc3, .int .i64 xz] 31) = W7 at *
  generalize hXB : w7.heap.size = XB at *
  clear hWX hXB
  have q0 := hQ7.get 0 _
  have q1 := hQ7.get 1 _
  have q2 := hQ7.get 2 _
  have q3 := hQ7.get 3 _
  have q4 := hQ7.get 4 _
  have q5 := hQ7.get 5 _
  have q6 := hQ7.get 6 _
  have q7 := hQ7.get 7 _
  have q8 := hQ7.get 8 _
  have q9 := hQ7.get 9 _
  have q10 := hQ7.get 10 _
  have q11 := hQ7.get 11 _
  have q12 := hQ7.get 12 _
  have q13 := hQ7.get 13 _
  have HB7 := Lib.hid hb7a
  have HG7 := Lib.hid hg7
  have HH7 := Lib.hid hh7a
  clear hb7a hg7 hh7a
  go_wp2_with fail
  refine (LB.out _).mono ?_
  rintro e w8 ⟨rfl, hb8'⟩
  have hb8 := below_trans HB7.out HB7.out.size hb8'
  have hQ8 := (hQ7.below hb8').alloc (.cells #[.int .u16 id, .bool true, .int .i64 op, .bool false, .bool false, .bool want, .bool true, .int .i64 0, .string N, .int .u16 T, .slice none 0 0, .slice none 0 0, .slice none 0 0, .int .i64 mz] 31)
  have hU8 := (hU7.below hb8').alloc (.cells #[.int .u16 id, .bool true, .int .i64 op, .bool false, .bool false, .bool want, .bool true, .int .i64 0, .string N, .int .u16 T, .slice none 0 0, .slice none 0 0, .slice none 0 0, .int .i64 mz] 31)
  have hA8 := (hA7.below hb8').alloc (.cells #[.int .u16 id, .bool true, .int .i64 op, .bool false, .bool false, .bool want, .bool true, .int .i64 0, .string N, .int .u16 T, .slice none 0 0, .slice none 0 0, .slice none 0 0, .int .i64 mz] 31)
  have hX8 := (hX7.below hb8').alloc (.cells #[.int .u16 id, .bool true, .int .i64 op, .bool false, .bool false, .bool want, .bool true, .int .i64 0, .string N, .int .u16 T, .slice none 0 0, .slice none 0 0, .slice none 0 0, .int .i64 mz] 31)
  have hT8 := Cs.new w8 #[.int .u16 id, .bool true, .int .i64 op, .bool false, .bool false, .bool want, .bool true, .int .i64 0, .string N, .int .u16 T, .slice none 0 0, .slice none 0 0, .slice none 0 0, .int .i64 mz] 31 [.int .u16 id, .bool true, .int .i64 op, .bool false, .bool false, .bool want, .bool true, .int .i64 0, .string N, .int .u16 T, .slice none 0 0, .slice none 0 0, .slice none 0 0, .int .i64 mz]
  have hTx := (hX7.below hb8').lt
  have h08 := HH7.out.below hb8'
  have hh8 := h08.below ((Below.refl w8.heap.size w8).alloc (Nat.le_refl _) (.cells #[.int .u16 id, .bool true, .int .i64 op, .bool false, .bool false, .bool want, .bool true, .int .i64 0, .string N, .int .u16 T, .slice none 0 0, .slice none 0 0, .slice none 0 0, .int .i64 mz] 31))
  have HG7o := HG7.out.below hb8'
  have hg8 := (HG7.out.below hb8').below ((Below.refl w8.heap.size w8).alloc (Nat.le_refl _) (.cells #[.int .u16 id, .bool true, .int .i64 op, .bool false, .bool false, .bool want, .bool true, .int .i64 0, .string N, .int .u16 T, .slice none 0 0, .slice none 0 0, .slice none 0 0, .int .i64 mz] 31))
  have hb8a := hb8.alloc hb8.size (.cells #[.int .u16 id, .bool true, .int .i64 op, .bool false, .bool false, .bool want, .bool true, .int .i64 0, .string N, .int .u16 T, .slice none 0 0, .slice none 0 0, .slice none 0 0, .int .i64 mz] 31)
  have hupu := UPU.out.below hb8a
  have hg08 := HG7o
  have hwT := hb8.size
  have hW8s : (w8.alloc (.cells #[.int .u16 id, .bool true, .int .i64 op, .bool false, .bool false, .bool want, .bool true, .int .i64 0, .string N, .int .u16 T, .slice none 0 0, .slice none 0 0, .slice none 0 0, .int .i64 mz] 31)).heap.size = w8.heap.size + 1 := by simp
  clear q0 q1 q2 q3 q4 q5 q6 q7 q8 q9 q10 q11 q12 q13 hQ7 hU7 hA7 hX7 HB7 HG7 HH7 hb8 hb8' LB
  go_upto_region 9 with fail
  have hTl := hT8.lt
  generalize hWT : w8.alloc (.cells #[.int .u16 id, .bool true, .int .i64 op, .bool false, .bool false, .bool want, .bool true, .int .i64 0, .string N, .int .u16 T, .slice none 0 0, .slice none 0 0, .slice none 0 0, .int .i64 mz] 31) = W8 at *
  generalize hTB : w8.heap.size = TB at *
  have hz8 := Nat.le_of_eq hTB
  clear hWT
  have a0 := hA8.get 0 _
  have HQ := Lib.hid hQ8
  have HU := Lib.hid hU8
  have HA := Lib.hid hA8
  have HX := Lib.hid hX8
  have HT := Lib.hid hT8
  have HH0 := Lib.hid h08
  have HH := Lib.hid hh8
  have HG := Lib.hid hg8
  have HB := Lib.hid hb8a
  have HZ := Lib.hid hz8
  have HUP := Lib.hid hupu
  have HUH := Lib.hid UPU.out.has
  have HUL := Lib.hid hwT
  have HW8 := Lib.hid hW8s
  have HG0 := Lib.hid hg08
  clear hQ8 hU8 hA8 hX8 hT8 h08 hh8 hg8 hb8a hz8 hTB hupu
  go_upto_block 0 with fail
  go_cut [] (fun wc => t3 = false ∧ ∃ wt : MsgT, Hid (Cs wc XB [.int .u16 xid, .bool xreply, .int .i64 xop, .bool xauth, .bool xtrunc, .bool xwant, .bool xavail, .int .i64 xcd, .string xqn, .int .u16 xqt, .slice X1 xn1 xc1, .slice X2 xn2 xc2, .slice X3 xn3 xc3, .int .i64 xz]) ∧ Hid (Cs wc TB wt.cells) ∧ Hid (MsgHas wc ⟨xid, xreply, xop, xauth, xtrunc, xwant, xavail, xcd, xqn, xqt, X1, xn1, xc1, x1, X2, xn2, xc2, x2, X3, xn3, xc3, x3, xz⟩) ∧ Hid (MsgHas wc wt) ∧ Hid (SameT ⟨xid, xreply, xop, xauth, xtrunc, xwant, xavail, xcd, xqn, xqt, X1, xn1, xc1, x1, X2, xn2, xc2, x2, X3, xn3, xc3, x3, xz⟩ wt) ∧ Hid (Below w.heap.size w wc))
  case first =>
    have hk := HKK.out
    have e3 : ((K : Int) == 3) = false := by rw [beq_eq_false_iff_ne]; omega
    have e4 : ((K : Int) == 4) = false := by rw [beq_eq_false_iff_ne]; omega
    have e5 : ((K : Int) == 5) = false := by rw [beq_eq_false_iff_ne]; omega
    have e6 : ((K : Int) == 6) = false := by rw [beq_eq_false_iff_ne]; omega
    have e7 : ((K : Int) == 7) = false := by rw [beq_eq_false_iff_ne]; omega
    have e8 : ((K : Int) == 8) = true := by rw [beq_iff_eq]; omega
    have ht3 : t3 = false := by rw [← HT3.out]; exact e3
    subst ht3
    have hOF : ofT ⟨id, reply, op, auth, trunc, want, avail, cd, N, T, A1, n1, c1, r1, A2, n2, c2, r2, A3, n3, c3, r3, z⟩ ⟨uid, ureply, uop, uauth, utrunc, uwant, uavail, ucd, uqn, uqt, U1, un1, uc1, s1, U2, un2, uc2, s2, U3, un3, uc3, s3, uz⟩ (K : Int) s b rs tcp = MsgT.baseT ⟨id, reply, op, auth, trunc, want, avail, cd, N, T, A1, n1, c1, r1, A2, n2, c2, r2, A3, n3, c3, r3, z⟩ 0 false (locR N T rs) := by (obtain rfl : K = 8 := by omega); cases tcp <;> rfl
    have hA := HA.out
    have a3 := hA.get 3 _
    have HR8 := Lib.hid HG.out.recs
    have HL := Lib.hid HG.out.len
    have HF := Lib.hid HG.out.few
    have hbz8 := HT.out.lt
    obtain ⟨i0, hi, hz0, hz1, hz2⟩ := info_parts4 rec_info
    have hO1 : Hid (OBM 4 (TB + 1) W8 (.slice none 0 0) 0 [] W8) := Lib.hid ⟨Below.refl _ _, by omega, by simp, .inl ⟨rfl, rfl⟩⟩
    have hQl := HQ.out.lt
    clear hA hk
    go_upto_region 27 with fail
    go_loopw [102] (fun i wr => ∃ (k : Nat) (v : Value), k ≤ xn ∧ i = .int .i64 k ∧ Hid (OBM 4 (TB + 1) wr v (locR N T (rs.take k)).length (flatR (locR N T (rs.take k))) wr) ∧ Hid (Cs wr w.heap.size [.int .u16 id, .bool reply, .int .i64 op, .bool auth, .bool trunc, .bool want, .bool avail, .int .i64 cd, .string N, .int .u16 T, .slice A1 n1 c1, .slice A2 n2 c2, .slice A3 n3 c3, .int .i64 z]) ∧ Hid (Cs wr XB [.int .u16 xid, .bool xreply, .int .i64 xop, .bool xauth, .bool xtrunc, .bool xwant, .bool xavail, .int .i64 xcd, .string xqn, .int .u16 xqt, .slice X1 xn1 xc1, .slice X2 xn2 xc2, .slice X3 xn3 xc3, .int .i64 xz]) ∧ Hid (Cs wr TB [.int .u16 id, .bool true, .int .i64 op, .bool false, .bool false, .bool want, .bool true, .int .i64 0, .string N, .int .u16 T, v, .slice none 0 0, .slice none 0 0, .int .i64 mz]) ∧ Hid (MsgHas wr ⟨xid, xreply, xop, xauth, xtrunc, xwant, xavail, xcd, xqn, xqt, X1, xn1, xc1, x1, X2, xn2, xc2, x2, X3, xn3, xc3, x3, xz⟩) ∧ Hid (Recs wr X rs) ∧ Hid (Below w.heap.size w wr)) (fun i _ => xn - (intOf i).toNat)
    case atStart => exact ⟨0, .slice none 0 0, Nat.zero_le _, rfl, Lib.hid (by have := hO1.out; simpa [locR, flatR] using this), HQ, HX, HT, HH, HR8, HB⟩
    case round =>
      obtain ⟨k, v, hk, rfl, HOr, HQr, HXr, HTr, HHr, HRr, HBr⟩ := hrel
      by_cases hlt : k < xn
      · have hlt' : (k : Int) < xn := by omega
        have hf6 : xn ≤ 6 := HF.out
        obtain ⟨⟨x0', x1', x2', x3'⟩, hr⟩ : ∃ r, rs[k]? = some r := ⟨_, List.getElem?_eq_getElem (by rw [HL.out]; omega)⟩
        obtain ⟨bb, off, hXe, hbb, g0, g1, g2, g3⟩ := HRr.out k _ hr
        dsimp only at g0 g1 g2 g3
        subst hXe
        obtain ⟨X', c', rfl, -, -, -⟩ := HOr.out.slice
        have hTl2 := HTr.out.lt
        have hQl2 := HQr.out.lt
        generalize hpr : locR N T (rs.take k) = pr at *
        have hprl : pr.length ≤ 6 := by rw [← hpr]; exact Nat.le_trans (locR_len _ _ _) (by rw [List.length_take]; have := HF.out; omega)
        cases ht : (x1' == T) with
        | true =>
          have hNX : locR N T (rs.take (k + 1)) = pr ++ [(N, x1', x2', x3')] := by rw [locR_yes hr ht, hpr]
          have HNX := Lib.hid hNX
          have HPL := Lib.hid hprl
          have q9 := (HQr.out.alloc (.cells #[.string x0', .int .u16 x1', .int .u32 x2', .string x3'] 44)).get 9 _
          have q8 := (HQr.out.alloc (.cells #[.string x0', .int .u16 x1', .int .u32 x2', .string x3'] 44)).get 8 _
          have t10 := (HTr.out.alloc (.cells #[.string N, .int .u16 x1', .int .u32 x2', .string x3'] 44)).get 10 _
          have hA2 : Hid (OBM 4 (TB + 1) wr (.slice X' pr.length c') pr.length (flatR pr) ((wr.alloc (.cells #[.string N, .int .u16 x1', .int .u32 x2', .string x3'] 44)).alloc (.cells #[.string N, .int .u16 x1', .int .u32 x2', .string x3'] 44))) := Lib.hid ((HOr.out.alloc _).alloc _)
          have hS : Hid (Src Try.prog 4 29 (.slice (some ⟨(wr.alloc (.cells #[.string N, .int .u16 x1', .int .u32 x2', .string x3'] 44)).heap.size, 0, none⟩) 1 1) 1 (recCells (N, x1', x2', x3')) ((wr.alloc (.cells #[.string N, .int .u16 x1', .int .u32 x2', .string x3'] 44)).alloc (.cells #[.string N, .int .u16 x1', .int .u32 x2', .string x3'] 44))) := by
            refine Lib.hid (Src.ofSlice _ Try.underlying29 _ 1 1 _ rfl ?_ ?_)
            · exact news_at _ #[.string N, .int .u16 x1', .int .u32 x2', .string x3'] _
            · intro u' hu'
              unfold recCells at hu'
              simp at hu'
              rcases hu' with rfl | rfl | rfl | rfl <;> rfl
          rw [show (wr.alloc (.cells #[.string N, .int .u16 x1', .int .u32 x2', .string x3'] 44)).heap.size = wr.heap.size + 1 by simp] at hS
          clear hpr hNX hr hprl
          go_wp2_with (at_builtin; go_loud (refine wpList_append_obm rfl _ _ 29 29 rfl 44 i0 _ 40 Try.underlying29 hi hz0 hz1 hz2 rfl hA2.out rfl rfl hS.out rfl (by have := HPL.out; unfold maxLen; omega) (by have := HPL.out; omega) ?_))
          intro v' w' p1 p2 p3 p4
          have hT2 := HTr.out.belowC p1.bel (Nat.lt_succ_self TB)
          have hX2 := HXr.out.belowC p1.bel (by omega)
          have hQ2 := HQr.out.belowC p1.bel (by omega)
          have hH2 := HHr.out.belowC HH0.out p1.bel (Nat.le_succ_of_le HZ.out)
          have hR2 := HRr.out.belowC HR8.out p1.bel (Nat.le_of_eq HW8.out)
          have hB2 := HBr.out.trans (p1.bel.mono (show w.heap.size ≤ TB + 1 by omega))
          obtain ⟨X2', c2', rfl, -, -, -⟩ := p1.slice
          have t10 := hT2.get 10 _
          have f10 := hT2.froz 10 (by simp)
          have HT2 := Lib.hid hT2
          have HX2 := Lib.hid hX2
          have HQ2 := Lib.hid hQ2
          have HH2 := Lib.hid hH2
          have HR2 := Lib.hid hR2
          have HB2 := Lib.hid hB2
          have P1 := Lib.hid p1
          clear p1 p2 p3 p4 hT2 hX2 hQ2 hH2 hR2 hB2 q8 q9 hA2 hS
          go_wp2_with fail
          go_round
          case rel =>
            refine ⟨k + 1, .slice X2' (pr.length + 1) c2', by omega, by go_num, ?_, Lib.hid (HQ2.out.other _ _ _ (by omega)), Lib.hid (HX2.out.other _ _ _ (by omega)), ?_, Lib.hid (HH2.out.otherTop HH0.out _ _ _ HZ.out), Lib.hid (HR2.out.otherTop HG0.out.recs _ _ _ HZ.out), Lib.hid (HB2.out.setCell (by simp; omega) _)⟩
            · rw [HNX.out, flatR_snoc, List.length_append]
              exact Lib.hid (P1.out.setOther TB 10 _ (Nat.lt_succ_self TB))
            · have q := HT2.out.set' 10 (.slice X2' (pr.length + 1) c2') (by simp)
              simp only [List.set_cons_succ, List.set_cons_zero] at q
              exact Lib.hid q
          case measure => simp [intOf]; omega
        | false =>
          have hNX : locR N T (rs.take (k + 1)) = pr := by rw [locR_no hr ht, hpr]
          have HNX := Lib.hid hNX
          have q9 := (HQr.out.alloc (.cells #[.string x0', .int .u16 x1', .int .u32 x2', .string x3'] 44)).get 9 _
          clear hpr hNX hr hprl
          go_wp2_with fail
          go_round
          case rel => exact ⟨k + 1, .slice X' pr.length c', by omega, by go_num, by rw [HNX.out]; exact Lib.hid (HOr.out.alloc _).here, Lib.hid (HQr.out.alloc _), Lib.hid (HXr.out.alloc _), Lib.hid (HTr.out.alloc _), Lib.hid (HHr.out.below ((Below.refl _ _).alloc (Nat.le_refl _) _)), Lib.hid (HRr.out.below ((Below.refl _ _).alloc (Nat.le_refl _) _)), Lib.hid (HBr.out.alloc HBr.out.size _)⟩
          case measure => simp [intOf]; omega
      · have hlt' : ¬ (k : Int) < xn := by omega
        have hkn : rs.take k = rs := List.take_of_length_le (by rw [HL.out]; omega)
        rw [hkn] at HOr
        obtain ⟨X', c', rfl, -, -, -⟩ := HOr.out.slice
        have hprl : (locR N T rs).length ≤ 6 := Nat.le_trans (locR_len _ _ _) (by rw [HL.out]; exact HF.out)
        have HP := Lib.hid (HOr.out.recs rfl)
        generalize hpr : locR N T rs = pr at *
        have HPL := Lib.hid hprl
        have HOF := Lib.hid hOF
        clear hprl hkn HOr hOF
        go_wp2_with fail
        go_meet
        exact ⟨trivial, ⟨id, true, op, false, false, want, true, 0, N, T, X', pr.length, c', pr, none, 0, 0, [], none, 0, 0, [], mz⟩, HXr, HTr, HHr, Lib.hid ⟨HP.out, Recs.nil _ _, Recs.nil _ _, rfl, rfl, rfl, by show pr.length ≤ maxLen; have := HPL.out; unfold maxLen; omega, Nat.zero_le _, Nat.zero_le _⟩, Lib.hid (by have q := HS.out; rw [HOF.out] at q; exact q.trans ⟨rfl, rfl, rfl, rfl, rfl, rfl, rfl, rfl, rfl, rfl, HMZ.out, rfl, rfl, rfl⟩), HBr⟩
  case rest =>
  obtain ⟨rfl, wt, HXz, HTz, HHz, HWz, HSz, HBz⟩ := hcut
  obtain ⟨yid, yreply, yop, yauth, ytrunc, ywant, yavail, ycd, yqn, yqt, Y1, yn1, yc1, y1, Y2, yn2, yc2, y2, Y3, yn3, yc3, y3, yz⟩ := wt
  have SM := same_msgT ⟨xid, xreply, xop, xauth, xtrunc, xwant, xavail, xcd, xqn, xqt, X1, xn1, xc1, x1, X2, xn2, xc2, x2, X3, xn3, xc3, x3, xz⟩ ⟨yid, yreply, yop, yauth, ytrunc, ywant, yavail, ycd, yqn, yqt, Y1, yn1, yc1, y1, Y2, yn2, yc2, y2, Y3, yn3, yc3, y3, yz⟩ _ HHz.out HWz.out HSz.out
  unfold MsgT.v at SM
  dsimp only at SM
  have SM := Lib.hid SM
  have hXz := HXz.out
  have hTz := HTz.out
  unfold MsgT.cells at hTz
  dsimp only at hTz
  have m0 := hXz.get 0 _
  have m1 := hXz.get 1 _
  have m2 := hXz.get 2 _
  have m3 := hXz.get 3 _
  have m4 := hXz.get 4 _
  have m5 := hXz.get 5 _
  have m6 := hXz.get 6 _
  have m7 := hXz.get 7 _
  have m8 := hXz.get 8 _
  have m9 := hXz.get 9 _
  have m10 := hXz.get 10 _
  have m11 := hXz.get 11 _
  have m12 := hXz.get 12 _
  have m13 := hXz.get 13 _
  have k0 := hTz.get 0 _
  have k1 := hTz.get 1 _
  have k2 := hTz.get 2 _
  have k3 := hTz.get 3 _
  have k4 := hTz.get 4 _
  have k5 := hTz.get 5 _
  have k6 := hTz.get 6 _
  have k7 := hTz.get 7 _
  have k8 := hTz.get 8 _
  have k9 := hTz.get 9 _
  have k10 := hTz.get 10 _
  have k11 := hTz.get 11 _
  have k12 := hTz.get 12 _
  have k13 := hTz.get 13 _
  clear hXz hTz a0
  go_wp2_with fail
  refine SM.out.mono ?_
  rintro e wz ⟨rfl, hbz'⟩
  have hbz := below_trans HBz.out HBz.out.size hbz'
  go_wp2_with fail
  go_ret
  exact ⟨rfl, hbz⟩
set_option maxHeartbeats 25600000 in
theorem replyOf_ko (w : World) (q : MsgT) (hq : MsgOk w q) (bq1 : q.c1 ≤ 3518437208780) (bq2 : q.c2 ≤ 3518437208780) (bq3 : q.c3 ≤ 3518437208780) (bqn : q.qn.size ≤ 140737488351232) (u : MsgT) (hu : MsgOk w u) (bu1 : u.c1 ≤ 3518437208780) (bu2 : u.c2 ≤ 3518437208780) (bu3 : u.c3 ≤ 3518437208780) (bun : u.qn.size ≤ 140737488351232)
    (kd : Int) (hkd : (Lit.int .u8 kd).wf = true) (how : Int) (hhow : (Lit.int .u8 how).wf = true) (NA : Option Addr) (nn nc : Nat) (zs : List Int) (hV : SlView w NA nn nc (zs.map (Value.int .u8))) (hl : zs.length = nn) (hzw : ∀ z ∈ zs, (Lit.int .u8 z).wf = true) (hc : nc ≤ 140737488351232)
    (RA : Option Addr) (rn rc : Nat) (ds : List ActT) (hD : Acts5 w RA rn rc ds) (MA : Option Addr) (mn mc : Nat) (ms : List Int) (hM : SlView w MA mn mc (ms.map (Value.int .u8))) (hml : ms.length = mn) (hmw : ∀ z ∈ ms, (Lit.int .u8 z).wf = true) (hmc : mc ≤ 140737488351232) (tcp : Bool) (hKx : kd.toNat % 10 ≠ 3 ∧ kd.toNat % 10 ≠ 4 ∧ kd.toNat % 10 ≠ 5 ∧ kd.toNat % 10 ≠ 6 ∧ kd.toNat % 10 ≠ 7 ∧ kd.toNat % 10 ≠ 8) :
    Calls Try.prog 5 #[q.v, u.v, .agg #[.int .u8 kd, .int .u8 how, .slice NA nn nc, .slice RA rn rc], .slice MA mn mc, .bool tcp] w fun e w' => e = .returned (.bool true) ∧ Below w.heap.size w w' := by
  have hk' := u8_wf hkd
  have hh' := u8_wf hhow
  obtain ⟨kn, rfl⟩ : ∃ k : Nat, kd = k := ⟨kd.toNat, by omega⟩
  obtain ⟨hw, rfl⟩ : ∃ k : Nat, how = k := ⟨how.toNat, by omega⟩
  have hz : ∀ z ∈ zs, 0 ≤ z ∧ z < 256 := fun z h => u8_wf (hzw z h)
  have hmz' : ∀ z ∈ ms, 0 ≤ z ∧ z < 256 := fun z h => u8_wf (hmw z h)
  have CA := Lib.hid (fun (w' : World) (hx : Below w.heap.size w w') => choice_any kn (by omega) hw (by omega) NA nn nc zs RA rn rc ds w' ((hV.sl.below hx).more hx.size) hz (by have := hV.le; omega) (hD.at_.below hx) hD.most)
  have NM := fun (w' : World) (hx : Below w.heap.size w w') => name_any MA mn mc ms w' ((hM.sl.below hx).more hx.size) hmz' (by have := hM.le; unfold maxLen; omega)
  have hNl := nameZ_len ms hmz'
  unfold sv at NM
  obtain ⟨N, hN⟩ : ∃ N, ByteArray.mk (nameZ ms).toArray = N := ⟨_, rfl⟩
  rw [hN] at NM
  have NM := Lib.hid NM
  have HNS := Lib.hid (show N.size ≤ 84 by rw [← hN, mk_size]; exact hNl)
  have UPU := Lib.hid (hu.up bu1 bu2 bu3)
  have HUC := Lib.hid hu.code
  have AW := Lib.hid (fun w => awake21 w)
  obtain ⟨K, hK⟩ : ∃ K, kn % 10 = K := ⟨_, rfl⟩
  rw [hK] at CA
  obtain ⟨J, hJ⟩ : ∃ J, hw % 3 = J := ⟨_, rfl⟩
  obtain ⟨G, hG⟩ : ∃ G, hw % 4 = G := ⟨_, rfl⟩
  have hJt : (hw : Int).tmod 3 = (J : Int) := by rw [Int.tmod_eq_emod_of_nonneg (by omega)]; omega
  have hGt : (hw : Int).tmod 4 = (G : Int) := by rw [Int.tmod_eq_emod_of_nonneg (by omega)]; omega
  have hJ3 : J < 3 := by omega
  have HKK := Lib.hid (show K ≠ 3 ∧ K ≠ 4 ∧ K ≠ 5 ∧ K ≠ 6 ∧ K ≠ 7 ∧ K ≠ 8 by rw [← hK]; simpa using hKx)
  clear hKx hkd hhow hV hzw hz hl hc hD hq hu bq1 bq2 bq3 bu1 bu2 bu3 bqn bun hk' hh' hK hJ hG hM hml hmw hmc hmz' hNl hN
  obtain ⟨id, reply, op, auth, trunc, want, avail, cd, qn, qt, A1, n1, c1, r1, A2, n2, c2, r2, A3, n3, c3, r3, z⟩ := q
  unfold MsgT.v at *
  obtain ⟨uid, ureply, uop, uauth, utrunc, uwant, uavail, ucd, uqn, uqt, U1, un1, uc1, s1, U2, un2, uc2, s2, U3, un3, uc3, s3, uz⟩ := u
  dsimp only at *
  have hQ := (((Cs.new w #[.int .u16 id, .bool reply, .int .i64 op, .bool auth, .bool trunc, .bool want, .bool avail, .int .i64 cd, .string qn, .int .u16 qt, .slice A1 n1 c1, .slice A2 n2 c2, .slice A3 n3 c3, .int .i64 z] 31 [.int .u16 id, .bool reply, .int .i64 op, .bool auth, .bool trunc, .bool want, .bool avail, .int .i64 cd, .string qn, .int .u16 qt, .slice A1 n1 c1, .slice A2 n2 c2, .slice A3 n3 c3, .int .i64 z]).alloc (.cells #[.int .u16 uid, .bool ureply, .int .i64 uop, .bool uauth, .bool utrunc, .bool uwant, .bool uavail, .int .i64 ucd, .string uqn, .int .u16 uqt, .slice U1 un1 uc1, .slice U2 un2 uc2, .slice U3 un3 uc3, .int .i64 uz] 31)).alloc (.cells #[.int .u8 (kn : Nat), .int .u8 (hw : Nat), .slice NA nn nc, .slice RA rn rc] 51))
  have hU := (((Cs.new (w.alloc (.cells #[.int .u16 id, .bool reply, .int .i64 op, .bool auth, .bool trunc, .bool want, .bool avail, .int .i64 cd, .string qn, .int .u16 qt, .slice A1 n1 c1, .slice A2 n2 c2, .slice A3 n3 c3, .int .i64 z] 31)) #[.int .u16 uid, .bool ureply, .int .i64 uop, .bool uauth, .bool utrunc, .bool uwant, .bool uavail, .int .i64 ucd, .string uqn, .int .u16 uqt, .slice U1 un1 uc1, .slice U2 un2 uc2, .slice U3 un3 uc3, .int .i64 uz] 31 [.int .u16 uid, .bool ureply, .int .i64 uop, .bool uauth, .bool utrunc, .bool uwant, .bool uavail, .int .i64 ucd, .string uqn, .int .u16 uqt, .slice U1 un1 uc1, .slice U2 un2 uc2, .slice U3 un3 uc3, .int .i64 uz]).at_ (w.heap.size + 1) (by simp)).alloc (.cells #[.int .u8 (kn : Nat), .int .u8 (hw : Nat), .slice NA nn nc, .slice RA rn rc] 51))
  have hC := (Cs.new ((w.alloc (.cells #[.int .u16 id, .bool reply, .int .i64 op, .bool auth, .bool trunc, .bool want, .bool avail, .int .i64 cd, .string qn, .int .u16 qt, .slice A1 n1 c1, .slice A2 n2 c2, .slice A3 n3 c3, .int .i64 z] 31)).alloc (.cells #[.int .u16 uid, .bool ureply, .int .i64 uop, .bool uauth, .bool utrunc, .bool uwant, .bool uavail, .int .i64 ucd, .string uqn, .int .u16 uqt, .slice U1 un1 uc1, .slice U2 un2 uc2, .slice U3 un3 uc3, .int .i64 uz] 31)) #[.int .u8 (kn : Nat), .int .u8 (hw : Nat), .slice NA nn nc, .slice RA rn rc] 51 [.int .u8 (kn : Nat), .int .u8 (hw : Nat), .slice NA nn nc, .slice RA rn rc]).at_ (w.heap.size + 1 + 1) (by simp)
  have hb0 := (((Below.refl w.heap.size w).alloc (Nat.le_refl _) (.cells #[.int .u16 id, .bool reply, .int .i64 op, .bool auth, .bool trunc, .bool want, .bool avail, .int .i64 cd, .string qn, .int .u16 qt, .slice A1 n1 c1, .slice A2 n2 c2, .slice A3 n3 c3, .int .i64 z] 31)).alloc (by simp) (.cells #[.int .u16 uid, .bool ureply, .int .i64 uop, .bool uauth, .bool utrunc, .bool uwant, .bool uavail, .int .i64 ucd, .string uqn, .int .u16 uqt, .slice U1 un1 uc1, .slice U2 un2 uc2, .slice U3 un3 uc3, .int .i64 uz] 31)).alloc (by simp; omega) (.cells #[.int .u8 (kn : Nat), .int .u8 (hw : Nat), .slice NA nn nc, .slice RA rn rc] 51)
  go_enter Try.func5, Try.ntmps5
  go_wp2_with fail
  refine (AW.out _).mono ?_
  rintro e w1 ⟨rfl, hb1'⟩
  have hb1 := below_trans hb0 hb0.size hb1'
  have hlt0 := (hQ.below hb1').lt
  have hQ1 := hQ.below hb1'
  have hU1 := hU.below hb1'
  have hC1 := hC.below hb1'
  have c0 := hC1.get 0 _
  have c1 := hC1.get 1 _
  have c2 := hC1.get 2 _
  have c3 := hC1.get 3 _
  clear hQ hU hC hb0 hb1' AW
  go_wp2_with fail
  refine (CA.out _ hb1).mono ?_
  rintro e w2 ⟨s, b, X, xn, xc, rs, rfl, ha, hoX, hb2'⟩
  have hb2 := below_trans hb1 hb1.size hb2'
  have hb2a := hb2.alloc hb2.size (.cells #[.int .i64 ((K : Nat) : Int), .string s, .bool b, .slice X xn xc] 54)
  have hQ2 := (hQ1.below hb2').alloc (.cells #[.int .i64 ((K : Nat) : Int), .string s, .bool b, .slice X xn xc] 54)
  have hU2 := (hU1.below hb2').alloc (.cells #[.int .i64 ((K : Nat) : Int), .string s, .bool b, .slice X xn xc] 54)
  have hC2 := (hC1.below hb2').alloc (.cells #[.int .i64 ((K : Nat) : Int), .string s, .bool b, .slice X xn xc] 54)
  have hA2 := Cs.new w2 #[.int .i64 ((K : Nat) : Int), .string s, .bool b, .slice X xn xc] 54 [.int .i64 ((K : Nat) : Int), .string s, .bool b, .slice X xn xc]
  have ha2 := ha.below ((Below.refl w2.heap.size w2).alloc (Nat.le_refl _) (.cells #[.int .i64 ((K : Nat) : Int), .string s, .bool b, .slice X xn xc] 54))
  have hlt2 := (hC1.below hb2').lt
  clear c0 c1 c2 c3 hQ1 hU1 hC1 hb2' hb2 hb1 CA ha
  go_upto_region 4 with fail
  generalize hWA : w2.alloc (.cells #[.int .i64 ((K : Nat) : Int), .string s, .bool b, .slice X xn xc] 54) = WA at *
  generalize hAB : w2.heap.size = AB at *
  clear hWA hAB
  go_wp2_with fail
  refine (NM.out _ hb2a).mono ?_
  rintro e w3 ⟨rfl, hb3'⟩
  have hb3 := below_trans hb2a hb2a.size hb3'
  have hQ3 := hQ2.below hb3'
  have q8 := hQ3.get 8 _
  have f8 := hQ3.froz 8 (by simp)
  have hQ3a := hQ3.set' 8 (.string N) (by simp)
  simp only [List.set_cons_succ, List.set_cons_zero] at hQ3a
  have hU3a := (hU2.below hb3').other w.heap.size 8 (.string N) (by omega)
  have hC3a := (hC2.below hb3').other w.heap.size 8 (.string N) (by omega)
  have hA3a := (hA2.below hb3').other w.heap.size 8 (.string N) (by omega)
  have hb3a := hb3.setCell (p := ⟨w.heap.size, 8, none⟩) (by simp) (.string N)
  have ha3 := (ha2.below hb3').otherC w.heap.size 8 (.string N) (fun b off e => by have := hoX b off e; have := hlt0; omega)
  clear hQ2 hU2 hC2 hA2 hb2a hb3 NM ha2
  go_upto_region 5 with fail
  generalize hW4 : w3.setCell ⟨w.heap.size, 8, none⟩ (.string N) = W4 at *
  have c1 := hC3a.get 1 _
  have HoX := Lib.hid hoX
  clear hW4 hQ3 q8 f8 hb3' hoX
  obtain ⟨t4, ht4⟩ : ∃ t, decide (0 < G) = t := ⟨_, rfl⟩
  go_cut [30] (fun v wc => v = .bool t4 ∧ wc = W4)
  case first =>
    go_wp2_with fail
    go_meet
    exact ⟨rfl, rfl⟩
  case rest =>
  obtain ⟨rfl, rfl⟩ := hcut
  clear c1 ht4
  rename_i Kx hKx Ky hKy
  refine hKy _ _ ?_
  go_cut [30] (fun v wc => v = .bool t4 ∧ ∃ T : Int, Hid (Cs wc w.heap.size [.int .u16 id, .bool reply, .int .i64 op, .bool auth, .bool trunc, .bool want, .bool avail, .int .i64 cd, .string N, .int .u16 T, .slice A1 n1 c1, .slice A2 n2 c2, .slice A3 n3 c3, .int .i64 z]) ∧ Hid (Cs wc (w.heap.size + 1) [.int .u16 uid, .bool ureply, .int .i64 uop, .bool uauth, .bool utrunc, .bool uwant, .bool uavail, .int .i64 ucd, .string uqn, .int .u16 uqt, .slice U1 un1 uc1, .slice U2 un2 uc2, .slice U3 un3 uc3, .int .i64 uz]) ∧ Hid (Cs wc AB [.int .i64 ((K : Nat) : Int), .string s, .bool b, .slice X xn xc]) ∧ Hid (ActGood wc K s b X xn xc rs) ∧ Hid (Below w.heap.size w wc))
  case first =>
    cases t4 with
    | false =>
      go_wp2_with fail
      go_meet
      exact ⟨rfl, qt, Lib.hid hQ3a, Lib.hid hU3a, Lib.hid hA3a, Lib.hid ha3, Lib.hid hb3a⟩
    | true =>
      have hJc : (J = 0 ∨ J = 1) ∨ J = 2 := by omega
      have hcw := (hC3a.alloc (.cells #[.int .u16 1, .int .u16 16, .int .u16 28] 26))
      rcases hJc with (h | h) | h
      · have hJ0 : (hw : Int).tmod 3 = 0 := by rw [hJt, h]; rfl
        clear hJt h
        have c1 := hcw.get 1 _
        have hQa := hQ3a.alloc (.cells #[.int .u16 1, .int .u16 16, .int .u16 28] 26)
        have q9 := hQa.get 9 _
        have f9 := hQa.froz 9 (by simp)
        have hQl := hQa.lt
        have hQb := hQa.set' 9 (.int .u16 1) (by simp)
        simp only [List.set_cons_succ, List.set_cons_zero] at hQb
        have HQb := Lib.hid hQb
        clear hQb
        go_wp2_with fail
        go_meet
        exact ⟨rfl, 1, HQb, Lib.hid ((hU3a.alloc _).other _ _ _ (by omega)), Lib.hid ((hA3a.alloc _).other _ _ _ (by omega)), Lib.hid ((ha3.below ((Below.refl wc.heap.size wc).alloc (Nat.le_refl _) _)).otherC _ _ _ (fun b off e => by have := HoX.out b off e; have := hlt0; omega)), Lib.hid ((hb3a.alloc hb3a.size _).setCell (by simp) _)⟩
      · have hJ0 : (hw : Int).tmod 3 = 1 := by rw [hJt, h]; rfl
        clear hJt h
        have c1 := hcw.get 1 _
        have hQa := hQ3a.alloc (.cells #[.int .u16 1, .int .u16 16, .int .u16 28] 26)
        have q9 := hQa.get 9 _
        have f9 := hQa.froz 9 (by simp)
        have hQl := hQa.lt
        have hQb := hQa.set' 9 (.int .u16 16) (by simp)
        simp only [List.set_cons_succ, List.set_cons_zero] at hQb
        have HQb := Lib.hid hQb
        clear hQb
        go_wp2_with fail
        go_meet
        exact ⟨rfl, 16, HQb, Lib.hid ((hU3a.alloc _).other _ _ _ (by omega)), Lib.hid ((hA3a.alloc _).other _ _ _ (by omega)), Lib.hid ((ha3.below ((Below.refl wc.heap.size wc).alloc (Nat.le_refl _) _)).otherC _ _ _ (fun b off e => by have := HoX.out b off e; have := hlt0; omega)), Lib.hid ((hb3a.alloc hb3a.size _).setCell (by simp) _)⟩
      · have hJ0 : (hw : Int).tmod 3 = 2 := by rw [hJt, h]; rfl
        clear hJt h
        have c1 := hcw.get 1 _
        have hQa := hQ3a.alloc (.cells #[.int .u16 1, .int .u16 16, .int .u16 28] 26)
        have q9 := hQa.get 9 _
        have f9 := hQa.froz 9 (by simp)
        have hQl := hQa.lt
        have hQb := hQa.set' 9 (.int .u16 28) (by simp)
        simp only [List.set_cons_succ, List.set_cons_zero] at hQb
        have HQb := Lib.hid hQb
        clear hQb
        go_wp2_with fail
        go_meet
        exact ⟨rfl, 28, HQb, Lib.hid ((hU3a.alloc _).other _ _ _ (by omega)), Lib.hid ((hA3a.alloc _).other _ _ _ (by omega)), Lib.hid ((ha3.below ((Below.refl wc.heap.size wc).alloc (Nat.le_refl _) _)).otherC _ _ _ (fun b off e => by have := HoX.out b off e; have := hlt0; omega)), Lib.hid ((hb3a.alloc hb3a.size _).setCell (by simp) _)⟩
  case rest =>
  obtain ⟨rfl, T, HQ4, HU4, HA4, HG4, HB4⟩ := hcut
  clear hQ3a hU3a hC3a hA3a ha3 hb3a hJt hGt
  refine hKx _ _ ?_
  have TU1 := of_any ⟨id, reply, op, auth, trunc, want, avail, cd, N, T, A1, n1, c1, r1, A2, n2, c2, r2, A3, n3, c3, r3, z⟩ ⟨uid, ureply, uop, uauth, utrunc, uwant, uavail, ucd, uqn, uqt, U1, un1, uc1, s1, U2, un2, uc2, s2, U3, un3, uc3, s3, uz⟩ K s b X xn xc rs tcp wc (UPU.out.below HB4.out) HG4.out (by have := HNS.out; show N.size ≤ _; omega)
  have LB := fun w => lbase_any ⟨id, reply, op, auth, trunc, want, avail, cd, N, T, A1, n1, c1, r1, A2, n2, c2, r2, A3, n3, c3, r3, z⟩ 0 w (by decide)
  unfold TellsB at TU1
  unfold MsgT.base at LB
  unfold MsgT.v at *
  dsimp only at TU1 LB
  rw [show (0 : Int) % 16 = 0 by decide] at LB
  obtain ⟨t3, ht3⟩ : ∃ t, ((K : Int) == 3) = t := ⟨_, rfl⟩
  rw [ht3] at TU1
  generalize hmz : minZ z = mz at *
  have TU1 := Lib.hid TU1
  have LB := Lib.hid LB
  have HT3 := Lib.hid ht3
  have HMZ := Lib.hid hmz
  clear ht3 hmz
  have hQ4 := HQ4.out
  have hU4 := HU4.out
  have hA4 := HA4.out
  have hQl4 := hQ4.lt
  have hUl4 := hU4.lt
  have hAl4 := hA4.lt
  have q0 := hQ4.get 0 _
  have q1 := hQ4.get 1 _
  have q2 := hQ4.get 2 _
  have q3 := hQ4.get 3 _
  have q4 := hQ4.get 4 _
  have q5 := hQ4.get 5 _
  have q6 := hQ4.get 6 _
  have q7 := hQ4.get 7 _
  have q8 := hQ4.get 8 _
  have q9 := hQ4.get 9 _
  have q10 := hQ4.get 10 _
  have q11 := hQ4.get 11 _
  have q12 := hQ4.get 12 _
  have q13 := hQ4.get 13 _
  have u0 := hU4.get 0 _
  have u1 := hU4.get 1 _
  have u2 := hU4.get 2 _
  have u3 := hU4.get 3 _
  have u4 := hU4.get 4 _
  have u5 := hU4.get 5 _
  have u6 := hU4.get 6 _
  have u7 := hU4.get 7 _
  have u8 := hU4.get 8 _
  have u9 := hU4.get 9 _
  have u10 := hU4.get 10 _
  have u11 := hU4.get 11 _
  have u12 := hU4.get 12 _
  have u13 := hU4.get 13 _
  have a0 := hA4.get 0 _
  have a1 := hA4.get 1 _
  have a2 := hA4.get 2 _
  have a3 := hA4.get 3 _
  clear hQ4 hU4 hA4
  go_wp2_with fail
  refine (TU1.out).mono ?_
  rintro e w7 ⟨⟨xid, xreply, xop, xauth, xtrunc, xwant, xavail, xcd, xqn, xqt, X1, xn1, xc1, x1, X2, xn2, xc2, x2, X3, xn3, xc3, x3, xz⟩, rfl, hs7, hh7, -, hb7'⟩
  dsimp only
  have hb7 := below_trans HB4.out HB4.out.size hb7'
  have hb7a := hb7.alloc hb7.size (.cells #[.int .u16 xid, .bool xreply, .int .i64 xop, .bool xauth, .bool xtrunc, .bool xwant, .bool xavail, .int .i64 xcd, .string xqn, .int .u16 xqt, .slice X1 xn1 xc1, .slice X2 xn2 xc2, .slice X3 xn3 xc3, .int .i64 xz] 31)
  have hQ7 := (HQ4.out.below hb7').alloc (.cells #[.int .u16 xid, .bool xreply, .int .i64 xop, .bool xauth, .bool xtrunc, .bool xwant, .bool xavail, .int .i64 xcd, .string xqn, .int .u16 xqt, .slice X1 xn1 xc1, .slice X2 xn2 xc2, .slice X3 xn3 xc3, .int .i64 xz] 31)
  have hU7 := (HU4.out.below hb7').alloc (.cells #[.int .u16 xid, .bool xreply, .int .i64 xop, .bool xauth, .bool xtrunc, .bool xwant, .bool xavail, .int .i64 xcd, .string xqn, .int .u16 xqt, .slice X1 xn1 xc1, .slice X2 xn2 xc2, .slice X3 xn3 xc3, .int .i64 xz] 31)
  have hA7 := (HA4.out.below hb7').alloc (.cells #[.int .u16 xid, .bool xreply, .int .i64 xop, .bool xauth, .bool xtrunc, .bool xwant, .bool xavail, .int .i64 xcd, .string xqn, .int .u16 xqt, .slice X1 xn1 xc1, .slice X2 xn2 xc2, .slice X3 xn3 xc3, .int .i64 xz] 31)
  have hX7 := Cs.new w7 #[.int .u16 xid, .bool xreply, .int .i64 xop, .bool xauth, .bool xtrunc, .bool xwant, .bool xavail, .int .i64 xcd, .string xqn, .int .u16 xqt, .slice X1 xn1 xc1, .slice X2 xn2 xc2, .slice X3 xn3 xc3, .int .i64 xz] 31 [.int .u16 xid, .bool xreply, .int .i64 xop, .bool xauth, .bool xtrunc, .bool xwant, .bool xavail, .int .i64 xcd, .string xqn, .int .u16 xqt, .slice X1 xn1 xc1, .slice X2 xn2 xc2, .slice X3 xn3 xc3, .int .i64 xz]
  have hg7 := (HG4.out.below hb7').below ((Below.refl w7.heap.size w7).alloc (Nat.le_refl _) (.cells #[.int .u16 xid, .bool xreply, .int .i64 xop, .bool xauth, .bool xtrunc, .bool xwant, .bool xavail, .int .i64 xcd, .string xqn, .int .u16 xqt, .slice X1 xn1 xc1, .slice X2 xn2 xc2, .slice X3 xn3 xc3, .int .i64 xz] 31))
  have hh7a := hh7.below ((Below.refl w7.heap.size w7).alloc (Nat.le_refl _) (.cells #[.int .u16 xid, .bool xreply, .int .i64 xop, .bool xauth, .bool xtrunc, .bool xwant, .bool xavail, .int .i64 xcd, .string xqn, .int .u16 xqt, .slice X1 xn1 xc1, .slice X2 xn2 xc2, .slice X3 xn3 xc3, .int .i64 xz] 31))
  have hXq := (HQ4.out.below hb7').lt
  have hXu := (HU4.out.below hb7').lt
  have hXa := (HA4.out.below hb7').lt
  have HS := Lib.hid hs7
  clear q0 u0 q1 u1 q2 u2 q3 u3 q4 u4 q5 u5 q6 u6 q7 u7 q8 u8 q9 u9 q10 u10 q11 u11 q12 u12 q13 u13 a0 a1 a2 a3 hs7 hh7 TU1 hb7 hb7' HQ4 HU4 HA4 HG4 HB4
  go_upto_region 8 with fail
  have hXl := hX7.lt
  generalize hWX : w7.alloc (.cells #[.int .u16 xid, .bool xreply, .int .i64 xop, .bool xauth, .bool xtrunc, .bool xwant, .bool xavail, .int .i64 xcd, .string xqn, .int .u16 xqt, .slice X1 xn1 xc1, .slice X2 xn2 xc2, .slice X3 xn3 xc3, .int .i64 xz] 31) = W7 at *
  generalize hXB : w7.heap.size = XB at *
  clear hWX hXB
  have q0 := hQ7.get 0 _
  have q1 := hQ7.get 1 _
  have q2 := hQ7.get 2 _
  have q3 := hQ7.get 3 _
  have q4 := hQ7.get 4 _
  have q5 := hQ7.get 5 _
  have q6 := hQ7.get 6 _
  have q7 := hQ7.get 7 _
  have q8 := hQ7.get 8 _
  have q9 := hQ7.get 9 _
  have q10 := hQ7.get 10 _
  have q11 := hQ7.get 11 _
  have q12 := hQ7.get 12 _
  have q13 := hQ7.get 13 _
  have HB7 := Lib.hid hb7a
  have HG7 := Lib.hid hg7
  have HH7 := Lib.hid hh7a
  clear hb7a hg7 hh7a
  go_wp2_with fail
  refine (LB.out _).mono ?_
  rintro e w8 ⟨rfl, hb8'⟩
  have hb8 := below_trans HB7.out HB7.out.size hb8'
  have hQ8 := (hQ7.below hb8').alloc (.cells #[.int .u16 id, .bool true, .int .i64 op, .bool false, .bool false, .bool want, .bool true, .int .i64 0, .string N, .int .u16 T, .slice none 0 0, .slice none 0 0, .slice none 0 0, .int .i64 mz] 31)
  have hU8 := (hU7.below hb8').alloc (.cells #[.int .u16 id, .bool true, .int .i64 op, .bool false, .bool false, .bool want, .bool true, .int .i64 0, .string N, .int .u16 T, .slice none 0 0, .slice none 0 0, .slice none 0 0, .int .i64 mz] 31)
  have hA8 := (hA7.below hb8').alloc (.cells #[.int .u16 id, .bool true, .int .i64 op, .bool false, .bool false, .bool want, .bool true, .int .i64 0, .string N, .int .u16 T, .slice none 0 0, .slice none 0 0, .slice none 0 0, .int .i64 mz] 31)
  have hX8 := (hX7.below hb8').alloc (.cells #[.int .u16 id, .bool true, .int .i64 op, .bool false, .bool false, .bool want, .bool true, .int .i64 0, .string N, .int .u16 T, .slice none 0 0, .slice none 0 0, .slice none 0 0, .int .i64 mz] 31)
  have hT8 := Cs.new w8 #[.int .u16 id, .bool true, .int .i64 op, .bool false, .bool false, .bool want, .bool true, .int .i64 0, .string N, .int .u16 T, .slice none 0 0, .slice none 0 0, .slice none 0 0, .int .i64 mz] 31 [.int .u16 id, .bool true, .int .i64 op, .bool false, .bool false, .bool want, .bool true, .int .i64 0, .string N, .int .u16 T, .slice none 0 0, .slice none 0 0, .slice none 0 0, .int .i64 mz]
  have hTx := (hX7.below hb8').lt
  have h08 := HH7.out.below hb8'
  have hh8 := h08.below ((Below.refl w8.heap.size w8).alloc (Nat.le_refl _) (.cells #[.int .u16 id, .bool true, .int .i64 op, .bool false, .bool false, .bool want, .bool true, .int .i64 0, .string N, .int .u16 T, .slice none 0 0, .slice none 0 0, .slice none 0 0, .int .i64 mz] 31))
  have HG7o := HG7.out.below hb8'
  have hg8 := (HG7.out.below hb8').below ((Below.refl w8.heap.size w8).alloc (Nat.le_refl _) (.cells #[.int .u16 id, .bool true, .int .i64 op, .bool false, .bool false, .bool want, .bool true, .int .i64 0, .string N, .int .u16 T, .slice none 0 0, .slice none 0 0, .slice none 0 0, .int .i64 mz] 31))
  have hb8a := hb8.alloc hb8.size (.cells #[.int .u16 id, .bool true, .int .i64 op, .bool false, .bool false, .bool want, .bool true, .int .i64 0, .string N, .int .u16 T, .slice none 0 0, .slice none 0 0, .slice none 0 0, .int .i64 mz] 31)
  have hupu := UPU.out.below hb8a
  have hg08 := HG7o
  have hwT := hb8.size
  have hW8s : (w8.alloc (.cells #[.int .u16 id, .bool true, .int .i64 op, .bool false, .bool false, .bool want, .bool true, .int .i64 0, .string N, .int .u16 T, .slice none 0 0, .slice none 0 0, .slice none 0 0, .int .i64 mz] 31)).heap.size = w8.heap.size + 1 := by simp
  clear q0 q1 q2 q3 q4 q5 q6 q7 q8 q9 q10 q11 q12 q13 hQ7 hU7 hA7 hX7 HB7 HG7 HH7 hb8 hb8' LB
  go_upto_region 9 with fail
  have hTl := hT8.lt
  generalize hWT : w8.alloc (.cells #[.int .u16 id, .bool true, .int .i64 op, .bool false, .bool false, .bool want, .bool true, .int .i64 0, .string N, .int .u16 T, .slice none 0 0, .slice none 0 0, .slice none 0 0, .int .i64 mz] 31) = W8 at *
  generalize hTB : w8.heap.size = TB at *
  have hz8 := Nat.le_of_eq hTB
  clear hWT
  have a0 := hA8.get 0 _
  have HQ := Lib.hid hQ8
  have HU := Lib.hid hU8
  have HA := Lib.hid hA8
  have HX := Lib.hid hX8
  have HT := Lib.hid hT8
  have HH0 := Lib.hid h08
  have HH := Lib.hid hh8
  have HG := Lib.hid hg8
  have HB := Lib.hid hb8a
  have HZ := Lib.hid hz8
  have HUP := Lib.hid hupu
  have HUH := Lib.hid UPU.out.has
  have HUL := Lib.hid hwT
  have HW8 := Lib.hid hW8s
  have HG0 := Lib.hid hg08
  clear hQ8 hU8 hA8 hX8 hT8 h08 hh8 hg8 hb8a hz8 hTB hupu
  go_upto_block 0 with fail
  go_cut [] (fun wc => t3 = false ∧ ∃ wt : MsgT, Hid (Cs wc XB [.int .u16 xid, .bool xreply, .int .i64 xop, .bool xauth, .bool xtrunc, .bool xwant, .bool xavail, .int .i64 xcd, .string xqn, .int .u16 xqt, .slice X1 xn1 xc1, .slice X2 xn2 xc2, .slice X3 xn3 xc3, .int .i64 xz]) ∧ Hid (Cs wc TB wt.cells) ∧ Hid (MsgHas wc ⟨xid, xreply, xop, xauth, xtrunc, xwant, xavail, xcd, xqn, xqt, X1, xn1, xc1, x1, X2, xn2, xc2, x2, X3, xn3, xc3, x3, xz⟩) ∧ Hid (MsgHas wc wt) ∧ Hid (SameT ⟨xid, xreply, xop, xauth, xtrunc, xwant, xavail, xcd, xqn, xqt, X1, xn1, xc1, x1, X2, xn2, xc2, x2, X3, xn3, xc3, x3, xz⟩ wt) ∧ Hid (Below w.heap.size w wc))
  case first =>
    have hk := HKK.out
    have e3 : ((K : Int) == 3) = false := by rw [beq_eq_false_iff_ne]; omega
    have e4 : ((K : Int) == 4) = false := by rw [beq_eq_false_iff_ne]; omega
    have e5 : ((K : Int) == 5) = false := by rw [beq_eq_false_iff_ne]; omega
    have e6 : ((K : Int) == 6) = false := by rw [beq_eq_false_iff_ne]; omega
    have e7 : ((K : Int) == 7) = false := by rw [beq_eq_false_iff_ne]; omega
    have e8 : ((K : Int) == 8) = false := by rw [beq_eq_false_iff_ne]; omega
    have ht3 : t3 = false := by rw [← HT3.out]; exact e3
    subst ht3
    have hOF : ofT ⟨id, reply, op, auth, trunc, want, avail, cd, N, T, A1, n1, c1, r1, A2, n2, c2, r2, A3, n3, c3, r3, z⟩ ⟨uid, ureply, uop, uauth, utrunc, uwant, uavail, ucd, uqn, uqt, U1, un1, uc1, s1, U2, un2, uc2, s2, U3, un3, uc3, s3, uz⟩ (K : Int) s b rs tcp = MsgT.passT ⟨id, reply, op, auth, trunc, want, avail, cd, N, T, A1, n1, c1, r1, A2, n2, c2, r2, A3, n3, c3, r3, z⟩ ⟨uid, ureply, uop, uauth, utrunc, uwant, uavail, ucd, uqn, uqt, U1, un1, uc1, s1, U2, un2, uc2, s2, U3, un3, uc3, s3, uz⟩ := ofT_pass _ _ _ _ _ _ _ (by unfold chg; rw [e3, e4, e5, e7, e8, e6]; rfl)
    have PT := lpassed_tells ⟨id, reply, op, auth, trunc, want, avail, cd, N, T, A1, n1, c1, r1, A2, n2, c2, r2, A3, n3, c3, r3, z⟩ ⟨uid, ureply, uop, uauth, utrunc, uwant, uavail, ucd, uqn, uqt, U1, un1, uc1, s1, U2, un2, uc2, s2, U3, un3, uc3, s3, uz⟩ W8 HUC.out HUP.out.has HUP.out.d1 HUP.out.d2 HUP.out.d3 HUP.out.b1 HUP.out.b2 HUP.out.b3
    unfold TellsM at PT
    unfold MsgT.v at PT
    dsimp only at PT
    have PT := Lib.hid PT
    have hq := HQ.out
    have hu := HU.out
    have q0 := hq.get 0 _
    have q1 := hq.get 1 _
    have q2 := hq.get 2 _
    have q3 := hq.get 3 _
    have q4 := hq.get 4 _
    have q5 := hq.get 5 _
    have q6 := hq.get 6 _
    have q7 := hq.get 7 _
    have q8 := hq.get 8 _
    have q9 := hq.get 9 _
    have q10 := hq.get 10 _
    have q11 := hq.get 11 _
    have q12 := hq.get 12 _
    have q13 := hq.get 13 _
    have u0 := hu.get 0 _
    have u1 := hu.get 1 _
    have u2 := hu.get 2 _
    have u3 := hu.get 3 _
    have u4 := hu.get 4 _
    have u5 := hu.get 5 _
    have u6 := hu.get 6 _
    have u7 := hu.get 7 _
    have u8 := hu.get 8 _
    have u9 := hu.get 9 _
    have u10 := hu.get 10 _
    have u11 := hu.get 11 _
    have u12 := hu.get 12 _
    have u13 := hu.get 13 _
    have hxp := Lib.hid HX.out
    have htp := Lib.hid HT.out
    have hhp := Lib.hid HH.out
    have hbp := Lib.hid HB.out
    clear hq hu hk
    go_wp2_with fail
    refine PT.out.mono ?_
    rintro e w9 ⟨⟨yid, yreply, yop, yauth, ytrunc, ywant, yavail, ycd, yqn, yqt, Y1, yn1, yc1, y1, Y2, yn2, yc2, y2, Y3, yn3, yc3, y3, yz⟩, rfl, hs9, hh9, ho9, hb9'⟩
    dsimp only
    have HO9 := Lib.hid ho9
    have HS9 := Lib.hid hs9
    have HH9 := Lib.hid hh9
    have HB9 := Lib.hid (below_trans hbp.out hbp.out.size hb9')
    have hX9 := Lib.hid (hxp.out.below hb9')
    have hM9 := Lib.hid (hhp.out.below hb9')
    have hT9 := htp.out.below hb9'
    have hTw := htp.out.lt
    have t0 := hT9.get 0 _
    have t1 := hT9.get 1 _
    have t2 := hT9.get 2 _
    have t3 := hT9.get 3 _
    have t4 := hT9.get 4 _
    have t5 := hT9.get 5 _
    have t6 := hT9.get 6 _
    have t7 := hT9.get 7 _
    have t8 := hT9.get 8 _
    have t9 := hT9.get 9 _
    have t10 := hT9.get 10 _
    have t11 := hT9.get 11 _
    have t12 := hT9.get 12 _
    have t13 := hT9.get 13 _
    have f0 := hT9.froz 0 (by simp)
    have f1 := hT9.froz 1 (by simp)
    have f2 := hT9.froz 2 (by simp)
    have f3 := hT9.froz 3 (by simp)
    have f4 := hT9.froz 4 (by simp)
    have f5 := hT9.froz 5 (by simp)
    have f6 := hT9.froz 6 (by simp)
    have f7 := hT9.froz 7 (by simp)
    have f8 := hT9.froz 8 (by simp)
    have f9 := hT9.froz 9 (by simp)
    have f10 := hT9.froz 10 (by simp)
    have f11 := hT9.froz 11 (by simp)
    have f12 := hT9.froz 12 (by simp)
    have f13 := hT9.froz 13 (by simp)
    have HT9 := Lib.hid hT9
    clear hT9 hs9 hh9 ho9 hb9' PT q0 q1 q2 q3 q4 q5 q6 q7 q8 q9 q10 q11 q12 q13 u0 u1 u2 u3 u4 u5 u6 u7 u8 u9 u10 u11 u12 u13
    go_wp2_with fail
    go_meet
    refine ⟨trivial, ⟨yid, yreply, yop, yauth, ytrunc, ywant, yavail, ycd, yqn, yqt, Y1, yn1, yc1, y1, Y2, yn2, yc2, y2, Y3, yn3, yc3, y3, yz⟩, Lib.hid ?_, Lib.hid (HT9.out.all14 _ _ _ _ _ _ _ _ _ _ _ _ _ _), Lib.hid ?_, Lib.hid ?_, Lib.hid (by have q := HS.out; rw [hOF] at q; exact q.trans HS9.out.symm), Lib.hid ?_⟩
    · iterate 14 (refine Cs.other ?_ _ _ _ (by omega))
      exact hX9.out
    · iterate 14 (refine MsgHas.otherTop ?_ HH0.out _ _ _ HZ.out)
      exact hM9.out
    · iterate 14 (refine MsgHas.other ?_ HO9.out _ _ _ (by omega))
      exact HH9.out
    · iterate 14 (refine Below.setCell ?_ (by simp; omega) _)
      exact HB9.out
  case rest =>
  obtain ⟨rfl, wt, HXz, HTz, HHz, HWz, HSz, HBz⟩ := hcut
  obtain ⟨yid, yreply, yop, yauth, ytrunc, ywant, yavail, ycd, yqn, yqt, Y1, yn1, yc1, y1, Y2, yn2, yc2, y2, Y3, yn3, yc3, y3, yz⟩ := wt
  have SM := same_msgT ⟨xid, xreply, xop, xauth, xtrunc, xwant, xavail, xcd, xqn, xqt, X1, xn1, xc1, x1, X2, xn2, xc2, x2, X3, xn3, xc3, x3, xz⟩ ⟨yid, yreply, yop, yauth, ytrunc, ywant, yavail, ycd, yqn, yqt, Y1, yn1, yc1, y1, Y2, yn2, yc2, y2, Y3, yn3, yc3, y3, yz⟩ _ HHz.out HWz.out HSz.out
  unfold MsgT.v at SM
  dsimp only at SM
  have SM := Lib.hid SM
  have hXz := HXz.out
  have hTz := HTz.out
  unfold MsgT.cells at hTz
  dsimp only at hTz
  have m0 := hXz.get 0 _
  have m1 := hXz.get 1 _
  have m2 := hXz.get 2 _
  have m3 := hXz.get 3 _
  have m4 := hXz.get 4 _
  have m5 := hXz.get 5 _
  have m6 := hXz.get 6 _
  have m7 := hXz.get 7 _
  have m8 := hXz.get 8 _
  have m9 := hXz.get 9 _
  have m10 := hXz.get 10 _
  have m11 := hXz.get 11 _
  have m12 := hXz.get 12 _
  have m13 := hXz.get 13 _
  have k0 := hTz.get 0 _
  have k1 := hTz.get 1 _
  have k2 := hTz.get 2 _
  have k3 := hTz.get 3 _
  have k4 := hTz.get 4 _
  have k5 := hTz.get 5 _
  have k6 := hTz.get 6 _
  have k7 := hTz.get 7 _
  have k8 := hTz.get 8 _
  have k9 := hTz.get 9 _
  have k10 := hTz.get 10 _
  have k11 := hTz.get 11 _
  have k12 := hTz.get 12 _
  have k13 := hTz.get 13 _
  clear hXz hTz a0
  go_wp2_with fail
  refine SM.out.mono ?_
  rintro e wz ⟨rfl, hbz'⟩
  have hbz := below_trans HBz.out HBz.out.size hbz'
  go_wp2_with fail
  go_ret
  exact ⟨rfl, hbz⟩
set_option maxHeartbeats 3200000 in
theorem replyOf_walk (w : World) (q : MsgT) (hq : MsgOk w q) (bq1 : q.c1 ≤ 3518437208780) (bq2 : q.c2 ≤ 3518437208780) (bq3 : q.c3 ≤ 3518437208780) (bqn : q.qn.size ≤ 140737488351232) (u : MsgT) (hu : MsgOk w u) (bu1 : u.c1 ≤ 3518437208780) (bu2 : u.c2 ≤ 3518437208780) (bu3 : u.c3 ≤ 3518437208780) (bun : u.qn.size ≤ 140737488351232)
    (kd : Int) (hkd : (Lit.int .u8 kd).wf = true) (how : Int) (hhow : (Lit.int .u8 how).wf = true) (NA : Option Addr) (nn nc : Nat) (zs : List Int) (hV : SlView w NA nn nc (zs.map (Value.int .u8))) (hl : zs.length = nn) (hzw : ∀ z ∈ zs, (Lit.int .u8 z).wf = true) (hc : nc ≤ 140737488351232)
    (RA : Option Addr) (rn rc : Nat) (ds : List ActT) (hD : Acts5 w RA rn rc ds) (MA : Option Addr) (mn mc : Nat) (ms : List Int) (hM : SlView w MA mn mc (ms.map (Value.int .u8))) (hml : ms.length = mn) (hmw : ∀ z ∈ ms, (Lit.int .u8 z).wf = true) (hmc : mc ≤ 140737488351232) (tcp : Bool) :
    Calls Try.prog 5 #[q.v, u.v, .agg #[.int .u8 kd, .int .u8 how, .slice NA nn nc, .slice RA rn rc], .slice MA mn mc, .bool tcp] w fun e w' => e = .returned (.bool true) ∧ Below w.heap.size w w' := by
  have hk : kd.toNat % 10 = 3 ∨ kd.toNat % 10 = 4 ∨ kd.toNat % 10 = 5 ∨ kd.toNat % 10 = 6 ∨ kd.toNat % 10 = 7 ∨ kd.toNat % 10 = 8 ∨ (kd.toNat % 10 ≠ 3 ∧ kd.toNat % 10 ≠ 4 ∧ kd.toNat % 10 ≠ 5 ∧ kd.toNat % 10 ≠ 6 ∧ kd.toNat % 10 ≠ 7 ∧ kd.toNat % 10 ≠ 8) := by omega
  rcases hk with hk | hk | hk | hk | hk | hk | hk
  · exact replyOf_k3 w q hq bq1 bq2 bq3 bqn u hu bu1 bu2 bu3 bun kd hkd how hhow NA nn nc zs hV hl hzw hc RA rn rc ds hD MA mn mc ms hM hml hmw hmc tcp hk
  · exact replyOf_k4 w q hq bq1 bq2 bq3 bqn u hu bu1 bu2 bu3 bun kd hkd how hhow NA nn nc zs hV hl hzw hc RA rn rc ds hD MA mn mc ms hM hml hmw hmc tcp hk
  · exact replyOf_k5 w q hq bq1 bq2 bq3 bqn u hu bu1 bu2 bu3 bun kd hkd how hhow NA nn nc zs hV hl hzw hc RA rn rc ds hD MA mn mc ms hM hml hmw hmc tcp hk
  · exact replyOf_k6 w q hq bq1 bq2 bq3 bqn u hu bu1 bu2 bu3 bun kd hkd how hhow NA nn nc zs hV hl hzw hc RA rn rc ds hD MA mn mc ms hM hml hmw hmc tcp hk
  · exact replyOf_k7 w q hq bq1 bq2 bq3 bqn u hu bu1 bu2 bu3 bun kd hkd how hhow NA nn nc zs hV hl hzw hc RA rn rc ds hD MA mn mc ms hM hml hmw hmc tcp hk
  · exact replyOf_k8 w q hq bq1 bq2 bq3 bqn u hu bu1 bu2 bu3 bun kd hkd how hhow NA nn nc zs hV hl hzw hc RA rn rc ds hD MA mn mc ms hM hml hmw hmc tcp hk
  · exact replyOf_ko w q hq bq1 bq2 bq3 bqn u hu bu1 bu2 bu3 bun kd hkd how hhow NA nn nc zs hV hl hzw hc RA rn rc ds hD MA mn mc ms hM hml hmw hmc tcp hk
end Go.Proofs.Ytbjbppnjheaecaa
