/- The walk of ReplyOf: the first four kinds of actions. -/
import Derived.Test.YtbjbppnjheaecaaRepR
import Derived.Outline
import Derived.Deep.DeepCutAuto
import Derived.Deep.CutBlock
namespace Go.Proofs.Ytbjbppnjheaecaa
open Go.RowKit
set_option linter.unusedVariables false
set_option linter.unusedSimpArgs false
set_option maxRecDepth 20000
theorem Recs.otherTop {w w0 : World} {A : Option Addr} {rs : List RecT} (h : Recs w A rs) (h0 : Recs w0 A rs) (g j : Nat) (u : Value) (hg : w0.heap.size ≤ g) : Recs (w.setCell ⟨g, j, none⟩ u) A rs := by
  intro i r hr
  obtain ⟨b, off, rfl, hb, g0, g1, g2, g3⟩ := h i r hr
  obtain ⟨b', off', e, hb', -⟩ := h0 i r hr
  injection e with e; injection e with e1; subst e1
  have hne : b ≠ g := by omega
  refine ⟨b, off, rfl, by rw [show (w.setCell ⟨g, j, none⟩ u).heap.size = w.heap.size by simp]; exact hb, ?_, ?_, ?_, ?_⟩ <;> (refine (World.cell?_of_block (Below.heap_setCell w ⟨g, j, none⟩ u b hne)).trans ?_; assumption)
theorem MsgHas.otherTop {w w0 : World} {m : MsgT} (h : MsgHas w m) (h0 : MsgHas w0 m) (g j : Nat) (u : Value) (hg : w0.heap.size ≤ g) : MsgHas (w.setCell ⟨g, j, none⟩ u) m :=
  ⟨h.h1.otherTop h0.h1 _ _ _ hg, h.h2.otherTop h0.h2 _ _ _ hg, h.h3.otherTop h0.h3 _ _ _ hg, h.l1, h.l2, h.l3, h.x1, h.x2, h.x3⟩
/-- All cells of a message's block are written. -/
theorem Cs.all14 {w : World} {b : Nat} {v0 v1 v2 v3 v4 v5 v6 v7 v8 v9 v10 v11 v12 v13 : Value} (h : Cs w b [v0, v1, v2, v3, v4, v5, v6, v7, v8, v9, v10, v11, v12, v13]) (a0 a1 a2 a3 a4 a5 a6 a7 a8 a9 a10 a11 a12 a13 : Value) :
    Cs ((((((((((((((w.setCell ⟨b, 0, none⟩ a0).setCell ⟨b, 1, none⟩ a1).setCell ⟨b, 2, none⟩ a2).setCell ⟨b, 3, none⟩ a3).setCell ⟨b, 4, none⟩ a4).setCell ⟨b, 5, none⟩ a5).setCell ⟨b, 6, none⟩ a6).setCell ⟨b, 7, none⟩ a7).setCell ⟨b, 8, none⟩ a8).setCell ⟨b, 9, none⟩ a9).setCell ⟨b, 10, none⟩ a10).setCell ⟨b, 11, none⟩ a11).setCell ⟨b, 12, none⟩ a12).setCell ⟨b, 13, none⟩ a13) b [a0, a1, a2, a3, a4, a5, a6, a7, a8, a9, a10, a11, a12, a13] := by
  have q := (((((((((((((h.set' 0 a0 (by simp)).set' 1 a1 (by simp)).set' 2 a2 (by simp)).set' 3 a3 (by simp)).set' 4 a4 (by simp)).set' 5 a5 (by simp)).set' 6 a6 (by simp)).set' 7 a7 (by simp)).set' 8 a8 (by simp)).set' 9 a9 (by simp)).set' 10 a10 (by simp)).set' 11 a11 (by simp)).set' 12 a12 (by simp)).set' 13 a13 (by simp)
  simpa only [List.set_cons_succ, List.set_cons_zero] using q
theorem ActGood.otherC {w : World} {K : Nat} {s : ByteArray} {b : Bool} {X : Option Addr} {xn xc : Nat} {rs : List RecT} (h : ActGood w K s b X xn xc rs) (g j : Nat) (u : Value) (hg : ∀ b off, X = some ⟨b, off, none⟩ → b ≠ g) : ActGood (w.setCell ⟨g, j, none⟩ u) K s b X xn xc rs := ⟨h.lt, h.size, h.other, h.len, h.few, h.recs.other g j u hg⟩
theorem UpOk.otherTop {w w0 : World} {m : MsgT} (h : UpOk w m) (h0 : MsgHas w0 m) (g j : Nat) (u : Value) (hg : w0.heap.size ≤ g) : UpOk (w.setCell ⟨g, j, none⟩ u) m := ⟨h.has.otherTop h0 _ _ _ hg, h.d1, h.d2, h.d3, h.b1, h.b2, h.b3⟩
theorem Recs.belowC {w w0 wy : World} {C : Nat} {A : Option Addr} {rs : List RecT} (h : Recs w A rs) (h0 : Recs w0 A rs) (hb : Below C w wy) (hC : w0.heap.size ≤ C) : Recs wy A rs := by
  intro i r hr
  obtain ⟨b, off, rfl, hl, g0, g1, g2, g3⟩ := h i r hr
  obtain ⟨b2, off2, e, hl2, -⟩ := h0 i r hr
  injection e with e; injection e with e1; subst e1
  have hlt : b < C := by omega
  exact ⟨b, off, rfl, Nat.lt_of_lt_of_le hl hb.size, (hb.cell (p := ⟨b, _, none⟩) hlt).trans g0, (hb.cell (p := ⟨b, _, none⟩) hlt).trans g1, (hb.cell (p := ⟨b, _, none⟩) hlt).trans g2, (hb.cell (p := ⟨b, _, none⟩) hlt).trans g3⟩
theorem MsgHas.belowC {w w0 wy : World} {C : Nat} {m : MsgT} (h : MsgHas w m) (h0 : MsgHas w0 m) (hb : Below C w wy) (hC : w0.heap.size ≤ C) : MsgHas wy m := ⟨h.h1.belowC h0.h1 hb hC, h.h2.belowC h0.h2 hb hC, h.h3.belowC h0.h3 hb hC, h.l1, h.l2, h.l3, h.x1, h.x2, h.x3⟩
theorem Cs.belowC {w wy : World} {C b : Nat} {vs : List Value} (h : Cs w b vs) (hb : Below C w wy) (hC : b < C) : Cs wy b vs := h.block (hb.block b hC) hb.size
set_option maxHeartbeats 25600000 in
theorem replyOf_k3 (w : World) (q : MsgT) (hq : MsgOk w q) (bq1 : q.c1 ≤ 3518437208780) (bq2 : q.c2 ≤ 3518437208780) (bq3 : q.c3 ≤ 3518437208780) (bqn : q.qn.size ≤ 140737488351232) (u : MsgT) (hu : MsgOk w u) (bu1 : u.c1 ≤ 3518437208780) (bu2 : u.c2 ≤ 3518437208780) (bu3 : u.c3 ≤ 3518437208780) (bun : u.qn.size ≤ 140737488351232)
    (kd : Int) (hkd : (Lit.int .u8 kd).wf = true) (how : Int) (hhow : (Lit.int .u8 how).wf = true) (NA : Option Addr) (nn nc : Nat) (zs : List Int) (hV : SlView w NA nn nc (zs.map (Value.int .u8))) (hl : zs.length = nn) (hzw : ∀ z ∈ zs, (Lit.int .u8 z).wf = true) (hc : nc ≤ 140737488351232)
    (RA : Option Addr) (rn rc : Nat) (ds : List ActT) (hD : Acts5 w RA rn rc ds) (MA : Option Addr) (mn mc : Nat) (ms : List Int) (hM : SlView w MA mn mc (ms.map (Value.int .u8))) (hml : ms.length = mn) (hmw : ∀ z ∈ ms, (Lit.int .u8 z).wf = true) (hmc : mc ≤ 140737488351232) (tcp : Bool) (hKx : kd.toNat % 10 = 3) :
    Calls Try.prog 5 #[q.v, u.v, .agg #[.int .u8 kd, .int .u8 how, .slice NA nn nc, .slice RA rn rc], .slice MA mn mc, .bool tcp] w fun e w' => e = .returned (.bool true) ∧ Below w.heap.size w w' := by
  have hk' := u8_wf hkd
  have hh' := u8_wf hhow
  obtain ⟨kn, rfl⟩ : ∃ k : Nat, kd = k := ⟨kd.toNat, by omega⟩
  obtain ⟨hw, rfl⟩ : ∃ k : Nat, how = k := ⟨how.toNat, by omega⟩
  have hz : ∀ z ∈ zs, 0 ≤ z ∧ z < 256 := fun z h => u8_wf (hzw z h)
  have hmz' : ∀ z ∈ ms, 0 ≤ z ∧ z < 256 := fun z h => u8_wf (hmw z h)
  have CA := Lib.hid (fun (w' : World) (hx : Below w.heap.size w w') => choice_any kn (by omega) hw (by omega) NA nn nc zs RA rn rc ds w' ((hV.sl.below hx).more hx.size) hz (by have := hV.le; omega) (hD.at_.below hx) hD.most)
  have NM := fun (w' : World) (hx : Below w.heap.size w w') => name_any MA mn mc ms w' ((hM.sl.below hx).more hx.size) hmz' (by have := hM.le; unfold maxLen; omega)
  have hNl := nameZ_len ms hmz'
  unfold sv at NM
  obtain ⟨N, hN⟩ : ∃ N, ByteArray.mk (nameZ ms).toArray = N := ⟨_, rfl⟩
  rw [hN] at NM
  have NM := Lib.hid NM
  have HNS := Lib.hid (show N.size ≤ 84 by rw [← hN, mk_size]; exact hNl)
  have UPU := Lib.hid (hu.up bu1 bu2 bu3)
  have HUC := Lib.hid hu.code
  have AW := Lib.hid (fun w => awake21 w)
  obtain ⟨K, hK⟩ : ∃ K, kn % 10 = K := ⟨_, rfl⟩
  rw [hK] at CA
  obtain ⟨J, hJ⟩ : ∃ J, hw % 3 = J := ⟨_, rfl⟩
  obtain ⟨G, hG⟩ : ∃ G, hw % 4 = G := ⟨_, rfl⟩
  have hJt : (hw : Int).tmod 3 = (J : Int) := by rw [Int.tmod_eq_emod_of_nonneg (by omega)]; omega
  have hGt : (hw : Int).tmod 4 = (G : Int) := by rw [Int.tmod_eq_emod_of_nonneg (by omega)]; omega
  have hJ3 : J < 3 := by omega
  have HKK := Lib.hid (show K = 3 by rw [← hK]; simpa using hKx)
  clear hKx hkd hhow hV hzw hz hl hc hD hq hu bq1 bq2 bq3 bu1 bu2 bu3 bqn bun hk' hh' hK hJ hG hM hml hmw hmc hmz' hNl hN
  obtain ⟨id, reply, op, auth, trunc, want, avail, cd, qn, qt, A1, n1, c1, r1, A2, n2, c2, r2, A3, n3, c3, r3, z⟩ := q
  unfold MsgT.v at *
  obtain ⟨uid, ureply, uop, uauth, utrunc, uwant, uavail, ucd, uqn, uqt, U1, un1, uc1, s1, U2, un2, uc2, s2, U3, un3, uc3, s3, uz⟩ := u
  dsimp only at *
  have hQ := (((Cs.new w #[.int .u16 id, .bool reply, .int .i64 op, .bool auth, .bool trunc, .bool want, .bool avail, .int .i64 cd, .string qn, .int .u16 qt, .slice A1 n1 c1, .slice A2 n2 c2, .slice A3 n3 c3, .int .i64 z] 31 [.int .u16 id, .bool reply, .int .i64 op, .bool auth, .bool trunc, .bool want, .bool avail, .int .i64 cd, .string qn, .int .u16 qt, .slice A1 n1 c1, .slice A2 n2 c2, .slice A3 n3 c3, .int .i64 z]).alloc (.cells #[.int .u16 uid, .bool ureply, .int .i64 uop, .bool uauth, .bool utrunc, .bool uwant, .bool uavail, .int .i64 ucd, .string uqn, .int .u16 uqt, .slice U1 un1 uc1, .slice U2 un2 uc2, .slice U3 un3 uc3, .int .i64 uz] 31)).alloc (.cells #[.int .u8 (kn : Nat), .int .u8 (hw : Nat), .slice NA nn nc, .slice RA rn rc] 51))
  have hU := (((Cs.new (w.alloc (.cells #[.int .u16 id, .bool reply, .int .i64 op, .bool auth, .bool trunc, .bool want, .bool avail, .int .i64 cd, .string qn, .int .u16 qt, .slice A1 n1 c1, .slice A2 n2 c2, .slice A3 n3 c3, .int .i64 z] 31)) #[.int .u16 uid, .bool ureply, .int .i64 uop, .bool uauth, .bool utrunc, .bool uwant, .bool uavail, .int .i64 ucd, .string uqn, .int .u16 uqt, .slice U1 un1 uc1, .slice U2 un2 uc2, .slice U3 un3 uc3, .int .i64 uz] 31 [.int .u16 uid, .bool ureply, .int .i64 uop, .bool uauth, .bool utrunc, .bool uwant, .bool uavail, .int .i64 ucd, .string uqn, .int .u16 uqt, .slice U1 un1 uc1, .slice U2 un2 uc2, .slice U3 un3 uc3, .int .i64 uz]).at_ (w.heap.size + 1) (by simp)).alloc (.cells #[.int .u8 (kn : Nat), .int .u8 (hw : Nat), .slice NA nn nc, .slice RA rn rc] 51))
  have hC := (Cs.new ((w.alloc (.cells #[.int .u16 id, .bool reply, .int .i64 op, .bool auth, .bool trunc, .bool want, .bool avail, .int .i64 cd, .string qn, .int .u16 qt, .slice A1 n1 c1, .slice A2 n2 c2, .slice A3 n3 c3, .int .i64 z] 31)).alloc (.cells #[.int .u16 uid, .bool ureply, .int .i64 uop, .bool uauth, .bool utrunc, .bool uwant, .bool uavail, .int .i64 ucd, .string uqn, .int .u16 uqt, .slice U1 un1 uc1, .slice U2 un2 uc2, .slice U3 un3 uc3, .int .i64 uz] 31)) #[.int .u8 (kn : Nat), .int .u8 (hw : Nat), .slice NA nn nc, .slice RA rn rc] 51 [.int .u8 (kn : Nat), .int .u8 (hw : Nat), .slice NA nn nc, .slice RA rn rc]).at_ (w.heap.size + 1 + 1) (by simp)
  have hb0 := (((Below.refl w.heap.size w).alloc (Nat.le_refl _) (.cells #[.int .u16 id, .bool reply, .int .i64 op, .bool auth, .bool trunc, .bool want, .bool avail, .int .i64 cd, .string qn, .int .u16 qt, .slice A1 n1 c1, .slice A2 n2 c2, .slice A3 n3 c3, .int .i64 z] 31)).alloc (by simp) (.cells #[.int .u16 uid, .bool ureply, .int .i64 uop, .bool uauth, .bool utrunc, .bool uwant, .bool uavail, .int .i64 ucd, .string uqn, .int .u16 uqt, .slice U1 un1 uc1, .slice U2 un2 uc2, .slice U3 un3 uc3, .int .i64 uz] 31)).alloc (by simp; omega) (.cells #[.int .u8 (kn : Nat), .int .u8 (hw : Nat), .slice NA nn nc, .slice RA rn rc] 51)
  go_enter Try.func5, Try.ntmps5
  go_wp2_with fail
  refine (AW.out _).mono ?_
  rintro e w1 ⟨rfl, hb1'⟩
  have hb1 := below_trans hb0 hb0.size hb1'
  have hlt0 := (hQ.below hb1').lt
  have hQ1 := hQ.below hb1'
  have hU1 := hU.below hb1'
  have hC1 := hC.below hb1'
  have c0 := hC1.get 0 _
  have c1 := hC1.get 1 _
  have c2 := hC1.get 2 _
  have c3 := hC1.get 3 _
  clear hQ hU hC hb0 hb1' AW
  go_wp2_with fail
  refine (CA.out _ hb1).mono ?_
  rintro e w2 ⟨s, b, X, xn, xc, rs, rfl, ha, hoX, hb2'⟩
  have hb2 := below_trans hb1 hb1.size hb2'
  have hb2a := hb2.alloc hb2.size (.cells #[.int .i64 ((K : Nat) : Int), .string s, .bool b, .slice X xn xc] 54)
  have hQ2 := (hQ1.below hb2').alloc (.cells #[.int .i64 ((K : Nat) : Int), .string s, .bool b, .slice X xn xc] 54)
  have hU2 := (hU1.below hb2').alloc (.cells #[.int .i64 ((K : Nat) : Int), .string s, .bool b, .slice X xn xc] 54)
  have hC2 := (hC1.below hb2').alloc (.cells #[.int .i64 ((K : Nat) : Int), .string s, .bool b, .slice X xn xc] 54)
  have hA2 := Cs.new w2 #[.int .i64 ((K : Nat) : Int), .string s, .bool b, .slice X xn xc] 54 [.int .i64 ((K : Nat) : Int), .string s, .bool b, .slice X xn xc]
  have ha2 := ha.below ((Below.refl w2.heap.size w2).alloc (Nat.le_refl _) (.cells #[.int .i64 ((K : Nat) : Int), .string s, .bool b, .slice X xn xc] 54))
  have hlt2 := (hC1.below hb2').lt
  clear c0 c1 c2 c3 hQ1 hU1 hC1 hb2' hb2 hb1 CA ha
  go_upto_region 4 with fail
  generalize hWA : w2.alloc (.cells #[.int .i64 ((K : Nat) : Int), .string s, .bool b, .slice X xn xc] 54) = WA at *
  generalize hAB : w2.heap.size = AB at *
  clear hWA hAB
  go_wp2_with fail
  refine (NM.out _ hb2a).mono ?_
  rintro e w3 ⟨rfl, hb3'⟩
  have hb3 := below_trans hb2a hb2a.size hb3'
  have hQ3 := hQ2.below hb3'
  have q8 := hQ3.get 8 _
  have f8 := hQ3.froz 8 (by simp)
  have hQ3a := hQ3.set' 8 (.string N) (by simp)
  simp only [List.set_cons_succ, List.set_cons_zero] at hQ3a
  have hU3a := (hU2.below hb3').other w.heap.size 8 (.string N) (by omega)
  have hC3a := (hC2.below hb3').other w.heap.size 8 (.string N) (by omega)
  have hA3a := (hA2.below hb3').other w.heap.size 8 (.string N) (by omega)
  have hb3a := hb3.setCell (p := ⟨w.heap.size, 8, none⟩) (by simp) (.string N)
  have ha3 := (ha2.below hb3').otherC w.heap.size 8 (.string N) (fun b off e => by have := hoX b off e; have := hlt0; omega)
  clear hQ2 hU2 hC2 hA2 hb2a hb3 NM ha2
  go_upto_region 5 with fail
  generalize hW4 : w3.setCell ⟨w.heap.size, 8, none⟩ (.string N) = W4 at *
  have c1 := hC3a.get 1 _
  have HoX := Lib.hid hoX
  clear hW4 hQ3 q8 f8 hb3' hoX
  obtain ⟨t4, ht4⟩ : ∃ t, decide (0 < G) = t := ⟨_, rfl⟩
  go_cut [30] (fun v wc => v = .bool t4 ∧ wc = W4)
  case first =>
    go_wp2_with fail
    go_meet
    exact ⟨rfl, rfl⟩
  case rest =>
  obtain ⟨rfl, rfl⟩ := hcut
  clear c1 ht4
  rename_i Kx hKx Ky hKy
  refine hKy _ _ ?_
  go_cut [30] (fun v wc => v = .bool t4 ∧ ∃ T : Int, Hid (Cs wc w.heap.size [.int .u16 id, .bool reply, .int .i64 op, .bool auth, .bool trunc, .bool want, .bool avail, .int .i64 cd, .string N, .int .u16 T, .slice A1 n1 c1, .slice A2 n2 c2, .slice A3 n3 c3, .int .i64 z]) ∧ Hid (Cs wc (w.heap.size + 1) [.int .u16 uid, .bool ureply, .int .i64 uop, .bool uauth, .bool utrunc, .bool uwant, .bool uavail, .int .i64 ucd, .string uqn, .int .u16 uqt, .slice U1 un1 uc1, .slice U2 un2 uc2, .slice U3 un3 uc3, .int .i64 uz]) ∧ Hid (Cs wc AB [.int .i64 ((K : Nat) : Int), .string s, .bool b, .slice X xn xc]) ∧ Hid (ActGood wc K s b X xn xc rs) ∧ Hid (Below w.heap.size w wc))
  case first =>
    cases t4 with
    | false =>
      go_wp2_with fail
      go_meet
      exact ⟨rfl, qt, Lib.hid hQ3a, Lib.hid hU3a, Lib.hid hA3a, Lib.hid ha3, Lib.hid hb3a⟩
    | true =>
      have hJc : (J = 0 ∨ J = 1) ∨ J = 2 := by omega
      have hcw := (hC3a.alloc (.cells #[.int .u16 1, .int .u16 16, .int .u16 28] 26))
      rcases hJc with (h | h) | h
      · have hJ0 : (hw : Int).tmod 3 = 0 := by rw [hJt, h]; rfl
        clear hJt h
        have c1 := hcw.get 1 _
        have hQa := hQ3a.alloc (.cells #[.int .u16 1, .int .u16 16, .int .u16 28] 26)
        have q9 := hQa.get 9 _
        have f9 := hQa.froz 9 (by simp)
        have hQl := hQa.lt
        have hQb := hQa.set' 9 (.int .u16 1) (by simp)
        simp only [List.set_cons_succ, List.set_cons_zero] at hQb
        have HQb := Lib.hid hQb
        clear hQb
        go_wp2_with fail
        go_meet
        exact ⟨rfl, 1, HQb, Lib.hid ((hU3a.alloc _).other _ _ _ (by omega)), Lib.hid ((hA3a.alloc _).other _ _ _ (by omega)), Lib.hid ((ha3.below ((Below.refl wc.heap.size wc).alloc (Nat.le_refl _) _)).otherC _ _ _ (fun b off e => by have := HoX.out b off e; have := hlt0; omega)), Lib.hid ((hb3a.alloc hb3a.size _).setCell (by simp) _)⟩
      · have hJ0 : (hw : Int).tmod 3 = 1 := by rw [hJt, h]; rfl
        clear hJt h
        have c1 := hcw.get 1 _
        have hQa := hQ3a.alloc (.cells #[.int .u16 1, .int .u16 16, .int .u16 28] 26)
        have q9 := hQa.get 9 _
        have f9 := hQa.froz 9 (by simp)
        have hQl := hQa.lt
        have hQb := hQa.set' 9 (.int .u16 16) (by simp)
        simp only [List.set_cons_succ, List.set_cons_zero] at hQb
        have HQb := Lib.hid hQb
        clear hQb
        go_wp2_with fail
        go_meet
        exact ⟨rfl, 16, HQb, Lib.hid ((hU3a.alloc _).other _ _ _ (by omega)), Lib.hid ((hA3a.alloc _).other _ _ _ (by omega)), Lib.hid ((ha3.below ((Below.refl wc.heap.size wc).alloc (Nat.le_refl _) _)).otherC _ _ _ (fun b off e => by have := HoX.out b off e; have := hlt0; omega)), Lib.hid ((hb3a.alloc hb3a.size _).setCell (by simp) _)⟩
      · have hJ0 : (hw : Int).tmod 3 = 2 := by rw [hJt, h]; rfl
        clear hJt h
        have c1 := hcw.get 1 _
        have hQa := hQ3a.alloc (.cells #[.int .u16 1, .int .u16 16, .int .u16 28] 26)
        have q9 := hQa.get 9 _
        have f9 := hQa.froz 9 (by simp)
        have hQl := hQa.lt
        have hQb := hQa.set' 9 (.int .u16 28) (by simp)
        simp only [List.set_cons_succ, List.set_cons_zero] at hQb
        have HQb := Lib.hid hQb
        clear hQb
        go_wp2_with fail
        go_meet
        exact ⟨rfl, 28, HQb, Lib.hid ((hU3a.alloc _).other _ _ _ (by omega)), Lib.hid ((hA3a.alloc _).other _ _ _ (by omega)), Lib.hid ((ha3.below ((Below.refl wc.heap.size wc).alloc (Nat.le_refl _) _)).otherC _ _ _ (fun b off e => by have := HoX.out b off e; have := hlt0; omega)), Lib.hid ((hb3a.alloc hb3a.size _).setCell (by simp) _)⟩
  case rest =>
  obtain ⟨rfl, T, HQ4, HU4, HA4, HG4, HB4⟩ := hcut
  clear hQ3a hU3a hC3a hA3a ha3 hb3a hJt hGt
  refine hKx _ _ ?_
  have TU1 := of_any ⟨id, reply, op, auth, trunc, want, avail, cd, N, T, A1, n1, c1, r1, A2, n2, c2, r2, A3, n3, c3, r3, z⟩ ⟨uid, ureply, uop, uauth, utrunc, uwant, uavail, ucd, uqn, uqt, U1, un1, uc1, s1, U2, un2, uc2, s2, U3, un3, uc3, s3, uz⟩ K s b X xn xc rs tcp wc (UPU.out.below HB4.out) HG4.out (by have := HNS.out; show N.size ≤ _; omega)
  have LB := fun w => lbase_any ⟨id, reply, op, auth, trunc, want, avail, cd, N, T, A1, n1, c1, r1, A2, n2, c2, r2, A3, n3, c3, r3, z⟩ 0 w (by decide)
  unfold TellsB at TU1
  unfold MsgT.base at LB
  unfold MsgT.v at *
  dsimp only at TU1 LB
  rw [show (0 : Int) % 16 = 0 by decide] at LB
  obtain ⟨t3, ht3⟩ : ∃ t, ((K : Int) == 3) = t := ⟨_, rfl⟩
  rw [ht3] at TU1
  generalize hmz : minZ z = mz at *
  have TU1 := Lib.hid TU1
  have LB := Lib.hid LB
  have HT3 := Lib.hid ht3
  have HMZ := Lib.hid hmz
  clear ht3 hmz
  have hQ4 := HQ4.out
  have hU4 := HU4.out
  have hA4 := HA4.out
  have hQl4 := hQ4.lt
  have hUl4 := hU4.lt
  have hAl4 := hA4.lt
  have q0 := hQ4.get 0 _
  have q1 := hQ4.get 1 _
  have q2 := hQ4.get 2 _
  have q3 := hQ4.get 3 _
  have q4 := hQ4.get 4 _
  have q5 := hQ4.get 5 _
  have q6 := hQ4.get 6 _
  have q7 := hQ4.get 7 _
  have q8 := hQ4.get 8 _
  have q9 := hQ4.get 9 _
  have q10 := hQ4.get 10 _
  have q11 := hQ4.get 11 _
  have q12 := hQ4.get 12 _
  have q13 := hQ4.get 13 _
  have u0 := hU4.get 0 _
  have u1 := hU4.get 1 _
  have u2 := hU4.get 2 _
  have u3 := hU4.get 3 _
  have u4 := hU4.get 4 _
  have u5 := hU4.get 5 _
  have u6 := hU4.get 6 _
  have u7 := hU4.get 7 _
  have u8 := hU4.get 8 _
  have u9 := hU4.get 9 _
  have u10 := hU4.get 10 _
  have u11 := hU4.get 11 _
  have u12 := hU4.get 12 _
  have u13 := hU4.get 13 _
  have a0 := hA4.get 0 _
  have a1 := hA4.get 1 _
  have a2 := hA4.get 2 _
  have a3 := hA4.get 3 _
  clear hQ4 hU4 hA4
  go_wp2_with fail
  refine (TU1.out).mono ?_
  rintro e w7 ⟨⟨xid, xreply, xop, xauth, xtrunc, xwant, xavail, xcd, xqn, xqt, X1, xn1, xc1, x1, X2, xn2, xc2, x2, X3, xn3, xc3, x3, xz⟩, rfl, hs7, hh7, -, hb7'⟩
  dsimp only
  have hb7 := below_trans HB4.out HB4.out.size hb7'
  have hb7a := hb7.alloc hb7.size (.cells #[.int .u16 xid, .bool xreply, .int .i64 xop, .bool xauth, .bool xtrunc, .bool xwant, .bool xavail, .int .i64 xcd, .string xqn, .int .u16 xqt, .slice X1 xn1 xc1, .slice X2 xn2 xc2, .slice X3 xn3 xc3, .int .i64 xz] 31)
  have hQ7 := (HQ4.out.below hb7').alloc (.cells #[.int .u16 xid, .bool xreply, .int .i64 xop, .bool xauth, .bool xtrunc, .bool xwant, .bool xavail, .int .i64 xcd, .string xqn, .int .u16 xqt, .slice X1 xn1 xc1, .slice X2 xn2 xc2, .slice X3 xn3 xc3, .int .i64 xz] 31)
  have hU7 := (HU4.out.below hb7').alloc (.cells #[.int .u16 xid, .bool xreply, .int .i64 xop, .bool xauth, .bool xtrunc, .bool xwant, .bool xavail, .int .i64 xcd, .string xqn, .int .u16 xqt, .slice X1 xn1 xc1, .slice X2 xn2 xc2, .slice X3 xn3 xc3, .int .i64 xz] 31)
  have hA7 := (HA4.out.below hb7').alloc (.cells #[.int .u16 xid, .bool xreply, .int .i64 xop, .bool xauth, .bool xtrunc, .bool xwant, .bool xavail, .int .i64 xcd, .string xqn, .int .u16 xqt, .slice X1 xn1 xc1, .slice X2 xn2 xc2, .slice X3 xn3 xc3, .int .i64 xz] 31)
  have hX7 := Cs.new w7 #[.int .u16 xid, .bool xreply, .int .i64 xop, .bool xauth, .bool xtrunc, .bool xwant, .bool xavail, .int .i64 xcd, .string xqn, .int .u16 xqt, .slice X1 xn1 xc1, .slice X2 xn2 xc2, .slice X3 xn3 xc3, .int .i64 xz] 31 [.int .u16 xid, .bool xreply, .int .i64 xop, .bool xauth, .bool xtrunc, .bool xwant, .bool xavail, .int .i64 xcd, .string xqn, .int .u16 xqt, .slice X1 xn1 xc1, .slice X2 xn2 xc2, .slice X3 xn3 xc3, .int .i64 xz]
  have hg7 := (HG4.out.below hb7').below ((Below.refl w7.heap.size w7).alloc (Nat.le_refl _) (.cells #[.int .u16 xid, .bool xreply, .int .i64 xop, .bool xauth, .bool xtrunc, .bool xwant, .bool xavail, .int .i64 xcd, .string xqn, .int .u16 xqt, .slice X1 xn1 xc1, .slice X2 xn2 xc2, .slice X3 xn3 xc3, .int .i64 xz] 31))
  have hh7a := hh7.below ((Below.refl w7.heap.size w7).alloc (Nat.le_refl _) (.cells #[.int .u16 xid, .bool xreply, .int .i64 xop, .bool xauth, .bool xtrunc, .bool xwant, .bool xavail, .int .i64 xcd, .string xqn, .int .u16 xqt, .slice X1 xn1 xc1, .slice X2 xn2 xc2, .slice X3 xn3 xc3, .int .i64 xz] 31))
  have hXq := (HQ4.out.below hb7').lt
  have hXu := (HU4.out.below hb7').lt
  have hXa := (HA4.out.below hb7').lt
  have HS := Lib.hid hs7
  clear q0 u0 q1 u1 q2 u2 q3 u3 q4 u4 q5 u5 q6 u6 q7 u7 q8 u8 q9 u9 q10 u10 q11 u11 q12 u12 q13 u13 a0 a1 a2 a3 hs7 hh7 TU1 hb7 hb7' HQ4 HU4 HA4 HG4 HB4
  go_upto_region 8 with fail
  have hXl := hX7.lt
  generalize hWX : w7.alloc (.cells #[.int .u16 xid, .bool xreply, .int .i64 xop, .bool xauth, .bool xtrunc, .bool xwant, .bool xavail, .int .i64 xcd, .string xqn, .int .u16 xqt, .slice X1 xn1 xc1, .slice X2 xn2 xc2, .slice X3 xn3 xc3, .int .i64 xz] 31) = W7 at *
  generalize hXB : w7.heap.size = XB at *
  clear hWX hXB
  have q0 := hQ7.get 0 _
  have q1 := hQ7.get 1 _
  have q2 := hQ7.get 2 _
  have q3 := hQ7.get 3 _
  have q4 := hQ7.get 4 _
  have q5 := hQ7.get 5 _
  have q6 := hQ7.get 6 _
  have q7 := hQ7.get 7 _
  have q8 := hQ7.get 8 _
  have q9 := hQ7.get 9 _
  have q10 := hQ7.get 10 _
  have q11 := hQ7.get 11 _
  have q12 := hQ7.get 12 _
  have q13 := hQ7.get 13 _
  have HB7 := Lib.hid hb7a
  have HG7 := Lib.hid hg7
  have HH7 := Lib.hid hh7a
  clear hb7a hg7 hh7a
  go_wp2_with fail
  refine (LB.out _).mono ?_
  rintro e w8 ⟨rfl, hb8'⟩
  have hb8 := below_trans HB7.out HB7.out.size hb8'
  have hQ8 := (hQ7.below hb8').alloc (.cells #[.int .u16 id, .bool true, .int .i64 op, .bool false, .bool false, .bool want, .bool true, .int .i64 0, .string N, .int .u16 T, .slice none 0 0, .slice none 0 0, .slice none 0 0, .int .i64 mz] 31)
  have hU8 := (hU7.below hb8').alloc (.cells #[.int .u16 id, .bool true, .int .i64 op, .bool false, .bool false, .bool want, .bool true, .int .i64 0, .string N, .int .u16 T, .slice none 0 0, .slice none 0 0, .slice none 0 0, .int .i64 mz] 31)
  have hA8 := (hA7.below hb8').alloc (.cells #[.int .u16 id, .bool true, .int .i64 op, .bool false, .bool false, .bool want, .bool true, .int .i64 0, .string N, .int .u16 T, .slice none 0 0, .slice none 0 0, .slice none 0 0, .int .i64 mz] 31)
  have hX8 := (hX7.below hb8').alloc (.cells #[.int .u16 id, .bool true, .int .i64 op, .bool false, .bool false, .bool want, .bool true, .int .i64 0, .string N, .int .u16 T, .slice none 0 0, .slice none 0 0, .slice none 0 0, .int .i64 mz] 31)
  have hT8 := Cs.new w8 #[.int .u16 id, .bool true, .int .i64 op, .bool false, .bool false, .bool want, .bool true, .int .i64 0, .string N, .int .u16 T, .slice none 0 0, .slice none 0 0, .slice none 0 0, .int .i64 mz] 31 [.int .u16 id, .bool true, .int .i64 op, .bool false, .bool false, .bool want, .bool true, .int .i64 0, .string N, .int .u16 T, .slice none 0 0, .slice none 0 0, .slice none 0 0, .int .i64 mz]
  have hTx := (hX7.below hb8').lt
  have h08 := HH7.out.below hb8'
  have hh8 := h08.below ((Below.refl w8.heap.size w8).alloc (Nat.le_refl _) (.cells #[.int .u16 id, .bool true, .int .i64 op, .bool false, .bool false, .bool want, .bool true, .int .i64 0, .string N, .int .u16 T, .slice none 0 0, .slice none 0 0, .slice none 0 0, .int .i64 mz] 31))
  have HG7o := HG7.out.below hb8'
  have hg8 := (HG7.out.below hb8').below ((Below.refl w8.heap.size w8).alloc (Nat.le_refl _) (.cells #[.int .u16 id, .bool true, .int .i64 op, .bool false, .bool false, .bool want, .bool true, .int .i64 0, .string N, .int .u16 T, .slice none 0 0, .slice none 0 0, .slice none 0 0, .int .i64 mz] 31))
  have hb8a := hb8.alloc hb8.size (.cells #[.int .u16 id, .bool true, .int .i64 op, .bool false, .bool false, .bool want, .bool true, .int .i64 0, .string N, .int .u16 T, .slice none 0 0, .slice none 0 0, .slice none 0 0, .int .i64 mz] 31)
  have hupu := UPU.out.below hb8a
  have hg08 := HG7o
  have hwT := hb8.size
  have hW8s : (w8.alloc (.cells #[.int .u16 id, .bool true, .int .i64 op, .bool false, .bool false, .bool want, .bool true, .int .i64 0, .string N, .int .u16 T, .slice none 0 0, .slice none 0 0, .slice none 0 0, .int .i64 mz] 31)).heap.size = w8.heap.size + 1 := by simp
  clear q0 q1 q2 q3 q4 q5 q6 q7 q8 q9 q10 q11 q12 q13 hQ7 hU7 hA7 hX7 HB7 HG7 HH7 hb8 hb8' LB
  go_upto_region 9 with fail
  have hTl := hT8.lt
  generalize hWT : w8.alloc (.cells #[.int .u16 id, .bool true, .int .i64 op, .bool false, .bool false, .bool want, .bool true, .int .i64 0, .string N, .int .u16 T, .slice none 0 0, .slice none 0 0, .slice none 0 0, .int .i64 mz] 31) = W8 at *
  generalize hTB : w8.heap.size = TB at *
  have hz8 := Nat.le_of_eq hTB
  clear hWT
  have a0 := hA8.get 0 _
  have HQ := Lib.hid hQ8
  have HU := Lib.hid hU8
  have HA := Lib.hid hA8
  have HX := Lib.hid hX8
  have HT := Lib.hid hT8
  have HH0 := Lib.hid h08
  have HH := Lib.hid hh8
  have HG := Lib.hid hg8
  have HB := Lib.hid hb8a
  have HZ := Lib.hid hz8
  have HUP := Lib.hid hupu
  have HUH := Lib.hid UPU.out.has
  have HUL := Lib.hid hwT
  have HW8 := Lib.hid hW8s
  have HG0 := Lib.hid hg08
  clear hQ8 hU8 hA8 hX8 hT8 h08 hh8 hg8 hb8a hz8 hTB hupu
  go_upto_block 0 with fail
  go_cut [] (fun wc => t3 = false ∧ ∃ wt : MsgT, Hid (Cs wc XB [.int .u16 xid, .bool xreply, .int .i64 xop, .bool xauth, .bool xtrunc, .bool xwant, .bool xavail, .int .i64 xcd, .string xqn, .int .u16 xqt, .slice X1 xn1 xc1, .slice X2 xn2 xc2, .slice X3 xn3 xc3, .int .i64 xz]) ∧ Hid (Cs wc TB wt.cells) ∧ Hid (MsgHas wc ⟨xid, xreply, xop, xauth, xtrunc, xwant, xavail, xcd, xqn, xqt, X1, xn1, xc1, x1, X2, xn2, xc2, x2, X3, xn3, xc3, x3, xz⟩) ∧ Hid (MsgHas wc wt) ∧ Hid (SameT ⟨xid, xreply, xop, xauth, xtrunc, xwant, xavail, xcd, xqn, xqt, X1, xn1, xc1, x1, X2, xn2, xc2, x2, X3, xn3, xc3, x3, xz⟩ wt) ∧ Hid (Below w.heap.size w wc))
  case first =>
    have hk := HKK.out
    have e3 : ((K : Int) == 3) = true := by rw [beq_iff_eq]; omega
    have ht3 : t3 = true := by rw [← HT3.out]; exact e3
    have hOF : ofT ⟨id, reply, op, auth, trunc, want, avail, cd, N, T, A1, n1, c1, r1, A2, n2, c2, r2, A3, n3, c3, r3, z⟩ ⟨uid, ureply, uop, uauth, utrunc, uwant, uavail, ucd, uqn, uqt, U1, un1, uc1, s1, U2, un2, uc2, s2, U3, un3, uc3, s3, uz⟩ (K : Int) s b rs tcp = zeroT := by unfold ofT; rw [if_pos (by omega)]
    have SM := same_msgT ⟨xid, xreply, xop, xauth, xtrunc, xwant, xavail, xcd, xqn, xqt, X1, xn1, xc1, x1, X2, xn2, xc2, x2, X3, xn3, xc3, x3, xz⟩ zeroT W8 HH.out ⟨Recs.nil _ _, Recs.nil _ _, Recs.nil _ _, rfl, rfl, rfl, Nat.zero_le _, Nat.zero_le _, Nat.zero_le _⟩ (by have q := HS.out; rw [hOF] at q; exact q)
    unfold MsgT.v zeroT at SM
    dsimp only at SM
    have SM := Lib.hid SM
    subst ht3
    have hX := HX.out
    have m0 := hX.get 0 _
    have m1 := hX.get 1 _
    have m2 := hX.get 2 _
    have m3 := hX.get 3 _
    have m4 := hX.get 4 _
    have m5 := hX.get 5 _
    have m6 := hX.get 6 _
    have m7 := hX.get 7 _
    have m8 := hX.get 8 _
    have m9 := hX.get 9 _
    have m10 := hX.get 10 _
    have m11 := hX.get 11 _
    have m12 := hX.get 12 _
    have m13 := hX.get 13 _
    clear hOF hX hk
    go_wp2_with fail
    refine SM.out.mono ?_
    rintro e wz ⟨rfl, hbz'⟩
    have hbz := below_trans HB.out HB.out.size hbz'
    go_wp2_with fail
    go_ret
    exact ⟨rfl, hbz⟩
  case rest =>
  obtain ⟨rfl, wt, HXz, HTz, HHz, HWz, HSz, HBz⟩ := hcut
  obtain ⟨yid, yreply, yop, yauth, ytrunc, ywant, yavail, ycd, yqn, yqt, Y1, yn1, yc1, y1, Y2, yn2, yc2, y2, Y3, yn3, yc3, y3, yz⟩ := wt
  have SM := same_msgT ⟨xid, xreply, xop, xauth, xtrunc, xwant, xavail, xcd, xqn, xqt, X1, xn1, xc1, x1, X2, xn2, xc2, x2, X3, xn3, xc3, x3, xz⟩ ⟨yid, yreply, yop, yauth, ytrunc, ywant, yavail, ycd, yqn, yqt, Y1, yn1, yc1, y1, Y2, yn2, yc2, y2, Y3, yn3, yc3, y3, yz⟩ _ HHz.out HWz.out HSz.out
  unfold MsgT.v at SM
  dsimp only at SM
  have SM := Lib.hid SM
  have hXz := HXz.out
  have hTz := HTz.out
  unfold MsgT.cells at hTz
  dsimp only at hTz
  have m0 := hXz.get 0 _
  have m1 := hXz.get 1 _
  have m2 := hXz.get 2 _
  have m3 := hXz.get 3 _
  have m4 := hXz.get 4 _
  have m5 := hXz.get 5 _
  have m6 := hXz.get 6 _
  have m7 := hXz.get 7 _
  have m8 := hXz.get 8 _
  have m9 := hXz.get 9 _
  have m10 := hXz.get 10 _
  have m11 := hXz.get 11 _
  have m12 := hXz.get 12 _
  have m13 := hXz.get 13 _
  have k0 := hTz.get 0 _
  have k1 := hTz.get 1 _
  have k2 := hTz.get 2 _
  have k3 := hTz.get 3 _
  have k4 := hTz.get 4 _
  have k5 := hTz.get 5 _
  have k6 := hTz.get 6 _
  have k7 := hTz.get 7 _
  have k8 := hTz.get 8 _
  have k9 := hTz.get 9 _
  have k10 := hTz.get 10 _
  have k11 := hTz.get 11 _
  have k12 := hTz.get 12 _
  have k13 := hTz.get 13 _
  clear hXz hTz a0
  go_wp2_with fail
  refine SM.out.mono ?_
  rintro e wz ⟨rfl, hbz'⟩
  have hbz := below_trans HBz.out HBz.out.size hbz'
  go_wp2_with fail
  go_ret
  exact ⟨rfl, hbz⟩
set_option maxHeartbeats 25600000 in
theorem replyOf_k4 (w : World) (q : MsgT) (hq : MsgOk w q) (bq1 : q.c1 ≤ 3518437208780) (bq2 : q.c2 ≤ 3518437208780) (bq3 : q.c3 ≤ 3518437208780) (bqn : q.qn.size ≤ 140737488351232) (u : MsgT) (hu : MsgOk w u) (bu1 : u.c1 ≤ 3518437208780) (bu2 : u.c2 ≤ 3518437208780) (bu3 : u.c3 ≤ 3518437208780) (bun : u.qn.size ≤ 140737488351232)
    (kd : Int) (hkd : (Lit.int .u8 kd).wf = true) (how : Int) (hhow : (Lit.int .u8 how).wf = true) (NA : Option Addr) (nn nc : Nat) (zs : List Int) (hV : SlView w NA nn nc (zs.map (Value.int .u8))) (hl : zs.length = nn) (hzw : ∀ z ∈ zs, (Lit.int .u8 z).wf = true) (hc : nc ≤ 140737488351232)
    (RA : Option Addr) (rn rc : Nat) (ds : List ActT) (hD : Acts5 w RA rn rc ds) (MA : Option Addr) (mn mc : Nat) (ms : List Int) (hM : SlView w MA mn mc (ms.map (Value.int .u8))) (hml : ms.length = mn) (hmw : ∀ z ∈ ms, (Lit.int .u8 z).wf = true) (hmc : mc ≤ 140737488351232) (tcp : Bool) (hKx : kd.toNat % 10 = 4) :
    Calls Try.prog 5 #[q.v, u.v, .agg #[.int .u8 kd, .int .u8 how, .slice NA nn nc, .slice RA rn rc], .slice MA mn mc, .bool tcp] w fun e w' => e = .returned (.bool true) ∧ Below w.heap.size w w' := by
  have hk' := u8_wf hkd
  have hh' := u8_wf hhow
  obtain ⟨kn, rfl⟩ : ∃ k : Nat, kd = k := ⟨kd.toNat, by omega⟩
  obtain ⟨hw, rfl⟩ : ∃ k : Nat, how = k := ⟨how.toNat, by omega⟩
  have hz : ∀ z ∈ zs, 0 ≤ z ∧ z < 256 := fun z h => u8_wf (hzw z h)
  have hmz' : ∀ z ∈ ms, 0 ≤ z ∧ z < 256 := fun z h => u8_wf (hmw z h)
  have CA := Lib.hid (fun (w' : World) (hx : Below w.heap.size w w') => choice_any kn (by omega) hw (by omega) NA nn nc zs RA rn rc ds w' ((hV.sl.below hx).more hx.size) hz (by have := hV.le; omega) (hD.at_.below hx) hD.most)
  have NM := fun (w' : World) (hx : Below w.heap.size w w') => name_any MA mn mc ms w' ((hM.sl.below hx).more hx.size) hmz' (by have := hM.le; unfold maxLen; omega)
  have hNl := nameZ_len ms hmz'
  unfold sv at NM
  obtain ⟨N, hN⟩ : ∃ N, ByteArray.mk (nameZ ms).toArray = N := ⟨_, rfl⟩
  rw [hN] at NM
  have NM := Lib.hid NM
  have HNS := Lib.hid (show N.size ≤ 84 by rw [← hN, mk_size]; exact hNl)
  have UPU := Lib.hid (hu.up bu1 bu2 bu3)
  have HUC := Lib.hid hu.code
  have AW := Lib.hid (fun w => awake21 w)
  obtain ⟨K, hK⟩ : ∃ K, kn % 10 = K := ⟨_, rfl⟩
  rw [hK] at CA
  obtain ⟨J, hJ⟩ : ∃ J, hw % 3 = J := ⟨_, rfl⟩
  obtain ⟨G, hG⟩ : ∃ G, hw % 4 = G := ⟨_, rfl⟩
  have hJt : (hw : Int).tmod 3 = (J : Int) := by rw [Int.tmod_eq_emod_of_nonneg (by omega)]; omega
  have hGt : (hw : Int).tmod 4 = (G : Int) := by rw [Int.tmod_eq_emod_of_nonneg (by omega)]; omega
  have hJ3 : J < 3 := by omega
  have HKK := Lib.hid (show K = 4 by rw [← hK]; simpa using hKx)
  clear hKx hkd hhow hV hzw hz hl hc hD hq hu bq1 bq2 bq3 bu1 bu2 bu3 bqn bun hk' hh' hK hJ hG hM hml hmw hmc hmz' hNl hN
  obtain ⟨id, reply, op, auth, trunc, want, avail, cd, qn, qt, A1, n1, c1, r1, A2, n2, c2, r2, A3, n3, c3, r3, z⟩ := q
  unfold MsgT.v at *
  obtain ⟨uid, ureply, uop, uauth, utrunc, uwant, uavail, ucd, uqn, uqt, U1, un1, uc1, s1, U2, un2, uc2, s2, U3, un3, uc3, s3, uz⟩ := u
  dsimp only at *
  have hQ := (((Cs.new w #[.int .u16 id, .bool reply, .int .i64 op, .bool auth, .bool trunc, .bool want, .bool avail, .int .i64 cd, .string qn, .int .u16 qt, .slice A1 n1 c1, .slice A2 n2 c2, .slice A3 n3 c3, .int .i64 z] 31 [.int .u16 id, .bool reply, .int .i64 op, .bool auth, .bool trunc, .bool want, .bool avail, .int .i64 cd, .string qn, .int .u16 qt, .slice A1 n1 c1, .slice A2 n2 c2, .slice A3 n3 c3, .int .i64 z]).alloc (.cells #[.int .u16 uid, .bool ureply, .int .i64 uop, .bool uauth, .bool utrunc, .bool uwant, .bool uavail, .int .i64 ucd, .string uqn, .int .u16 uqt, .slice U1 un1 uc1, .slice U2 un2 uc2, .slice U3 un3 uc3, .int .i64 uz] 31)).alloc (.cells #[.int .u8 (kn : Nat), .int .u8 (hw : Nat), .slice NA nn nc, .slice RA rn rc] 51))
  have hU := (((Cs.new (w.alloc (.cells #[.int .u16 id, .bool reply, .int .i64 op, .bool auth, .bool trunc, .bool want, .bool avail, .int .i64 cd, .string qn, .int .u16 qt, .slice A1 n1 c1, .slice A2 n2 c2, .slice A3 n3 c3, .int .i64 z] 31)) #[.int .u16 uid, .bool ureply, .int .i64 uop, .bool uauth, .bool utrunc, .bool uwant, .bool uavail, .int .i64 ucd, .string uqn, .int .u16 uqt, .slice U1 un1 uc1, .slice U2 un2 uc2, .slice U3 un3 uc3, .int .i64 uz] 31 [.int .u16 uid, .bool ureply, .int .i64 uop, .bool uauth, .bool utrunc, .bool uwant, .bool uavail, .int .i64 ucd, .string uqn, .int .u16 uqt, .slice U1 un1 uc1, .slice U2 un2 uc2, .slice U3 un3 uc3, .int .i64 uz]).at_ (w.heap.size + 1) (by simp)).alloc (.cells #[.int .u8 (kn : Nat), .int .u8 (hw : Nat), .slice NA nn nc, .slice RA rn rc] 51))
  have hC := (Cs.new ((w.alloc (.cells #[.int .u16 id, .bool reply, .int .i64 op, .bool auth, .bool trunc, .bool want, .bool avail, .int .i64 cd, .string qn, .int .u16 qt, .slice A1 n1 c1, .slice A2 n2 c2, .slice A3 n3 c3, .int .i64 z] 31)).alloc (.cells #[.int .u16 uid, .bool ureply, .int .i64 uop, .bool uauth, .bool utrunc, .bool uwant, .bool uavail, .int .i64 ucd, .string uqn, .int .u16 uqt, .slice U1 un1 uc1, .slice U2 un2 uc2, .slice U3 un3 uc3, .int .i64 uz] 31)) #[.int .u8 (kn : Nat), .int .u8 (hw : Nat), .slice NA nn nc, .slice RA rn rc] 51 [.int .u8 (kn : Nat), .int .u8 (hw : Nat), .slice NA nn nc, .slice RA rn rc]).at_ (w.heap.size + 1 + 1) (by simp)
  have hb0 := (((Below.refl w.heap.size w).alloc (Nat.le_refl _) (.cells #[.int .u16 id, .bool reply, .int .i64 op, .bool auth, .bool trunc, .bool want, .bool avail, .int .i64 cd, .string qn, .int .u16 qt, .slice A1 n1 c1, .slice A2 n2 c2, .slice A3 n3 c3, .int .i64 z] 31)).alloc (by simp) (.cells #[.int .u16 uid, .bool ureply, .int .i64 uop, .bool uauth, .bool utrunc, .bool uwant, .bool uavail, .int .i64 ucd, .string uqn, .int .u16 uqt, .slice U1 un1 uc1, .slice U2 un2 uc2, .slice U3 un3 uc3, .int .i64 uz] 31)).alloc (by simp; omega) (.cells #[.int .u8 (kn : Nat), .int .u8 (hw : Nat), .slice NA nn nc, .slice RA rn rc] 51)
  go_enter Try.func5, Try.ntmps5
  go_wp2_with fail
  refine (AW.out _).mono ?_
  rintro e w1 ⟨rfl, hb1'⟩
  have hb1 := below_trans hb0 hb0.size hb1'
  have hlt0 := (hQ.below hb1').lt
  have hQ1 := hQ.below hb1'
  have hU1 := hU.below hb1'
  have hC1 := hC.below hb1'
  have c0 := hC1.get 0 _
  have c1 := hC1.get 1 _
  have c2 := hC1.get 2 _
  have c3 := hC1.get 3 _
  clear hQ hU hC hb0 hb1' AW
  go_wp2_with fail
  refine (CA.out _ hb1).mono ?_
  rintro e w2 ⟨s, b, X, xn, xc, rs, rfl, ha, hoX, hb2'⟩
  have hb2 := below_trans hb1 hb1.size hb2'
  have hb2a := hb2.alloc hb2.size (.cells #[.int .i64 ((K : Nat) : Int), .string s, .bool b, .slice X xn xc] 54)
  have hQ2 := (hQ1.below hb2').alloc (.cells #[.int .i64 ((K : Nat) : Int), .string s, .bool b, .slice X xn xc] 54)
  have hU2 := (hU1.below hb2').alloc (.cells #[.int .i64 ((K : Nat) : Int), .string s, .bool b, .slice X xn xc] 54)
  have hC2 := (hC1.below hb2').alloc (.cells #[.int .i64 ((K : Nat) : Int), .string s, .bool b, .slice X xn xc] 54)
  have hA2 := Cs.new w2 #[.int .i64 ((K : Nat) : Int), .string s, .bool b, .slice X xn xc] 54 [.int .i64 ((K : Nat) : Int), .string s, .bool b, .slice X xn xc]
  have ha2 := ha.below ((Below.refl w2.heap.size w2).alloc (Nat.le_refl _) (.cells #[.int .i64 ((K : Nat) : Int), .string s, .bool b, .slice X xn xc] 54))
  have hlt2 := (hC1.below hb2').lt
  clear c0 c1 c2 c3 hQ1 hU1 hC1 hb2' hb2 hb1 CA ha
  go_upto_region 4 with fail
  generalize hWA : w2.alloc (.cells #[.int .i64 ((K : Nat) : Int), .string s, .bool b, .slice X xn xc] 54) = WA at *
  generalize hAB : w2.heap.size = AB at *
  clear hWA hAB
  go_wp2_with fail
  refine (NM.out _ hb2a).mono ?_
  rintro e w3 ⟨rfl, hb3'⟩
  have hb3 := below_trans hb2a hb2a.size hb3'
  have hQ3 := hQ2.below hb3'
  have q8 := hQ3.get 8 _
  have f8 := hQ3.froz 8 (by simp)
  have hQ3a := hQ3.set' 8 (.string N) (by simp)
  simp only [List.set_cons_succ, List.set_cons_zero] at hQ3a
  have hU3a := (hU2.below hb3').other w.heap.size 8 (.string N) (by omega)
  have hC3a := (hC2.below hb3').other w.heap.size 8 (.string N) (by omega)
  have hA3a := (hA2.below hb3').other w.heap.size 8 (.string N) (by omega)
  have hb3a := hb3.setCell (p := ⟨w.heap.size, 8, none⟩) (by simp) (.string N)
  have ha3 := (ha2.below hb3').otherC w.heap.size 8 (.string N) (fun b off e => by have := hoX b off e; have := hlt0; omega)
  clear hQ2 hU2 hC2 hA2 hb2a hb3 NM ha2
  go_upto_region 5 with fail
  generalize hW4 : w3.setCell ⟨w.heap.size, 8, none⟩ (.string N) = W4 at *
  have c1 := hC3a.get 1 _
  have HoX := Lib.hid hoX
  clear hW4 hQ3 q8 f8 hb3' hoX
  obtain ⟨t4, ht4⟩ : ∃ t, decide (0 < G) = t := ⟨_, rfl⟩
  go_cut [30] (fun v wc => v = .bool t4 ∧ wc = W4)
  case first =>
    go_wp2_with fail
    go_meet
    exact ⟨rfl, rfl⟩
  case rest =>
  obtain ⟨rfl, rfl⟩ := hcut
  clear c1 ht4
  rename_i Kx hKx Ky hKy
  refine hKy _ _ ?_
  go_cut [30] (fun v wc => v = .bool t4 ∧ ∃ T : Int, Hid (Cs wc w.heap.size [.int .u16 id, .bool reply, .int .i64 op, .bool auth, .bool trunc, .bool want, .bool avail, .int .i64 cd, .string N, .int .u16 T, .slice A1 n1 c1, .slice A2 n2 c2, .slice A3 n3 c3, .int .i64 z]) ∧ Hid (Cs wc (w.heap.size + 1) [.int .u16 uid, .bool ureply, .int .i64 uop, .bool uauth, .bool utrunc, .bool uwant, .bool uavail, .int .i64 ucd, .string uqn, .int .u16 uqt, .slice U1 un1 uc1, .slice U2 un2 uc2, .slice U3 un3 uc3, .int .i64 uz]) ∧ Hid (Cs wc AB [.int .i64 ((K : Nat) : Int), .string s, .bool b, .slice X xn xc]) ∧ Hid (ActGood wc K s b X xn xc rs) ∧ Hid (Below w.heap.size w wc))
  case first =>
    cases t4 with
    | false =>
      go_wp2_with fail
      go_meet
      exact ⟨rfl, qt, Lib.hid hQ3a, Lib.hid hU3a, Lib.hid hA3a, Lib.hid ha3, Lib.hid hb3a⟩
    | true =>
      have hJc : (J = 0 ∨ J = 1) ∨ J = 2 := by omega
      have hcw := (hC3a.alloc (.cells #[.int .u16 1, .int .u16 16, .int .u16 28] 26))
      rcases hJc with (h | h) | h
      · have hJ0 : (hw : Int).tmod 3 = 0 := by rw [hJt, h]; rfl
        clear hJt h
        have c1 := hcw.get 1 _
        have hQa := hQ3a.alloc (.cells #[.int .u16 1, .int .u16 16, .int .u16 28] 26)
        have q9 := hQa.get 9 _
        have f9 := hQa.froz 9 (by simp)
        have hQl := hQa.lt
        have hQb := hQa.set' 9 (.int .u16 1) (by simp)
        simp only [List.set_cons_succ, List.set_cons_zero] at hQb
        have HQb := Lib.hid hQb
        clear hQb
        go_wp2_with fail
        go_meet
        exact ⟨rfl, 1, HQb, Lib.hid ((hU3a.alloc _).other _ _ _ (by omega)), Lib.hid ((hA3a.alloc _).other _ _ _ (by omega)), Lib.hid ((ha3.below ((Below.refl wc.heap.size wc).alloc (Nat.le_refl _) _)).otherC _ _ _ (fun b off e => by have := HoX.out b off e; have := hlt0; omega)), Lib.hid ((hb3a.alloc hb3a.size _).setCell (by simp) _)⟩
      · have hJ0 : (hw : Int).tmod 3 = 1 := by rw [hJt, h]; rfl
        clear hJt h
        have c1 := hcw.get 1 _
        have hQa := hQ3a.alloc (.cells #[.int .u16 1, .int .u16 16, .int .u16 28] 26)
        have q9 := hQa.get 9 _
        have f9 := hQa.froz 9 (by simp)
        have hQl := hQa.lt
        have hQb := hQa.set' 9 (.int .u16 16) (by simp)
        simp only [List.set_cons_succ, List.set_cons_zero] at hQb
        have HQb := Lib.hid hQb
        clear hQb
        go_wp2_with fail
        go_meet
        exact ⟨rfl, 16, HQb, Lib.hid ((hU3a.alloc _).other _ _ _ (by omega)), Lib.hid ((hA3a.alloc _).other _ _ _ (by omega)), Lib.hid ((ha3.below ((Below.refl wc.heap.size wc).alloc (Nat.le_refl _) _)).otherC _ _ _ (fun b off e => by have := HoX.out b off e; have := hlt0; omega)), Lib.hid ((hb3a.alloc hb3a.size _).setCell (by simp) _)⟩
      · have hJ0 : (hw : Int).tmod 3 = 2 := by rw [hJt, h]; rfl
        clear hJt h
        have c1 := hcw.get 1 _
        have hQa := hQ3a.alloc (.cells #[.int .u16 1, .int .u16 16, .int .u16 28] 26)
        have q9 := hQa.get 9 _
        have f9 := hQa.froz 9 (by simp)
        have hQl := hQa.lt
        have hQb := hQa.set' 9 (.int .u16 28) (by simp)
        simp only [List.set_cons_succ, List.set_cons_zero] at hQb
        have HQb := Lib.hid hQb
        clear hQb
        go_wp2_with fail
        go_meet
        exact ⟨rfl, 28, HQb, Lib.hid ((hU3a.alloc _).other _ _ _ (by omega)), Lib.hid ((hA3a.alloc _).other _ _ _ (by omega)), Lib.hid ((ha3.below ((Below.refl wc.heap.size wc).alloc (Nat.le_refl _) _)).otherC _ _ _ (fun b off e => by have := HoX.out b off e; have := hlt0; omega)), Lib.hid ((hb3a.alloc hb3a.size _).setCell (by simp) _)⟩
  case rest =>
  obtain ⟨rfl, T, HQ4, HU4, HA4, HG4, HB4⟩ := hcut
  clear hQ3a hU3a hC3a hA3a ha3 hb3a hJt hGt
  refine hKx _ _ ?_
  have TU1 := of_any ⟨id, reply, op, auth, trunc, want, avail, cd, N, T, A1, n1, c1, r1, A2, n2, c2, r2, A3, n3, c3, r3, z⟩ ⟨uid, ureply, uop, uauth, utrunc, uwant, uavail, ucd, uqn, uqt, U1, un1, uc1, s1, U2, un2, uc2, s2, U3, un3, uc3, s3, uz⟩ K s b X xn xc rs tcp wc (UPU.out.below HB4.out) HG4.out (by have := HNS.out; show N.size ≤ _; omega)
  have LB := fun w => lbase_any ⟨id, reply, op, auth, trunc, want, avail, cd, N, T, A1, n1, c1, r1, A2, n2, c2, r2, A3, n3, c3, r3, z⟩ 0 w (by decide)
  unfold TellsB at TU1
  unfold MsgT.base at LB
  unfold MsgT.v at *
  dsimp only at TU1 LB
  rw [show (0 : Int) % 16 = 0 by decide] at LB
  obtain ⟨t3, ht3⟩ : ∃ t, ((K : Int) == 3) = t := ⟨_, rfl⟩
  rw [ht3] at TU1
  generalize hmz : minZ z = mz at *
  have TU1 := Lib.hid TU1
  have LB := Lib.hid LB
  have HT3 := Lib.hid ht3
  have HMZ := Lib.hid hmz
  clear ht3 hmz
  have hQ4 := HQ4.out
  have hU4 := HU4.out
  have hA4 := HA4.out
  have hQl4 := hQ4.lt
  have hUl4 := hU4.lt
  have hAl4 := hA4.lt
  have q0 := hQ4.get 0 _
  have q1 := hQ4.get 1 _
  have q2 := hQ4.get 2 _
  have q3 := hQ4.get 3 _
  have q4 := hQ4.get 4 _
  have q5 := hQ4.get 5 _
  have q6 := hQ4.get 6 _
  have q7 := hQ4.get 7 _
  have q8 := hQ4.get 8 _
  have q9 := hQ4.get 9 _
  have q10 := hQ4.get 10 _
  have q11 := hQ4.get 11 _
  have q12 := hQ4.get 12 _
  have q13 := hQ4.get 13 _
  have u0 := hU4.get 0 _
  have u1 := hU4.get 1 _
  have u2 := hU4.get 2 _
  have u3 := hU4.get 3 _
  have u4 := hU4.get 4 _
  have u5 := hU4.get 5 _
  have u6 := hU4.get 6 _
  have u7 := hU4.get 7 _
  have u8 := hU4.get 8 _
  have u9 := hU4.get 9 _
  have u10 := hU4.get 10 _
  have u11 := hU4.get 11 _
  have u12 := hU4.get 12 _
  have u13 := hU4.get 13 _
  have a0 := hA4.get 0 _
  have a1 := hA4.get 1 _
  have a2 := hA4.get 2 _
  have a3 := hA4.get 3 _
  clear hQ4 hU4 hA4
  go_wp2_with fail
  refine (TU1.out).mono ?_
  rintro e w7 ⟨⟨xid, xreply, xop, xauth, xtrunc, xwant, xavail, xcd, xqn, xqt, X1, xn1, xc1, x1, X2, xn2, xc2, x2, X3, xn3, xc3, x3, xz⟩, rfl, hs7, hh7, -, hb7'⟩
  dsimp only
  have hb7 := below_trans HB4.out HB4.out.size hb7'
  have hb7a := hb7.alloc hb7.size (.cells #[.int .u16 xid, .bool xreply, .int .i64 xop, .bool xauth, .bool xtrunc, .bool xwant, .bool xavail, .int .i64 xcd, .string xqn, .int .u16 xqt, .slice X1 xn1 xc1, .slice X2 xn2 xc2, .slice X3 xn3 xc3, .int .i64 xz] 31)
  have hQ7 := (HQ4.out.below hb7').alloc (.cells #[.int .u16 xid, .bool xreply, .int .i64 xop, .bool xauth, .bool xtrunc, .bool xwant, .bool xavail, .int .i64 xcd, .string xqn, .int .u16 xqt, .slice X1 xn1 xc1, .slice X2 xn2 xc2, .slice X3 xn3 xc3, .int .i64 xz] 31)
  have hU7 := (HU4.out.below hb7').alloc (.cells #[.int .u16 xid, .bool xreply, .int .i64 xop, .bool xauth, .bool xtrunc, .bool xwant, .bool xavail, .int .i64 xcd, .string xqn, .int .u16 xqt, .slice X1 xn1 xc1, .slice X2 xn2 xc2, .slice X3 xn3 xc3, .int .i64 xz] 31)
  have hA7 := (HA4.out.below hb7').alloc (.cells #[.int .u16 xid, .bool xreply, .int .i64 xop, .bool xauth, .bool xtrunc, .bool xwant, .bool xavail, .int .i64 xcd, .string xqn, .int .u16 xqt, .slice X1 xn1 xc1, .slice X2 xn2 xc2, .slice X3 xn3 xc3, .int .i64 xz] 31)
  have hX7 := Cs.new w7 #[.int .u16 xid, .bool xreply, .int .i64 xop, .bool xauth, .bool xtrunc, .bool xwant, .bool xavail, .int .i64 xcd, .string xqn, .int .u16 xqt, .slice X1 xn1 xc1, .slice X2 xn2 xc2, .slice X3 xn3 xc3, .int .i64 xz] 31 [.int .u16 xid, .bool xreply, .int .i64 xop, .bool xauth, .bool xtrunc, .bool xwant, .bool xavail, .int .i64 xcd, .string xqn, .int .u16 xqt, .slice X1 xn1 xc1, .slice X2 xn2 xc2, .slice X3 xn3 xc3, .int .i64 xz]
  have hg7 := (HG4.out.below hb7').below ((Below.refl w7.heap.size w7).alloc (Nat.le_refl _) (.cells #[.int .u16 xid, .bool xreply, .int .i64 xop, .bool xauth, .bool xtrunc, .bool xwant, .bool xavail, .int .i64 xcd, .string xqn, .int .u16 xqt, .slice X1 xn1 xc1, .slice X2 xn2 xc2, .slice X3 xn3 xc3, .int .i64 xz] 31))
  have hh7a := hh7.below ((Below.refl w7.heap.size w7).alloc (Nat.le_refl _) (.cells #[.int .u16 xid, .bool xreply, .int .i64 xop, .bool xauth, .bool xtrunc, .bool xwant, .bool xavail, .int .i64 xcd, .string xqn, .int .u16 xqt, .slice X1 xn1 xc1, .slice X2 xn2 xc2, .slice X3 xn3 xc3, .int .i64 xz] 31))
  have hXq := (HQ4.out.below hb7').lt
  have hXu := (HU4.out.below hb7').lt
  have hXa := (HA4.out.below hb7').lt
  have HS := Lib.hid hs7
  clear q0 u0 q1 u1 q2 u2 q3 u3 q4 u4 q5 u5 q6 u6 q7 u7 q8 u8 q9 u9 q10 u10 q11 u11 q12 u12 q13 u13 a0 a1 a2 a3 hs7 hh7 TU1 hb7 hb7' HQ4 HU4 HA4 HG4 HB4
  go_upto_region 8 with fail
  have hXl := hX7.lt
  generalize hWX : w7.alloc (.cells #[.int .u16 xid, .bool xreply, .int .i64 xop, .bool xauth, .bool xtrunc, .bool xwant, .bool xavail, .int .i64 xcd, .string xqn, .int .u16 xqt, .slice X1 xn1 xc1, .slice X2 xn2 xc2, .slice X3 xn3 xc3, .int .i64 xz] 31) = W7 at *
  generalize hXB : w7.heap.size = XB at *
  clear hWX hXB
  have q0 := hQ7.get 0 _
  have q1 := hQ7.get 1 _
  have q2 := hQ7.get 2 _
  have q3 := hQ7.get 3 _
  have q4 := hQ7.get 4 _
  have q5 := hQ7.get 5 _
  have q6 := hQ7.get 6 _
  have q7 := hQ7.get 7 _
  have q8 := hQ7.get 8 _
  have q9 := hQ7.get 9 _
  have q10 := hQ7.get 10 _
  have q11 := hQ7.get 11 _
  have q12 := hQ7.get 12 _
  have q13 := hQ7.get 13 _
  have HB7 := Lib.hid hb7a
  have HG7 := Lib.hid hg7
  have HH7 := Lib.hid hh7a
  clear hb7a hg7 hh7a
  go_wp2_with fail
  refine (LB.out _).mono ?_
  rintro e w8 ⟨rfl, hb8'⟩
  have hb8 := below_trans HB7.out HB7.out.size hb8'
  have hQ8 := (hQ7.below hb8').alloc (.cells #[.int .u16 id, .bool true, .int .i64 op, .bool false, .bool false, .bool want, .bool true, .int .i64 0, .string N, .int .u16 T, .slice none 0 0, .slice none 0 0, .slice none 0 0, .int .i64 mz] 31)
  have hU8 := (hU7.below hb8').alloc (.cells #[.int .u16 id, .bool true, .int .i64 op, .bool false, .bool false, .bool want, .bool true, .int .i64 0, .string N, .int .u16 T, .slice none 0 0, .slice none 0 0, .slice none 0 0, .int .i64 mz] 31)
  have hA8 := (hA7.below hb8').alloc (.cells #[.int .u16 id, .bool true, .int .i64 op, .bool false, .bool false, .bool want, .bool true, .int .i64 0, .string N, .int .u16 T, .slice none 0 0, .slice none 0 0, .slice none 0 0, .int .i64 mz] 31)
  have hX8 := (hX7.below hb8').alloc (.cells #[.int .u16 id, .bool true, .int .i64 op, .bool false, .bool false, .bool want, .bool true, .int .i64 0, .string N, .int .u16 T, .slice none 0 0, .slice none 0 0, .slice none 0 0, .int .i64 mz] 31)
  have hT8 := Cs.new w8 #[.int .u16 id, .bool true, .int .i64 op, .bool false, .bool false, .bool want, .bool true, .int .i64 0, .string N, .int .u16 T, .slice none 0 0, .slice none 0 0, .slice none 0 0, .int .i64 mz] 31 [.int .u16 id, .bool true, .int .i64 op, .bool false, .bool false, .bool want, .bool true, .int .i64 0, .string N, .int .u16 T, .slice none 0 0, .slice none 0 0, .slice none 0 0, .int .i64 mz]
  have hTx := (hX7.below hb8').lt
  have h08 := HH7.out.below hb8'
  have hh8 := h08.below ((Below.refl w8.heap.size w8).alloc (Nat.le_refl _) (.cells #[.int .u16 id, .bool true, .int .i64 op, .bool false, .bool false, .bool want, .bool true, .int .i64 0, .string N, .int .u16 T, .slice none 0 0, .slice none 0 0, .slice none 0 0, .int .i64 mz] 31))
  have HG7o := HG7.out.below hb8'
  have hg8 := (HG7.out.below hb8').below ((Below.refl w8.heap.size w8).alloc (Nat.le_refl _) (.cells #[.int .u16 id, .bool true, .int .i64 op, .bool false, .bool false, .bool want, .bool true, .int .i64 0, .string N, .int .u16 T, .slice none 0 0, .slice none 0 0, .slice none 0 0, .int .i64 mz] 31))
  have hb8a := hb8.alloc hb8.size (.cells #[.int .u16 id, .bool true, .int .i64 op, .bool false, .bool false, .bool want, .bool true, .int .i64 0, .string N, .int .u16 T, .slice none 0 0, .slice none 0 0, .slice none 0 0, .int .i64 mz] 31)
  have hupu := UPU.out.below hb8a
  have hg08 := HG7o
  have hwT := hb8.size
  have hW8s : (w8.alloc (.cells #[.int .u16 id, .bool true, .int .i64 op, .bool false, .bool false, .bool want, .bool true, .int .i64 0, .string N, .int .u16 T, .slice none 0 0, .slice none 0 0, .slice none 0 0, .int .i64 mz] 31)).heap.size = w8.heap.size + 1 := by simp
  clear q0 q1 q2 q3 q4 q5 q6 q7 q8 q9 q10 q11 q12 q13 hQ7 hU7 hA7 hX7 HB7 HG7 HH7 hb8 hb8' LB
  go_upto_region 9 with fail
  have hTl := hT8.lt
  generalize hWT : w8.alloc (.cells #[.int .u16 id, .bool true, .int .i64 op, .bool false, .bool false, .bool want, .bool true, .int .i64 0, .string N, .int .u16 T, .slice none 0 0, .slice none 0 0, .slice none 0 0, .int .i64 mz] 31) = W8 at *
  generalize hTB : w8.heap.size = TB at *
  have hz8 := Nat.le_of_eq hTB
  clear hWT
  have a0 := hA8.get 0 _
  have HQ := Lib.hid hQ8
  have HU := Lib.hid hU8
  have HA := Lib.hid hA8
  have HX := Lib.hid hX8
  have HT := Lib.hid hT8
  have HH0 := Lib.hid h08
  have HH := Lib.hid hh8
  have HG := Lib.hid hg8
  have HB := Lib.hid hb8a
  have HZ := Lib.hid hz8
  have HUP := Lib.hid hupu
  have HUH := Lib.hid UPU.out.has
  have HUL := Lib.hid hwT
  have HW8 := Lib.hid hW8s
  have HG0 := Lib.hid hg08
  clear hQ8 hU8 hA8 hX8 hT8 h08 hh8 hg8 hb8a hz8 hTB hupu
  go_upto_block 0 with fail
  go_cut [] (fun wc => t3 = false ∧ ∃ wt : MsgT, Hid (Cs wc XB [.int .u16 xid, .bool xreply, .int .i64 xop, .bool xauth, .bool xtrunc, .bool xwant, .bool xavail, .int .i64 xcd, .string xqn, .int .u16 xqt, .slice X1 xn1 xc1, .slice X2 xn2 xc2, .slice X3 xn3 xc3, .int .i64 xz]) ∧ Hid (Cs wc TB wt.cells) ∧ Hid (MsgHas wc ⟨xid, xreply, xop, xauth, xtrunc, xwant, xavail, xcd, xqn, xqt, X1, xn1, xc1, x1, X2, xn2, xc2, x2, X3, xn3, xc3, x3, xz⟩) ∧ Hid (MsgHas wc wt) ∧ Hid (SameT ⟨xid, xreply, xop, xauth, xtrunc, xwant, xavail, xcd, xqn, xqt, X1, xn1, xc1, x1, X2, xn2, xc2, x2, X3, xn3, xc3, x3, xz⟩ wt) ∧ Hid (Below w.heap.size w wc))
  case first =>
    have hk := HKK.out
    have e3 : ((K : Int) == 3) = false := by rw [beq_eq_false_iff_ne]; omega
    have e4 : ((K : Int) == 4) = true := by rw [beq_iff_eq]; omega
    have ht3 : t3 = false := by rw [← HT3.out]; exact e3
    subst ht3
    have hOF : ofT ⟨id, reply, op, auth, trunc, want, avail, cd, N, T, A1, n1, c1, r1, A2, n2, c2, r2, A3, n3, c3, r3, z⟩ ⟨uid, ureply, uop, uauth, utrunc, uwant, uavail, ucd, uqn, uqt, U1, un1, uc1, s1, U2, un2, uc2, s2, U3, un3, uc3, s3, uz⟩ (K : Int) s b rs tcp = MsgT.baseT ⟨id, reply, op, auth, trunc, want, avail, cd, N, T, A1, n1, c1, r1, A2, n2, c2, r2, A3, n3, c3, r3, z⟩ 3 false [] := by (obtain rfl : K = 4 := by omega); cases tcp <;> rfl
    have hT := HT.out
    have t7 := hT.get 7 _
    have f7 := hT.froz 7 (by simp)
    have hT2 := hT.set' 7 (.int .i64 3) (by simp)
    simp only [List.set_cons_succ, List.set_cons_zero] at hT2
    have HT2 := Lib.hid hT2
    clear hT hT2 hk
    go_wp2_with fail
    go_meet
    exact ⟨trivial, ⟨id, true, op, false, false, want, true, 3, N, T, none, 0, 0, [], none, 0, 0, [], none, 0, 0, [], mz⟩, Lib.hid (HX.out.other _ _ _ (by omega)), HT2, Lib.hid (HH.out.otherTop HH0.out _ _ _ HZ.out), Lib.hid ⟨Recs.nil _ _, Recs.nil _ _, Recs.nil _ _, rfl, rfl, rfl, Nat.zero_le _, Nat.zero_le _, Nat.zero_le _⟩, Lib.hid (by have q := HS.out; rw [hOF] at q; exact q.trans ⟨rfl, rfl, rfl, rfl, rfl, rfl, rfl, rfl, rfl, rfl, HMZ.out, rfl, rfl, rfl⟩), Lib.hid (HB.out.setCell (by simp; omega) _)⟩
  case rest =>
  obtain ⟨rfl, wt, HXz, HTz, HHz, HWz, HSz, HBz⟩ := hcut
  obtain ⟨yid, yreply, yop, yauth, ytrunc, ywant, yavail, ycd, yqn, yqt, Y1, yn1, yc1, y1, Y2, yn2, yc2, y2, Y3, yn3, yc3, y3, yz⟩ := wt
  have SM := same_msgT ⟨xid, xreply, xop, xauth, xtrunc, xwant, xavail, xcd, xqn, xqt, X1, xn1, xc1, x1, X2, xn2, xc2, x2, X3, xn3, xc3, x3, xz⟩ ⟨yid, yreply, yop, yauth, ytrunc, ywant, yavail, ycd, yqn, yqt, Y1, yn1, yc1, y1, Y2, yn2, yc2, y2, Y3, yn3, yc3, y3, yz⟩ _ HHz.out HWz.out HSz.out
  unfold MsgT.v at SM
  dsimp only at SM
  have SM := Lib.hid SM
  have hXz := HXz.out
  have hTz := HTz.out
  unfold MsgT.cells at hTz
  dsimp only at hTz
  have m0 := hXz.get 0 _
  have m1 := hXz.get 1 _
  have m2 := hXz.get 2 _
  have m3 := hXz.get 3 _
  have m4 := hXz.get 4 _
  have m5 := hXz.get 5 _
  have m6 := hXz.get 6 _
  have m7 := hXz.get 7 _
  have m8 := hXz.get 8 _
  have m9 := hXz.get 9 _
  have m10 := hXz.get 10 _
  have m11 := hXz.get 11 _
  have m12 := hXz.get 12 _
  have m13 := hXz.get 13 _
  have k0 := hTz.get 0 _
  have k1 := hTz.get 1 _
  have k2 := hTz.get 2 _
  have k3 := hTz.get 3 _
  have k4 := hTz.get 4 _
  have k5 := hTz.get 5 _
  have k6 := hTz.get 6 _
  have k7 := hTz.get 7 _
  have k8 := hTz.get 8 _
  have k9 := hTz.get 9 _
  have k10 := hTz.get 10 _
  have k11 := hTz.get 11 _
  have k12 := hTz.get 12 _
  have k13 := hTz.get 13 _
  clear hXz hTz a0
  go_wp2_with fail
  refine SM.out.mono ?_
  rintro e wz ⟨rfl, hbz'⟩
  have hbz := below_trans HBz.out HBz.out.size hbz'
  go_wp2_with fail
  go_ret
  exact ⟨rfl, hbz⟩
set_option maxHeartbeats 25600000 in
theorem replyOf_k5 (w : World) (q : MsgT) (hq : MsgOk w q) (bq1 : q.c1 ≤ 3518437208780) (bq2 : q.c2 ≤ 3518437208780) (bq3 : q.c3 ≤ 3518437208780) (bqn : q.qn.size ≤ 140737488351232) (u : MsgT) (hu : MsgOk w u) (bu1 : u.c1 ≤ 3518437208780) (bu2 : u.c2 ≤ 3518437208780) (bu3 : u.c3 ≤ 3518437208780) (bun : u.qn.size ≤ 140737488351232)
    (kd : Int) (hkd : (Lit.int .u8 kd).wf = true) (how : Int) (hhow : (Lit.int .u8 how).wf = true) (NA : Option Addr) (nn nc : Nat) (zs : List Int) (hV : SlView w NA nn nc (zs.map (Value.int .u8))) (hl : zs.length = nn) (hzw : ∀ z ∈ zs, (Lit.int .u8 z).wf = true) (hc : nc ≤ 140737488351232)
    (RA : Option Addr) (rn rc : Nat) (ds : List ActT) (hD : Acts5 w RA rn rc ds) (MA : Option Addr) (mn mc : Nat) (ms : List Int) (hM : SlView w MA mn mc (ms.map (Value.int .u8))) (hml : ms.length = mn) (hmw : ∀ z ∈ ms, (Lit.int .u8 z).wf = true) (hmc : mc ≤ 140737488351232) (tcp : Bool) (hKx : kd.toNat % 10 = 5) :
    Calls Try.prog 5 #[q.v, u.v, .agg #[.int .u8 kd, .int .u8 how, .slice NA nn nc, .slice RA rn rc], .slice MA mn mc, .bool tcp] w fun e w' => e = .returned (.bool true) ∧ Below w.heap.size w w' := by
  have hk' := u8_wf hkd
  have hh' := u8_wf hhow
  obtain ⟨kn, rfl⟩ : ∃ k : Nat, kd = k := ⟨kd.toNat, by omega⟩
  obtain ⟨hw, rfl⟩ : ∃ k : Nat, how = k := ⟨how.toNat, by omega⟩
  have hz : ∀ z ∈ zs, 0 ≤ z ∧ z < 256 := fun z h => u8_wf (hzw z h)
  have hmz' : ∀ z ∈ ms, 0 ≤ z ∧ z < 256 := fun z h => u8_wf (hmw z h)
  have CA := Lib.hid (fun (w' : World) (hx : Below w.heap.size w w') => choice_any kn (by omega) hw (by omega) NA nn nc zs RA rn rc ds w' ((hV.sl.below hx).more hx.size) hz (by have := hV.le; omega) (hD.at_.below hx) hD.most)
  have NM := fun (w' : World) (hx : Below w.heap.size w w') => name_any MA mn mc ms w' ((hM.sl.below hx).more hx.size) hmz' (by have := hM.le; unfold maxLen; omega)
  have hNl := nameZ_len ms hmz'
  unfold sv at NM
  obtain ⟨N, hN⟩ : ∃ N, ByteArray.mk (nameZ ms).toArray = N := ⟨_, rfl⟩
  rw [hN] at NM
  have NM := Lib.hid NM
  have HNS := Lib.hid (show N.size ≤ 84 by rw [← hN, mk_size]; exact hNl)
  have UPU := Lib.hid (hu.up bu1 bu2 bu3)
  have HUC := Lib.hid hu.code
  have AW := Lib.hid (fun w => awake21 w)
  obtain ⟨K, hK⟩ : ∃ K, kn % 10 = K := ⟨_, rfl⟩
  rw [hK] at CA
  obtain ⟨J, hJ⟩ : ∃ J, hw % 3 = J := ⟨_, rfl⟩
  obtain ⟨G, hG⟩ : ∃ G, hw % 4 = G := ⟨_, rfl⟩
  have hJt : (hw : Int).tmod 3 = (J : Int) := by rw [Int.tmod_eq_emod_of_nonneg (by omega)]; omega
  have hGt : (hw : Int).tmod 4 = (G : Int) := by rw [Int.tmod_eq_emod_of_nonneg (by omega)]; omega
  have hJ3 : J < 3 := by omega
  have HKK := Lib.hid (show K = 5 by rw [← hK]; simpa using hKx)
  clear hKx hkd hhow hV hzw hz hl hc hD hq hu bq1 bq2 bq3 bu1 bu2 bu3 bqn bun hk' hh' hK hJ hG hM hml hmw hmc hmz' hNl hN
  obtain ⟨id, reply, op, auth, trunc, want, avail, cd, qn, qt, A1, n1, c1, r1, A2, n2, c2, r2, A3, n3, c3, r3, z⟩ := q
  unfold MsgT.v at *
  obtain ⟨uid, ureply, uop, uauth, utrunc, uwant, uavail, ucd, uqn, uqt, U1, un1, uc1, s1, U2, un2, uc2, s2, U3, un3, uc3, s3, uz⟩ := u
  dsimp only at *
  have hQ := (((Cs.new w #[.int .u16 id, .bool reply, .int .i64 op, .bool auth, .bool trunc, .bool want, .bool avail, .int .i64 cd, .string qn, .int .u16 qt, .slice A1 n1 c1, .slice A2 n2 c2, .slice A3 n3 c3, .int .i64 z] 31 [.int .u16 id, .bool reply, .int .i64 op, .bool auth, .bool trunc, .bool want, .bool avail, .int .i64 cd, .string qn, .int .u16 qt, .slice A1 n1 c1, .slice A2 n2 c2, .slice A3 n3 c3, .int .i64 z]).alloc (.cells #[.int .u16 uid, .bool ureply, .int .i64 uop, .bool uauth, .bool utrunc, .bool uwant, .bool uavail, .int .i64 ucd, .string uqn, .int .u16 uqt, .slice U1 un1 uc1, .slice U2 un2 uc2, .slice U3 un3 uc3, .int .i64 uz] 31)).alloc (.cells #[.int .u8 (kn : Nat), .int .u8 (hw : Nat), .slice NA nn nc, .slice RA rn rc] 51))
  have hU := (((Cs.new (w.alloc (.cells #[.int .u16 id, .bool reply, .int .i64 op, .bool auth, .bool trunc, .bool want, .bool avail, .int .i64 cd, .string qn, .int .u16 qt, .slice A1 n1 c1, .slice A2 n2 c2, .slice A3 n3 c3, .int .i64 z] 31)) #[.int .u16 uid, .bool ureply, .int .i64 uop, .bool uauth, .bool utrunc, .bool uwant, .bool uavail, .int .i64 ucd, .string uqn, .int .u16 uqt, .slice U1 un1 uc1, .slice U2 un2 uc2, .slice U3 un3 uc3, .int .i64 uz] 31 [.int .u16 uid, .bool ureply, .int .i64 uop, .bool uauth, .bool utrunc, .bool uwant, .bool uavail, .int .i64 ucd, .string uqn, .int .u16 uqt, .slice U1 un1 uc1, .slice U2 un2 uc2, .slice U3 un3 uc3, .int .i64 uz]).at_ (w.heap.size + 1) (by simp)).alloc (.cells #[.int .u8 (kn : Nat), .int .u8 (hw : Nat), .slice NA nn nc, .slice RA rn rc] 51))
  have hC := (Cs.new ((w.alloc (.cells #[.int .u16 id, .bool reply, .int .i64 op, .bool auth, .bool trunc, .bool want, .bool avail, .int .i64 cd, .string qn, .int .u16 qt, .slice A1 n1 c1, .slice A2 n2 c2, .slice A3 n3 c3, .int .i64 z] 31)).alloc (.cells #[.int .u16 uid, .bool ureply, .int .i64 uop, .bool uauth, .bool utrunc, .bool uwant, .bool uavail, .int .i64 ucd, .string uqn, .int .u16 uqt, .slice U1 un1 uc1, .slice U2 un2 uc2, .slice U3 un3 uc3, .int .i64 uz] 31)) #[.int .u8 (kn : Nat), .int .u8 (hw : Nat), .slice NA nn nc, .slice RA rn rc] 51 [.int .u8 (kn : Nat), .int .u8 (hw : Nat), .slice NA nn nc, .slice RA rn rc]).at_ (w.heap.size + 1 + 1) (by simp)
  have hb0 := (((Below.refl w.heap.size w).alloc (Nat.le_refl _) (.cells #[.int .u16 id, .bool reply, .int .i64 op, .bool auth, .bool trunc, .bool want, .bool avail, .int .i64 cd, .string qn, .int .u16 qt, .slice A1 n1 c1, .slice A2 n2 c2, .slice A3 n3 c3, .int .i64 z] 31)).alloc (by simp) (.cells #[.int .u16 uid, .bool ureply, .int .i64 uop, .bool uauth, .bool utrunc, .bool uwant, .bool uavail, .int .i64 ucd, .string uqn, .int .u16 uqt, .slice U1 un1 uc1, .slice U2 un2 uc2, .slice U3 un3 uc3, .int .i64 uz] 31)).alloc (by simp; omega) (.cells #[.int .u8 (kn : Nat), .int .u8 (hw : Nat), .slice NA nn nc, .slice RA rn rc] 51)
  go_enter Try.func5, Try.ntmps5
  go_wp2_with fail
  refine (AW.out _).mono ?_
  rintro e w1 ⟨rfl, hb1'⟩
  have hb1 := below_trans hb0 hb0.size hb1'
  have hlt0 := (hQ.below hb1').lt
  have hQ1 := hQ.below hb1'
  have hU1 := hU.below hb1'
  have hC1 := hC.below hb1'
  have c0 := hC1.get 0 _
  have c1 := hC1.get 1 _
  have c2 := hC1.get 2 _
  have c3 := hC1.get 3 _
  clear hQ hU hC hb0 hb1' AW
  go_wp2_with fail
  refine (CA.out _ hb1).mono ?_
  rintro e w2 ⟨s, b, X, xn, xc, rs, rfl, ha, hoX, hb2'⟩
  have hb2 := below_trans hb1 hb1.size hb2'
  have hb2a := hb2.alloc hb2.size (.cells #[.int .i64 ((K : Nat) : Int), .string s, .bool b, .slice X xn xc] 54)
  have hQ2 := (hQ1.below hb2').alloc (.cells #[.int .i64 ((K : Nat) : Int), .string s, .bool b, .slice X xn xc] 54)
  have hU2 := (hU1.below hb2').alloc (.cells #[.int .i64 ((K : Nat) : Int), .string s, .bool b, .slice X xn xc] 54)
  have hC2 := (hC1.below hb2').alloc (.cells #[.int .i64 ((K : Nat) : Int), .string s, .bool b, .slice X xn xc] 54)
  have hA2 := Cs.new w2 #[.int .i64 ((K : Nat) : Int), .string s, .bool b, .slice X xn xc] 54 [.int .i64 ((K : Nat) : Int), .string s, .bool b, .slice X xn xc]
  have ha2 := ha.below ((Below.refl w2.heap.size w2).alloc (Nat.le_refl _) (.cells #[.int .i64 ((K : Nat) : Int), .string s, .bool b, .slice X xn xc] 54))
  have hlt2 := (hC1.below hb2').lt
  clear c0 c1 c2 c3 hQ1 hU1 hC1 hb2' hb2 hb1 CA ha
  go_upto_region 4 with fail
  generalize hWA : w2.alloc (.cells #[.int .i64 ((K : Nat) : Int), .string s, .bool b, .slice X xn xc] 54) = WA at *
  generalize hAB : w2.heap.size = AB at *
  clear hWA hAB
  go_wp2_with fail
  refine (NM.out _ hb2a).mono ?_
  rintro e w3 ⟨rfl, hb3'⟩
  have hb3 := below_trans hb2a hb2a.size hb3'
  have hQ3 := hQ2.below hb3'
  have q8 := hQ3.get 8 _
  have f8 := hQ3.froz 8 (by simp)
  have hQ3a := hQ3.set' 8 (.string N) (by simp)
  simp only [List.set_cons_succ, List.set_cons_zero] at hQ3a
  have hU3a := (hU2.below hb3').other w.heap.size 8 (.string N) (by omega)
  have hC3a := (hC2.below hb3').other w.heap.size 8 (.string N) (by omega)
  have hA3a := (hA2.below hb3').other w.heap.size 8 (.string N) (by omega)
  have hb3a := hb3.setCell (p := ⟨w.heap.size, 8, none⟩) (by simp) (.string N)
  have ha3 := (ha2.below hb3').otherC w.heap.size 8 (.string N) (fun b off e => by have := hoX b off e; have := hlt0; omega)
  clear hQ2 hU2 hC2 hA2 hb2a hb3 NM ha2
  go_upto_region 5 with fail
  generalize hW4 : w3.setCell ⟨w.heap.size, 8, none⟩ (.string N) = W4 at *
  have c1 := hC3a.get 1 _
  have HoX := Lib.hid hoX
  clear hW4 hQ3 q8 f8 hb3' hoX
  obtain ⟨t4, ht4⟩ : ∃ t, decide (0 < G) = t := ⟨_, rfl⟩
  go_cut [30] (fun v wc => v = .bool t4 ∧ wc = W4)
  case first =>
    go_wp2_with fail
    go_meet
    exact ⟨rfl, rfl⟩
  case rest =>
  obtain ⟨rfl, rfl⟩ := hcut
  clear c1 ht4
  rename_i Kx hKx Ky hKy
  refine hKy _ _ ?_
  go_cut [30] (fun v wc => v = .bool t4 ∧ ∃ T : Int, Hid (Cs wc w.heap.size [.int .u16 id, .bool reply, .int .i64 op, .bool auth, .bool trunc, .bool want, .bool avail, .int .i64 cd, .string N, .int .u16 T, .slice A1 n1 c1, .slice A2 n2 c2, .slice A3 n3 c3, .int .i64 z]) ∧ Hid (Cs wc (w.heap.size + 1) [.int .u16 uid, .bool ureply, .int .i64 uop, .bool uauth, .bool utrunc, .bool uwant, .bool uavail, .int .i64 ucd, .string uqn, .int .u16 uqt, .slice U1 un1 uc1, .slice U2 un2 uc2, .slice U3 un3 uc3, .int .i64 uz]) ∧ Hid (Cs wc AB [.int .i64 ((K : Nat) : Int), .string s, .bool b, .slice X xn xc]) ∧ Hid (ActGood wc K s b X xn xc rs) ∧ Hid (Below w.heap.size w wc))
  case first =>
    cases t4 with
    | false =>
      go_wp2_with fail
      go_meet
      exact ⟨rfl, qt, Lib.hid hQ3a, Lib.hid hU3a, Lib.hid hA3a, Lib.hid ha3, Lib.hid hb3a⟩
    | true =>
      have hJc : (J = 0 ∨ J = 1) ∨ J = 2 := by omega
      have hcw := (hC3a.alloc (.cells #[.int .u16 1, .int .u16 16, .int .u16 28] 26))
      rcases hJc with (h | h) | h
      · have hJ0 : (hw : Int).tmod 3 = 0 := by rw [hJt, h]; rfl
        clear hJt h
        have c1 := hcw.get 1 _
        have hQa := hQ3a.alloc (.cells #[.int .u16 1, .int .u16 16, .int .u16 28] 26)
        have q9 := hQa.get 9 _
        have f9 := hQa.froz 9 (by simp)
        have hQl := hQa.lt
        have hQb := hQa.set' 9 (.int .u16 1) (by simp)
        simp only [List.set_cons_succ, List.set_cons_zero] at hQb
        have HQb := Lib.hid hQb
        clear hQb
        go_wp2_with fail
        go_meet
        exact ⟨rfl, 1, HQb, Lib.hid ((hU3a.alloc _).other _ _ _ (by omega)), Lib.hid ((hA3a.alloc _).other _ _ _ (by omega)), Lib.hid ((ha3.below ((Below.refl wc.heap.size wc).alloc (Nat.le_refl _) _)).otherC _ _ _ (fun b off e => by have := HoX.out b off e; have := hlt0; omega)), Lib.hid ((hb3a.alloc hb3a.size _).setCell (by simp) _)⟩
      · have hJ0 : (hw : Int).tmod 3 = 1 := by rw [hJt, h]; rfl
        clear hJt h
        have c1 := hcw.get 1 _
        have hQa := hQ3a.alloc (.cells #[.int .u16 1, .int .u16 16, .int .u16 28] 26)
        have q9 := hQa.get 9 _
        have f9 := hQa.froz 9 (by simp)
        have hQl := hQa.lt
        have hQb := hQa.set' 9 (.int .u16 16) (by simp)
        simp only [List.set_cons_succ, List.set_cons_zero] at hQb
        have HQb := Lib.hid hQb
        clear hQb
        go_wp2_with fail
        go_meet
        exact ⟨rfl, 16, HQb, Lib.hid ((hU3a.alloc _).other _ _ _ (by omega)), Lib.hid ((hA3a.alloc _).other _ _ _ (by omega)), Lib.hid ((ha3.below ((Below.refl wc.heap.size wc).alloc (Nat.le_refl _) _)).otherC _ _ _ (fun b off e => by have := HoX.out b off e; have := hlt0; omega)), Lib.hid ((hb3a.alloc hb3a.size _).setCell (by simp) _)⟩
      · have hJ0 : (hw : Int).tmod 3 = 2 := by rw [hJt, h]; rfl
        clear hJt h
        have c1 := hcw.get 1 _
        have hQa := hQ3a.alloc (.cells #[.int .u16 1, .int .u16 16, .int .u16 28] 26)
        have q9 := hQa.get 9 _
        have f9 := hQa.froz 9 (by simp)
        have hQl := hQa.lt
        have hQb := hQa.set' 9 (.int .u16 28) (by simp)
        simp only [List.set_cons_succ, List.set_cons_zero] at hQb
        have HQb := Lib.hid hQb
        clear hQb
        go_wp2_with fail
        go_meet
        exact ⟨rfl, 28, HQb, Lib.hid ((hU3a.alloc _).other _ _ _ (by omega)), Lib.hid ((hA3a.alloc _).other _ _ _ (by omega)), Lib.hid ((ha3.below ((Below.refl wc.heap.size wc).alloc (Nat.le_refl _) _)).otherC _ _ _ (fun b off e => by have := HoX.out b off e; have := hlt0; omega)), Lib.hid ((hb3a.alloc hb3a.size _).setCell (by simp) _)⟩
  case rest =>
  obtain ⟨rfl, T, HQ4, HU4, HA4, HG4, HB4⟩ := hcut
  clear hQ3a hU3a hC3a hA3a ha3 hb3a hJt hGt
  refine hKx _ _ ?_
  have TU1 := of_any ⟨id, reply, op, auth, trunc, want, avail, cd, N, T, A1, n1, c1, r1, A2, n2, c2, r2, A3, n3, c3, r3, z⟩ ⟨uid, ureply, uop, uauth, utrunc, uwant, uavail, ucd, uqn, uqt, U1, un1, uc1, s1, U2, un2, uc2, s2, U3, un3, uc3, s3, uz⟩ K s b X xn xc rs tcp wc (UPU.out.below HB4.out) HG4.out (by have := HNS.out; show N.size ≤ _; omega)
  have LB := fun w => lbase_any ⟨id, reply, op, auth, trunc, want, avail, cd, N, T, A1, n1, c1, r1, A2, n2, c2, r2, A3, n3, c3, r3, z⟩ 0 w (by decide)
  unfold TellsB at TU1
  unfold MsgT.base at LB
  unfold MsgT.v at *
  dsimp only at TU1 LB
  rw [show (0 : Int) % 16 = 0 by decide] at LB
  obtain ⟨t3, ht3⟩ : ∃ t, ((K : Int) == 3) = t := ⟨_, rfl⟩
  rw [ht3] at TU1
  generalize hmz : minZ z = mz at *
  have TU1 := Lib.hid TU1
  have LB := Lib.hid LB
  have HT3 := Lib.hid ht3
  have HMZ := Lib.hid hmz
  clear ht3 hmz
  have hQ4 := HQ4.out
  have hU4 := HU4.out
  have hA4 := HA4.out
  have hQl4 := hQ4.lt
  have hUl4 := hU4.lt
  have hAl4 := hA4.lt
  have q0 := hQ4.get 0 _
  have q1 := hQ4.get 1 _
  have q2 := hQ4.get 2 _
  have q3 := hQ4.get 3 _
  have q4 := hQ4.get 4 _
  have q5 := hQ4.get 5 _
  have q6 := hQ4.get 6 _
  have q7 := hQ4.get 7 _
  have q8 := hQ4.get 8 _
  have q9 := hQ4.get 9 _
  have q10 := hQ4.get 10 _
  have q11 := hQ4.get 11 _
  have q12 := hQ4.get 12 _
  have q13 := hQ4.get 13 _
  have u0 := hU4.get 0 _
  have u1 := hU4.get 1 _
  have u2 := hU4.get 2 _
  have u3 := hU4.get 3 _
  have u4 := hU4.get 4 _
  have u5 := hU4.get 5 _
  have u6 := hU4.get 6 _
  have u7 := hU4.get 7 _
  have u8 := hU4.get 8 _
  have u9 := hU4.get 9 _
  have u10 := hU4.get 10 _
  have u11 := hU4.get 11 _
  have u12 := hU4.get 12 _
  have u13 := hU4.get 13 _
  have a0 := hA4.get 0 _
  have a1 := hA4.get 1 _
  have a2 := hA4.get 2 _
  have a3 := hA4.get 3 _
  clear hQ4 hU4 hA4
  go_wp2_with fail
  refine (TU1.out).mono ?_
  rintro e w7 ⟨⟨xid, xreply, xop, xauth, xtrunc, xwant, xavail, xcd, xqn, xqt, X1, xn1, xc1, x1, X2, xn2, xc2, x2, X3, xn3, xc3, x3, xz⟩, rfl, hs7, hh7, -, hb7'⟩
  dsimp only
  have hb7 := below_trans HB4.out HB4.out.size hb7'
  have hb7a := hb7.alloc hb7.size (.cells #[.int .u16 xid, .bool xreply, .int .i64 xop, .bool xauth, .bool xtrunc, .bool xwant, .bool xavail, .int .i64 xcd, .string xqn, .int .u16 xqt, .slice X1 xn1 xc1, .slice X2 xn2 xc2, .slice X3 xn3 xc3, .int .i64 xz] 31)
  have hQ7 := (HQ4.out.below hb7').alloc (.cells #[.int .u16 xid, .bool xreply, .int .i64 xop, .bool xauth, .bool xtrunc, .bool xwant, .bool xavail, .int .i64 xcd, .string xqn, .int .u16 xqt, .slice X1 xn1 xc1, .slice X2 xn2 xc2, .slice X3 xn3 xc3, .int .i64 xz] 31)
  have hU7 := (HU4.out.below hb7').alloc (.cells #[.int .u16 xid, .bool xreply, .int .i64 xop, .bool xauth, .bool xtrunc, .bool xwant, .bool xavail, .int .i64 xcd, .string xqn, .int .u16 xqt, .slice X1 xn1 xc1, .slice X2 xn2 xc2, .slice X3 xn3 xc3, .int .i64 xz] 31)
  have hA7 := (HA4.out.below hb7').alloc (.cells #[.int .u16 xid, .bool xreply, .int .i64 xop, .bool xauth, .bool xtrunc, .bool xwant, .bool xavail, .int .i64 xcd, .string xqn, .int .u16 xqt, .slice X1 xn1 xc1, .slice X2 xn2 xc2, .slice X3 xn3 xc3, .int .i64 xz] 31)
  have hX7 := Cs.new w7 #[.int .u16 xid, .bool xreply, .int .i64 xop, .bool xauth, .bool xtrunc, .bool xwant, .bool xavail, .int .i64 xcd, .string xqn, .int .u16 xqt, .slice X1 xn1 xc1, .slice X2 xn2 xc2, .slice X3 xn3 xc3, .int .i64 xz] 31 [.int .u16 xid, .bool xreply, .int .i64 xop, .bool xauth, .bool xtrunc, .bool xwant, .bool xavail, .int .i64 xcd, .string xqn, .int .u16 xqt, .slice X1 xn1 xc1, .slice X2 xn2 xc2, .slice X3 xn3 xc3, .int .i64 xz]
  have hg7 := (HG4.out.below hb7').below ((Below.refl w7.heap.size w7).alloc (Nat.le_refl _) (.cells #[.int .u16 xid, .bool xreply, .int .i64 xop, .bool xauth, .bool xtrunc, .bool xwant, .bool xavail, .int .i64 xcd, .string xqn, .int .u16 xqt, .slice X1 xn1 xc1, .slice X2 xn2 xc2, .slice X3 xn3 xc3, .int .i64 xz] 31))
  have hh7a := hh7.below ((Below.refl w7.heap.size w7).alloc (Nat.le_refl _) (.cells #[.int .u16 xid, .bool xreply, .int .i64 xop, .bool xauth, .bool xtrunc, .bool xwant, .bool xavail, .int .i64 xcd, .string xqn, .int .u16 xqt, .slice X1 xn1 xc1, .slice X2 xn2 xc2, .slice X3 xn3 xc3, .int .i64 xz] 31))
  have hXq := (HQ4.out.below hb7').lt
  have hXu := (HU4.out.below hb7').lt
  have hXa := (HA4.out.below hb7').lt
  have HS := Lib.hid hs7
  clear q0 u0 q1 u1 q2 u2 q3 u3 q4 u4 q5 u5 q6 u6 q7 u7 q8 u8 q9 u9 q10 u10 q11 u11 q12 u12 q13 u13 a0 a1 a2 a3 hs7 hh7 TU1 hb7 hb7' HQ4 HU4 HA4 HG4 HB4
  go_upto_region 8 with fail
  have hXl := hX7.lt
  generalize hWX : w7.alloc (.cells #[.int .u16 xid, .bool xreply, .int .i64 xop, .bool xauth, .bool xtrunc, .bool xwant, .bool xavail, .int .i64 xcd, .string xqn, .int .u16 xqt, .slice X1 xn1 xc1, .slice X2 xn2 xc2, .slice X3 xn3 xc3, .int .i64 xz] 31) = W7 at *
  generalize hXB : w7.heap.size = XB at *
  clear hWX hXB
  have q0 := hQ7.get 0 _
  have q1 := hQ7.get 1 _
  have q2 := hQ7.get 2 _
  have q3 := hQ7.get 3 _
  have q4 := hQ7.get 4 _
  have q5 := hQ7.get 5 _
  have q6 := hQ7.get 6 _
  have q7 := hQ7.get 7 _
  have q8 := hQ7.get 8 _
  have q9 := hQ7.get 9 _
  have q10 := hQ7.get 10 _
  have q11 := hQ7.get 11 _
  have q12 := hQ7.get 12 _
  have q13 := hQ7.get 13 _
  have HB7 := Lib.hid hb7a
  have HG7 := Lib.hid hg7
  have HH7 := Lib.hid hh7a
  clear hb7a hg7 hh7a
  go_wp2_with fail
  refine (LB.out _).mono ?_
  rintro e w8 ⟨rfl, hb8'⟩
  have hb8 := below_trans HB7.out HB7.out.size hb8'
  have hQ8 := (hQ7.below hb8').alloc (.cells #[.int .u16 id, .bool true, .int .i64 op, .bool false, .bool false, .bool want, .bool true, .int .i64 0, .string N, .int .u16 T, .slice none 0 0, .slice none 0 0, .slice none 0 0, .int .i64 mz] 31)
  have hU8 := (hU7.below hb8').alloc (.cells #[.int .u16 id, .bool true, .int .i64 op, .bool false, .bool false, .bool want, .bool true, .int .i64 0, .string N, .int .u16 T, .slice none 0 0, .slice none 0 0, .slice none 0 0, .int .i64 mz] 31)
  have hA8 := (hA7.below hb8').alloc (.cells #[.int .u16 id, .bool true, .int .i64 op, .bool false, .bool false, .bool want, .bool true, .int .i64 0, .string N, .int .u16 T, .slice none 0 0, .slice none 0 0, .slice none 0 0, .int .i64 mz] 31)
  have hX8 := (hX7.below hb8').alloc (.cells #[.int .u16 id, .bool true, .int .i64 op, .bool false, .bool false, .bool want, .bool true, .int .i64 0, .string N, .int .u16 T, .slice none 0 0, .slice none 0 0, .slice none 0 0, .int .i64 mz] 31)
  have hT8 := Cs.new w8 #[.int .u16 id, .bool true, .int .i64 op, .bool false, .bool false, .bool want, .bool true, .int .i64 0, .string N, .int .u16 T, .slice none 0 0, .slice none 0 0, .slice none 0 0, .int .i64 mz] 31 [.int .u16 id, .bool true, .int .i64 op, .bool false, .bool false, .bool want, .bool true, .int .i64 0, .string N, .int .u16 T, .slice none 0 0, .slice none 0 0, .slice none 0 0, .int .i64 mz]
  have hTx := (hX7.below hb8').lt
  have h08 := HH7.out.below hb8'
  have hh8 := h08.below ((Below.refl w8.heap.size w8).alloc (Nat.le_refl _) (.cells #[.int .u16 id, .bool true, .int .i64 op, .bool false, .bool false, .bool want, .bool true, .int .i64 0, .string N, .int .u16 T, .slice none 0 0, .slice none 0 0, .slice none 0 0, .int .i64 mz] 31))
  have HG7o := HG7.out.below hb8'
  have hg8 := (HG7.out.below hb8').below ((Below.refl w8.heap.size w8).alloc (Nat.le_refl _) (.cells #[.int .u16 id, .bool true, .int .i64 op, .bool false, .bool false, .bool want, .bool true, .int .i64 0, .string N, .int .u16 T, .slice none 0 0, .slice none 0 0, .slice none 0 0, .int .i64 mz] 31))
  have hb8a := hb8.alloc hb8.size (.cells #[.int .u16 id, .bool true, .int .i64 op, .bool false, .bool false, .bool want, .bool true, .int .i64 0, .string N, .int .u16 T, .slice none 0 0, .slice none 0 0, .slice none 0 0, .int .i64 mz] 31)
  have hupu := UPU.out.below hb8a
  have hg08 := HG7o
  have hwT := hb8.size
  have hW8s : (w8.alloc (.cells #[.int .u16 id, .bool true, .int .i64 op, .bool false, .bool false, .bool want, .bool true, .int .i64 0, .string N, .int .u16 T, .slice none 0 0, .slice none 0 0, .slice none 0 0, .int .i64 mz] 31)).heap.size = w8.heap.size + 1 := by simp
  clear q0 q1 q2 q3 q4 q5 q6 q7 q8 q9 q10 q11 q12 q13 hQ7 hU7 hA7 hX7 HB7 HG7 HH7 hb8 hb8' LB
  go_upto_region 9 with fail
  have hTl := hT8.lt
  generalize hWT : w8.alloc (.cells #[.int .u16 id, .bool true, .int .i64 op, .bool false, .bool false, .bool want, .bool true, .int .i64 0, .string N, .int .u16 T, .slice none 0 0, .slice none 0 0, .slice none 0 0, .int .i64 mz] 31) = W8 at *
  generalize hTB : w8.heap.size = TB at *
  have hz8 := Nat.le_of_eq hTB
  clear hWT
  have a0 := hA8.get 0 _
  have HQ := Lib.hid hQ8
  have HU := Lib.hid hU8
  have HA := Lib.hid hA8
  have HX := Lib.hid hX8
  have HT := Lib.hid hT8
  have HH0 := Lib.hid h08
  have HH := Lib.hid hh8
  have HG := Lib.hid hg8
  have HB := Lib.hid hb8a
  have HZ := Lib.hid hz8
  have HUP := Lib.hid hupu
  have HUH := Lib.hid UPU.out.has
  have HUL := Lib.hid hwT
  have HW8 := Lib.hid hW8s
  have HG0 := Lib.hid hg08
  clear hQ8 hU8 hA8 hX8 hT8 h08 hh8 hg8 hb8a hz8 hTB hupu
  go_upto_block 0 with fail
  go_cut [] (fun wc => t3 = false ∧ ∃ wt : MsgT, Hid (Cs wc XB [.int .u16 xid, .bool xreply, .int .i64 xop, .bool xauth, .bool xtrunc, .bool xwant, .bool xavail, .int .i64 xcd, .string xqn, .int .u16 xqt, .slice X1 xn1 xc1, .slice X2 xn2 xc2, .slice X3 xn3 xc3, .int .i64 xz]) ∧ Hid (Cs wc TB wt.cells) ∧ Hid (MsgHas wc ⟨xid, xreply, xop, xauth, xtrunc, xwant, xavail, xcd, xqn, xqt, X1, xn1, xc1, x1, X2, xn2, xc2, x2, X3, xn3, xc3, x3, xz⟩) ∧ Hid (MsgHas wc wt) ∧ Hid (SameT ⟨xid, xreply, xop, xauth, xtrunc, xwant, xavail, xcd, xqn, xqt, X1, xn1, xc1, x1, X2, xn2, xc2, x2, X3, xn3, xc3, x3, xz⟩ wt) ∧ Hid (Below w.heap.size w wc))
  case first =>
    have hk := HKK.out
    have e3 : ((K : Int) == 3) = false := by rw [beq_eq_false_iff_ne]; omega
    have e4 : ((K : Int) == 4) = false := by rw [beq_eq_false_iff_ne]; omega
    have e5 : ((K : Int) == 5) = true := by rw [beq_iff_eq]; omega
    have ht3 : t3 = false := by rw [← HT3.out]; exact e3
    subst ht3
    have hOF : ofT ⟨id, reply, op, auth, trunc, want, avail, cd, N, T, A1, n1, c1, r1, A2, n2, c2, r2, A3, n3, c3, r3, z⟩ ⟨uid, ureply, uop, uauth, utrunc, uwant, uavail, ucd, uqn, uqt, U1, un1, uc1, s1, U2, un2, uc2, s2, U3, un3, uc3, s3, uz⟩ (K : Int) s b rs tcp = MsgT.baseT ⟨id, reply, op, auth, trunc, want, avail, cd, N, T, A1, n1, c1, r1, A2, n2, c2, r2, A3, n3, c3, r3, z⟩ 0 false [] := by (obtain rfl : K = 5 := by omega); cases tcp <;> rfl
    clear hk
    go_wp2_with fail
    go_meet
    exact ⟨trivial, ⟨id, true, op, false, false, want, true, 0, N, T, none, 0, 0, [], none, 0, 0, [], none, 0, 0, [], mz⟩, Lib.hid HX.out, HT, Lib.hid HH.out, Lib.hid ⟨Recs.nil _ _, Recs.nil _ _, Recs.nil _ _, rfl, rfl, rfl, Nat.zero_le _, Nat.zero_le _, Nat.zero_le _⟩, Lib.hid (by have q := HS.out; rw [hOF] at q; exact q.trans ⟨rfl, rfl, rfl, rfl, rfl, rfl, rfl, rfl, rfl, rfl, HMZ.out, rfl, rfl, rfl⟩), Lib.hid HB.out⟩
  case rest =>
  obtain ⟨rfl, wt, HXz, HTz, HHz, HWz, HSz, HBz⟩ := hcut
  obtain ⟨yid, yreply, yop, yauth, ytrunc, ywant, yavail, ycd, yqn, yqt, Y1, yn1, yc1, y1, Y2, yn2, yc2, y2, Y3, yn3, yc3, y3, yz⟩ := wt
  have SM := same_msgT ⟨xid, xreply, xop, xauth, xtrunc, xwant, xavail, xcd, xqn, xqt, X1, xn1, xc1, x1, X2, xn2, xc2, x2, X3, xn3, xc3, x3, xz⟩ ⟨yid, yreply, yop, yauth, ytrunc, ywant, yavail, ycd, yqn, yqt, Y1, yn1, yc1, y1, Y2, yn2, yc2, y2, Y3, yn3, yc3, y3, yz⟩ _ HHz.out HWz.out HSz.out
  unfold MsgT.v at SM
  dsimp only at SM
  have SM := Lib.hid SM
  have hXz := HXz.out
  have hTz := HTz.out
  unfold MsgT.cells at hTz
  dsimp only at hTz
  have m0 := hXz.get 0 _
  have m1 := hXz.get 1 _
  have m2 := hXz.get 2 _
  have m3 := hXz.get 3 _
  have m4 := hXz.get 4 _
  have m5 := hXz.get 5 _
  have m6 := hXz.get 6 _
  have m7 := hXz.get 7 _
  have m8 := hXz.get 8 _
  have m9 := hXz.get 9 _
  have m10 := hXz.get 10 _
  have m11 := hXz.get 11 _
  have m12 := hXz.get 12 _
  have m13 := hXz.get 13 _
  have k0 := hTz.get 0 _
  have k1 := hTz.get 1 _
  have k2 := hTz.get 2 _
  have k3 := hTz.get 3 _
  have k4 := hTz.get 4 _
  have k5 := hTz.get 5 _
  have k6 := hTz.get 6 _
  have k7 := hTz.get 7 _
  have k8 := hTz.get 8 _
  have k9 := hTz.get 9 _
  have k10 := hTz.get 10 _
  have k11 := hTz.get 11 _
  have k12 := hTz.get 12 _
  have k13 := hTz.get 13 _
  clear hXz hTz a0
  go_wp2_with fail
  refine SM.out.mono ?_
  rintro e wz ⟨rfl, hbz'⟩
  have hbz := below_trans HBz.out HBz.out.size hbz'
  go_wp2_with fail
  go_ret
  exact ⟨rfl, hbz⟩
set_option maxHeartbeats 25600000 in
theorem replyOf_k6 (w : World) (q : MsgT) (hq : MsgOk w q) (bq1 : q.c1 ≤ 3518437208780) (bq2 : q.c2 ≤ 3518437208780) (bq3 : q.c3 ≤ 3518437208780) (bqn : q.qn.size ≤ 140737488351232) (u : MsgT) (hu : MsgOk w u) (bu1 : u.c1 ≤ 3518437208780) (bu2 : u.c2 ≤ 3518437208780) (bu3 : u.c3 ≤ 3518437208780) (bun : u.qn.size ≤ 140737488351232)
    (kd : Int) (hkd : (Lit.int .u8 kd).wf = true) (how : Int) (hhow : (Lit.int .u8 how).wf = true) (NA : Option Addr) (nn nc : Nat) (zs : List Int) (hV : SlView w NA nn nc (zs.map (Value.int .u8))) (hl : zs.length = nn) (hzw : ∀ z ∈ zs, (Lit.int .u8 z).wf = true) (hc : nc ≤ 140737488351232)
    (RA : Option Addr) (rn rc : Nat) (ds : List ActT) (hD : Acts5 w RA rn rc ds) (MA : Option Addr) (mn mc : Nat) (ms : List Int) (hM : SlView w MA mn mc (ms.map (Value.int .u8))) (hml : ms.length = mn) (hmw : ∀ z ∈ ms, (Lit.int .u8 z).wf = true) (hmc : mc ≤ 140737488351232) (tcp : Bool) (hKx : kd.toNat % 10 = 6) :
    Calls Try.prog 5 #[q.v, u.v, .agg #[.int .u8 kd, .int .u8 how, .slice NA nn nc, .slice RA rn rc], .slice MA mn mc, .bool tcp] w fun e w' => e = .returned (.bool true) ∧ Below w.heap.size w w' := by
  have hk' := u8_wf hkd
  have hh' := u8_wf hhow
  obtain ⟨kn, rfl⟩ : ∃ k : Nat, kd = k := ⟨kd.toNat, by omega⟩
  obtain ⟨hw, rfl⟩ : ∃ k : Nat, how = k := ⟨how.toNat, by omega⟩
  have hz : ∀ z ∈ zs, 0 ≤ z ∧ z < 256 := fun z h => u8_wf (hzw z h)
  have hmz' : ∀ z ∈ ms, 0 ≤ z ∧ z < 256 := fun z h => u8_wf (hmw z h)
  have CA := Lib.hid (fun (w' : World) (hx : Below w.heap.size w w') => choice_any kn (by omega) hw (by omega) NA nn nc zs RA rn rc ds w' ((hV.sl.below hx).more hx.size) hz (by have := hV.le; omega) (hD.at_.below hx) hD.most)
  have NM := fun (w' : World) (hx : Below w.heap.size w w') => name_any MA mn mc ms w' ((hM.sl.below hx).more hx.size) hmz' (by have := hM.le; unfold maxLen; omega)
  have hNl := nameZ_len ms hmz'
  unfold sv at NM
  obtain ⟨N, hN⟩ : ∃ N, ByteArray.mk (nameZ ms).toArray = N := ⟨_, rfl⟩
  rw [hN] at NM
  have NM := Lib.hid NM
  have HNS := Lib.hid (show N.size ≤ 84 by rw [← hN, mk_size]; exact hNl)
  have UPU := Lib.hid (hu.up bu1 bu2 bu3)
  have HUC := Lib.hid hu.code
  have AW := Lib.hid (fun w => awake21 w)
  obtain ⟨K, hK⟩ : ∃ K, kn % 10 = K := ⟨_, rfl⟩
  rw [hK] at CA
  obtain ⟨J, hJ⟩ : ∃ J, hw % 3 = J := ⟨_, rfl⟩
  obtain ⟨G, hG⟩ : ∃ G, hw % 4 = G := ⟨_, rfl⟩
  have hJt : (hw : Int).tmod 3 = (J : Int) := by rw [Int.tmod_eq_emod_of_nonneg (by omega)]; omega
  have hGt : (hw : Int).tmod 4 = (G : Int) := by rw [Int.tmod_eq_emod_of_nonneg (by omega)]; omega
  have hJ3 : J < 3 := by omega
  have HKK := Lib.hid (show K = 6 by rw [← hK]; simpa using hKx)
  clear hKx hkd hhow hV hzw hz hl hc hD hq hu bq1 bq2 bq3 bu1 bu2 bu3 bqn bun hk' hh' hK hJ hG hM hml hmw hmc hmz' hNl hN
  obtain ⟨id, reply, op, auth, trunc, want, avail, cd, qn, qt, A1, n1, c1, r1, A2, n2, c2, r2, A3, n3, c3, r3, z⟩ := q
  unfold MsgT.v at *
  obtain ⟨uid, ureply, uop, uauth, utrunc, uwant, uavail, ucd, uqn, uqt, U1, un1, uc1, s1, U2, un2, uc2, s2, U3, un3, uc3, s3, uz⟩ := u
  dsimp only at *
  have hQ := (((Cs.new w #[.int .u16 id, .bool reply, .int .i64 op, .bool auth, .bool trunc, .bool want, .bool avail, .int .i64 cd, .string qn, .int .u16 qt, .slice A1 n1 c1, .slice A2 n2 c2, .slice A3 n3 c3, .int .i64 z] 31 [.int .u16 id, .bool reply, .int .i64 op, .bool auth, .bool trunc, .bool want, .bool avail, .int .i64 cd, .string qn, .int .u16 qt, .slice A1 n1 c1, .slice A2 n2 c2, .slice A3 n3 c3, .int .i64 z]).alloc (.cells #[.int .u16 uid, .bool ureply, .int .i64 uop, .bool uauth, .bool utrunc, .bool uwant, .bool uavail, .int .i64 ucd, .string uqn, .int .u16 uqt, .slice U1 un1 uc1, .slice U2 un2 uc2, .slice U3 un3 uc3, .int .i64 uz] 31)).alloc (.cells #[.int .u8 (kn : Nat), .int .u8 (hw : Nat), .slice NA nn nc, .slice RA rn rc] 51))
  have hU := (((Cs.new (w.alloc (.cells #[.int .u16 id, .bool reply, .int .i64 op, .bool auth, .bool trunc, .bool want, .bool avail, .int .i64 cd, .string qn, .int .u16 qt, .slice A1 n1 c1, .slice A2 n2 c2, .slice A3 n3 c3, .int .i64 z] 31)) #[.int .u16 uid, .bool ureply, .int .i64 uop, .bool uauth, .bool utrunc, .bool uwant, .bool uavail, .int .i64 ucd, .string uqn, .int .u16 uqt, .slice U1 un1 uc1, .slice U2 un2 uc2, .slice U3 un3 uc3, .int .i64 uz] 31 [.int .u16 uid, .bool ureply, .int .i64 uop, .bool uauth, .bool utrunc, .bool uwant, .bool uavail, .int .i64 ucd, .string uqn, .int .u16 uqt, .slice U1 un1 uc1, .slice U2 un2 uc2, .slice U3 un3 uc3, .int .i64 uz]).at_ (w.heap.size + 1) (by simp)).alloc (.cells #[.int .u8 (kn : Nat), .int .u8 (hw : Nat), .slice NA nn nc, .slice RA rn rc] 51))
  have hC := (Cs.new ((w.alloc (.cells #[.int .u16 id, .bool reply, .int .i64 op, .bool auth, .bool trunc, .bool want, .bool avail, .int .i64 cd, .string qn, .int .u16 qt, .slice A1 n1 c1, .slice A2 n2 c2, .slice A3 n3 c3, .int .i64 z] 31)).alloc (.cells #[.int .u16 uid, .bool ureply, .int .i64 uop, .bool uauth, .bool utrunc, .bool uwant, .bool uavail, .int .i64 ucd, .string uqn, .int .u16 uqt, .slice U1 un1 uc1, .slice U2 un2 uc2, .slice U3 un3 uc3, .int .i64 uz] 31)) #[.int .u8 (kn : Nat), .int .u8 (hw : Nat), .slice NA nn nc, .slice RA rn rc] 51 [.int .u8 (kn : Nat), .int .u8 (hw : Nat), .slice NA nn nc, .slice RA rn rc]).at_ (w.heap.size + 1 + 1) (by simp)
  have hb0 := (((Below.refl w.heap.size w).alloc (Nat.le_refl _) (.cells #[.int .u16 id, .bool reply, .int .i64 op, .bool auth, .bool trunc, .bool want, .bool avail, .int .i64 cd, .string qn, .int .u16 qt, .slice A1 n1 c1, .slice A2 n2 c2, .slice A3 n3 c3, .int .i64 z] 31)).alloc (by simp) (.cells #[.int .u16 uid, .bool ureply, .int .i64 uop, .bool uauth, .bool utrunc, .bool uwant, .bool uavail, .int .i64 ucd, .string uqn, .int .u16 uqt, .slice U1 un1 uc1, .slice U2 un2 uc2, .slice U3 un3 uc3, .int .i64 uz] 31)).alloc (by simp; omega) (.cells #[.int .u8 (kn : Nat), .int .u8 (hw : Nat), .slice NA nn nc, .slice RA rn rc] 51)
  go_enter Try.func5, Try.ntmps5
  go_wp2_with fail
  refine (AW.out _).mono ?_
  rintro e w1 ⟨rfl, hb1'⟩
  have hb1 := below_trans hb0 hb0.size hb1'
  have hlt0 := (hQ.below hb1').lt
  have hQ1 := hQ.below hb1'
  have hU1 := hU.below hb1'
  have hC1 := hC.below hb1'
  have c0 := hC1.get 0 _
  have c1 := hC1.get 1 _
  have c2 := hC1.get 2 _
  have c3 := hC1.get 3 _
  clear hQ hU hC hb0 hb1' AW
  go_wp2_with fail
  refine (CA.out _ hb1).mono ?_
  rintro e w2 ⟨s, b, X, xn, xc, rs, rfl, ha, hoX, hb2'⟩
  have hb2 := below_trans hb1 hb1.size hb2'
  have hb2a := hb2.alloc hb2.size (.cells #[.int .i64 ((K : Nat) : Int), .string s, .bool b, .slice X xn xc] 54)
  have hQ2 := (hQ1.below hb2').alloc (.cells #[.int .i64 ((K : Nat) : Int), .string s, .bool b, .slice X xn xc] 54)
  have hU2 := (hU1.below hb2').alloc (.cells #[.int .i64 ((K : Nat) : Int), .string s, .bool b, .slice X xn xc] 54)
  have hC2 := (hC1.below hb2').alloc (.cells #[.int .i64 ((K : Nat) : Int), .string s, .bool b, .slice X xn xc] 54)
  have hA2 := Cs.new w2 #[.int .i64 ((K : Nat) : Int), .string s, .bool b, .slice X xn xc] 54 [.int .i64 ((K : Nat) : Int), .string s, .bool b, .slice X xn xc]
  have ha2 := ha.below ((Below.refl w2.heap.size w2).alloc (Nat.le_refl _) (.cells #[.int .i64 ((K : Nat) : Int), .string s, .bool b, .slice X xn xc] 54))
  have hlt2 := (hC1.below hb2').lt
  clear c0 c1 c2 c3 hQ1 hU1 hC1 hb2' hb2 hb1 CA ha
  go_upto_region 4 with fail
  generalize hWA : w2.alloc (.cells #[.int .i64 ((K : Nat) : Int), .string s, .bool b, .slice X xn xc] 54) = WA at *
  generalize hAB : w2.heap.size = AB at *
  clear hWA hAB
  go_wp2_with fail
  refine (NM.out _ hb2a).mono ?_
  rintro e w3 ⟨rfl, hb3'⟩
  have hb3 := below_trans hb2a hb2a.size hb3'
  have hQ3 := hQ2.below hb3'
  have q8 := hQ3.get 8 _
  have f8 := hQ3.froz 8 (by simp)
  have hQ3a := hQ3.set' 8 (.string N) (by simp)
  simp only [List.set_cons_succ, List.set_cons_zero] at hQ3a
  have hU3a := (hU2.below hb3').other w.heap.size 8 (.string N) (by omega)
  have hC3a := (hC2.below hb3').other w.heap.size 8 (.string N) (by omega)
  have hA3a := (hA2.below hb3').other w.heap.size 8 (.string N) (by omega)
  have hb3a := hb3.setCell (p := ⟨w.heap.size, 8, none⟩) (by simp) (.string N)
  have ha3 := (ha2.below hb3').otherC w.heap.size 8 (.string N) (fun b off e => by have := hoX b off e; have := hlt0; omega)
  clear hQ2 hU2 hC2 hA2 hb2a hb3 NM ha2
  go_upto_region 5 with fail
  generalize hW4 : w3.setCell ⟨w.heap.size, 8, none⟩ (.string N) = W4 at *
  have c1 := hC3a.get 1 _
  have HoX := Lib.hid hoX
  clear hW4 hQ3 q8 f8 hb3' hoX
  obtain ⟨t4, ht4⟩ : ∃ t, decide (0 < G) = t := ⟨_, rfl⟩
  go_cut [30] (fun v wc => v = .bool t4 ∧ wc = W4)
  case first =>
    go_wp2_with fail
    go_meet
    exact ⟨rfl, rfl⟩
  case rest =>
  obtain ⟨rfl, rfl⟩ := hcut
  clear c1 ht4
  rename_i Kx hKx Ky hKy
  refine hKy _ _ ?_
  go_cut [30] (fun v wc => v = .bool t4 ∧ ∃ T : Int, Hid (Cs wc w.heap.size [.int .u16 id, .bool reply, .int .i64 op, .bool auth, .bool trunc, .bool want, .bool avail, .int .i64 cd, .string N, .int .u16 T, .slice A1 n1 c1, .slice A2 n2 c2, .slice A3 n3 c3, .int .i64 z]) ∧ Hid (Cs wc (w.heap.size + 1) [.int .u16 uid, .bool ureply, .int .i64 uop, .bool uauth, .bool utrunc, .bool uwant, .bool uavail, .int .i64 ucd, .string uqn, .int .u16 uqt, .slice U1 un1 uc1, .slice U2 un2 uc2, .slice U3 un3 uc3, .int .i64 uz]) ∧ Hid (Cs wc AB [.int .i64 ((K : Nat) : Int), .string s, .bool b, .slice X xn xc]) ∧ Hid (ActGood wc K s b X xn xc rs) ∧ Hid (Below w.heap.size w wc))
  case first =>
    cases t4 with
    | false =>
      go_wp2_with fail
      go_meet
      exact ⟨rfl, qt, Lib.hid hQ3a, Lib.hid hU3a, Lib.hid hA3a, Lib.hid ha3, Lib.hid hb3a⟩
    | true =>
      have hJc : (J = 0 ∨ J = 1) ∨ J = 2 := by omega
      have hcw := (hC3a.alloc (.cells #[.int .u16 1, .int .u16 16, .int .u16 28] 26))
      rcases hJc with (h | h) | h
      · have hJ0 : (hw : Int).tmod 3 = 0 := by rw [hJt, h]; rfl
        clear hJt h
        have c1 := hcw.get 1 _
        have hQa := hQ3a.alloc (.cells #[.int .u16 1, .int .u16 16, .int .u16 28] 26)
        have q9 := hQa.get 9 _
        have f9 := hQa.froz 9 (by simp)
        have hQl := hQa.lt
        have hQb := hQa.set' 9 (.int .u16 1) (by simp)
        simp only [List.set_cons_succ, List.set_cons_zero] at hQb
        have HQb := Lib.hid hQb
        clear hQb
        go_wp2_with fail
        go_meet
        exact ⟨rfl, 1, HQb, Lib.hid ((hU3a.alloc _).other _ _ _ (by omega)), Lib.hid ((hA3a.alloc _).other _ _ _ (by omega)), Lib.hid ((ha3.below ((Below.refl wc.heap.size wc).alloc (Nat.le_refl _) _)).otherC _ _ _ (fun b off e => by have := HoX.out b off e; have := hlt0; omega)), Lib.hid ((hb3a.alloc hb3a.size _).setCell (by simp) _)⟩
      · have hJ0 : (hw : Int).tmod 3 = 1 := by rw [hJt, h]; rfl
        clear hJt h
        have c1 := hcw.get 1 _
        have hQa := hQ3a.alloc (.cells #[.int .u16 1, .int .u16 16, .int .u16 28] 26)
        have q9 := hQa.get 9 _
        have f9 := hQa.froz 9 (by simp)
        have hQl := hQa.lt
        have hQb := hQa.set' 9 (.int .u16 16) (by simp)
        simp only [List.set_cons_succ, List.set_cons_zero] at hQb
        have HQb := Lib.hid hQb
        clear hQb
        go_wp2_with fail
        go_meet
        exact ⟨rfl, 16, HQb, Lib.hid ((hU3a.alloc _).other _ _ _ (by omega)), Lib.hid ((hA3a.alloc _).other _ _ _ (by omega)), Lib.hid ((ha3.below ((Below.refl wc.heap.size wc).alloc (Nat.le_refl _) _)).otherC _ _ _ (fun b off e => by have := HoX.out b off e; have := hlt0; omega)), Lib.hid ((hb3a.alloc hb3a.size _).setCell (by simp) _)⟩
      · have hJ0 : (hw : Int).tmod 3 = 2 := by rw [hJt, h]; rfl
        clear hJt h
        have c1 := hcw.get 1 _
        have hQa := hQ3a.alloc (.cells #[.int .u16 1, .int .u16 16, .int .u16 28] 26)
        have q9 := hQa.get 9 _
        have f9 := hQa.froz 9 (by simp)
        have hQl := hQa.lt
        have hQb := hQa.set' 9 (.int .u16 28) (by simp)
        simp only [List.set_cons_succ, List.set_cons_zero] at hQb
        have HQb := Lib.hid hQb
        clear hQb
        go_wp2_with fail
        go_meet
        exact ⟨rfl, 28, HQb, Lib.hid ((hU3a.alloc _).other _ _ _ (by omega)), Lib.hid ((hA3a.alloc _).other _ _ _ (by omega)), Lib.hid ((ha3.below ((Below.refl wc.heap.size wc).alloc (Nat.le_refl _) _)).otherC _ _ _ (fun b off e => by have := HoX.out b off e; have := hlt0; omega)), Lib.hid ((hb3a.alloc hb3a.size _).setCell (by simp) _)⟩
  case rest =>
  obtain ⟨rfl, T, HQ4, HU4, HA4, HG4, HB4⟩ := hcut
  clear hQ3a hU3a hC3a hA3a ha3 hb3a hJt hGt
  refine hKx _ _ ?_
  have TU1 := of_any ⟨id, reply, op, auth, trunc, want, avail, cd, N, T, A1, n1, c1, r1, A2, n2, c2, r2, A3, n3, c3, r3, z⟩ ⟨uid, ureply, uop, uauth, utrunc, uwant, uavail, ucd, uqn, uqt, U1, un1, uc1, s1, U2, un2, uc2, s2, U3, un3, uc3, s3, uz⟩ K s b X xn xc rs tcp wc (UPU.out.below HB4.out) HG4.out (by have := HNS.out; show N.size ≤ _; omega)
  have LB := fun w => lbase_any ⟨id, reply, op, auth, trunc, want, avail, cd, N, T, A1, n1, c1, r1, A2, n2, c2, r2, A3, n3, c3, r3, z⟩ 0 w (by decide)
  unfold TellsB at TU1
  unfold MsgT.base at LB
  unfold MsgT.v at *
  dsimp only at TU1 LB
  rw [show (0 : Int) % 16 = 0 by decide] at LB
  obtain ⟨t3, ht3⟩ : ∃ t, ((K : Int) == 3) = t := ⟨_, rfl⟩
  rw [ht3] at TU1
  generalize hmz : minZ z = mz at *
  have TU1 := Lib.hid TU1
  have LB := Lib.hid LB
  have HT3 := Lib.hid ht3
  have HMZ := Lib.hid hmz
  clear ht3 hmz
  have hQ4 := HQ4.out
  have hU4 := HU4.out
  have hA4 := HA4.out
  have hQl4 := hQ4.lt
  have hUl4 := hU4.lt
  have hAl4 := hA4.lt
  have q0 := hQ4.get 0 _
  have q1 := hQ4.get 1 _
  have q2 := hQ4.get 2 _
  have q3 := hQ4.get 3 _
  have q4 := hQ4.get 4 _
  have q5 := hQ4.get 5 _
  have q6 := hQ4.get 6 _
  have q7 := hQ4.get 7 _
  have q8 := hQ4.get 8 _
  have q9 := hQ4.get 9 _
  have q10 := hQ4.get 10 _
  have q11 := hQ4.get 11 _
  have q12 := hQ4.get 12 _
  have q13 := hQ4.get 13 _
  have u0 := hU4.get 0 _
  have u1 := hU4.get 1 _
  have u2 := hU4.get 2 _
  have u3 := hU4.get 3 _
  have u4 := hU4.get 4 _
  have u5 := hU4.get 5 _
  have u6 := hU4.get 6 _
  have u7 := hU4.get 7 _
  have u8 := hU4.get 8 _
  have u9 := hU4.get 9 _
  have u10 := hU4.get 10 _
  have u11 := hU4.get 11 _
  have u12 := hU4.get 12 _
  have u13 := hU4.get 13 _
  have a0 := hA4.get 0 _
  have a1 := hA4.get 1 _
  have a2 := hA4.get 2 _
  have a3 := hA4.get 3 _
  clear hQ4 hU4 hA4
  go_wp2_with fail
  refine (TU1.out).mono ?_
  rintro e w7 ⟨⟨xid, xreply, xop, xauth, xtrunc, xwant, xavail, xcd, xqn, xqt, X1, xn1, xc1, x1, X2, xn2, xc2, x2, X3, xn3, xc3, x3, xz⟩, rfl, hs7, hh7, -, hb7'⟩
  dsimp only
  have hb7 := below_trans HB4.out HB4.out.size hb7'
  have hb7a := hb7.alloc hb7.size (.cells #[.int .u16 xid, .bool xreply, .int .i64 xop, .bool xauth, .bool xtrunc, .bool xwant, .bool xavail, .int .i64 xcd, .string xqn, .int .u16 xqt, .slice X1 xn1 xc1, .slice X2 xn2 xc2, .slice X3 xn3 xc3, .int .i64 xz] 31)
  have hQ7 := (HQ4.out.below hb7').alloc (.cells #[.int .u16 xid, .bool xreply, .int .i64 xop, .bool xauth, .bool xtrunc, .bool xwant, .bool xavail, .int .i64 xcd, .string xqn, .int .u16 xqt, .slice X1 xn1 xc1, .slice X2 xn2 xc2, .slice X3 xn3 xc3, .int .i64 xz] 31)
  have hU7 := (HU4.out.below hb7').alloc (.cells #[.int .u16 xid, .bool xreply, .int .i64 xop, .bool xauth, .bool xtrunc, .bool xwant, .bool xavail, .int .i64 xcd, .string xqn, .int .u16 xqt, .slice X1 xn1 xc1, .slice X2 xn2 xc2, .slice X3 xn3 xc3, .int .i64 xz] 31)
  have hA7 := (HA4.out.below hb7').alloc (.cells #[.int .u16 xid, .bool xreply, .int .i64 xop, .bool xauth, .bool xtrunc, .bool xwant, .bool xavail, .int .i64 xcd, .string xqn, .int .u16 xqt, .slice X1 xn1 xc1, .slice X2 xn2 xc2, .slice X3 xn3 xc3, .int .i64 xz] 31)
  have hX7 := Cs.new w7 #[.int .u16 xid, .bool xreply, .int .i64 xop, .bool xauth, .bool xtrunc, .bool xwant, .bool xavail, .int .i64 xcd, .string xqn, .int .u16 xqt, .slice X1 xn1 xc1, .slice X2 xn2 xc2, .slice X3 xn3 xc3, .int .i64 xz] 31 [.int .u16 xid, .bool xreply, .int .i64 xop, .bool xauth, .bool xtrunc, .bool xwant, .bool xavail, .int .i64 xcd, .string xqn, .int .u16 xqt, .slice X1 xn1 xc1, .slice X2 xn2 xc2, .slice X3 xn3 xc3, .int .i64 xz]
  have hg7 := (HG4.out.below hb7').below ((Below.refl w7.heap.size w7).alloc (Nat.le_refl _) (.cells #[.int .u16 xid, .bool xreply, .int .i64 xop, .bool xauth, .bool xtrunc, .bool xwant, .bool xavail, .int .i64 xcd, .string xqn, .int .u16 xqt, .slice X1 xn1 xc1, .slice X2 xn2 xc2, .slice X3 xn3 xc3, .int .i64 xz] 31))
  have hh7a := hh7.below ((Below.refl w7.heap.size w7).alloc (Nat.le_refl _) (.cells #[.int .u16 xid, .bool xreply, .int .i64 xop, .bool xauth, .bool xtrunc, .bool xwant, .bool xavail, .int .i64 xcd, .string xqn, .int .u16 xqt, .slice X1 xn1 xc1, .slice X2 xn2 xc2, .slice X3 xn3 xc3, .int .i64 xz] 31))
  have hXq := (HQ4.out.below hb7').lt
  have hXu := (HU4.out.below hb7').lt
  have hXa := (HA4.out.below hb7').lt
  have HS := Lib.hid hs7
  clear q0 u0 q1 u1 q2 u2 q3 u3 q4 u4 q5 u5 q6 u6 q7 u7 q8 u8 q9 u9 q10 u10 q11 u11 q12 u12 q13 u13 a0 a1 a2 a3 hs7 hh7 TU1 hb7 hb7' HQ4 HU4 HA4 HG4 HB4
  go_upto_region 8 with fail
  have hXl := hX7.lt
  generalize hWX : w7.alloc (.cells #[.int .u16 xid, .bool xreply, .int .i64 xop, .bool xauth, .bool xtrunc, .bool xwant, .bool xavail, .int .i64 xcd, .string xqn, .int .u16 xqt, .slice X1 xn1 xc1, .slice X2 xn2 xc2, .slice X3 xn3 xc3, .int .i64 xz] 31) = W7 at *
  generalize hXB : w7.heap.size = XB at *
  clear hWX hXB
  have q0 := hQ7.get 0 _
  have q1 := hQ7.get 1 _
  have q2 := hQ7.get 2 _
  have q3 := hQ7.get 3 _
  have q4 := hQ7.get 4 _
  have q5 := hQ7.get 5 _
  have q6 := hQ7.get 6 _
  have q7 := hQ7.get 7 _
  have q8 := hQ7.get 8 _
  have q9 := hQ7.get 9 _
  have q10 := hQ7.get 10 _
  have q11 := hQ7.get 11 _
  have q12 := hQ7.get 12 _
  have q13 := hQ7.get 13 _
  have HB7 := Lib.hid hb7a
  have HG7 := Lib.hid hg7
  have HH7 := Lib.hid hh7a
  clear hb7a hg7 hh7a
  go_wp2_with fail
  refine (LB.out _).mono ?_
  rintro e w8 ⟨rfl, hb8'⟩
  have hb8 := below_trans HB7.out HB7.out.size hb8'
  have hQ8 := (hQ7.below hb8').alloc (.cells #[.int .u16 id, .bool true, .int .i64 op, .bool false, .bool false, .bool want, .bool true, .int .i64 0, .string N, .int .u16 T, .slice none 0 0, .slice none 0 0, .slice none 0 0, .int .i64 mz] 31)
  have hU8 := (hU7.below hb8').alloc (.cells #[.int .u16 id, .bool true, .int .i64 op, .bool false, .bool false, .bool want, .bool true, .int .i64 0, .string N, .int .u16 T, .slice none 0 0, .slice none 0 0, .slice none 0 0, .int .i64 mz] 31)
  have hA8 := (hA7.below hb8').alloc (.cells #[.int .u16 id, .bool true, .int .i64 op, .bool false, .bool false, .bool want, .bool true, .int .i64 0, .string N, .int .u16 T, .slice none 0 0, .slice none 0 0, .slice none 0 0, .int .i64 mz] 31)
  have hX8 := (hX7.below hb8').alloc (.cells #[.int .u16 id, .bool true, .int .i64 op, .bool false, .bool false, .bool want, .bool true, .int .i64 0, .string N, .int .u16 T, .slice none 0 0, .slice none 0 0, .slice none 0 0, .int .i64 mz] 31)
  have hT8 := Cs.new w8 #[.int .u16 id, .bool true, .int .i64 op, .bool false, .bool false, .bool want, .bool true, .int .i64 0, .string N, .int .u16 T, .slice none 0 0, .slice none 0 0, .slice none 0 0, .int .i64 mz] 31 [.int .u16 id, .bool true, .int .i64 op, .bool false, .bool false, .bool want, .bool true, .int .i64 0, .string N, .int .u16 T, .slice none 0 0, .slice none 0 0, .slice none 0 0, .int .i64 mz]
  have hTx := (hX7.below hb8').lt
  have h08 := HH7.out.below hb8'
  have hh8 := h08.below ((Below.refl w8.heap.size w8).alloc (Nat.le_refl _) (.cells #[.int .u16 id, .bool true, .int .i64 op, .bool false, .bool false, .bool want, .bool true, .int .i64 0, .string N, .int .u16 T, .slice none 0 0, .slice none 0 0, .slice none 0 0, .int .i64 mz] 31))
  have HG7o := HG7.out.below hb8'
  have hg8 := (HG7.out.below hb8').below ((Below.refl w8.heap.size w8).alloc (Nat.le_refl _) (.cells #[.int .u16 id, .bool true, .int .i64 op, .bool false, .bool false, .bool want, .bool true, .int .i64 0, .string N, .int .u16 T, .slice none 0 0, .slice none 0 0, .slice none 0 0, .int .i64 mz] 31))
  have hb8a := hb8.alloc hb8.size (.cells #[.int .u16 id, .bool true, .int .i64 op, .bool false, .bool false, .bool want, .bool true, .int .i64 0, .string N, .int .u16 T, .slice none 0 0, .slice none 0 0, .slice none 0 0, .int .i64 mz] 31)
  have hupu := UPU.out.below hb8a
  have hg08 := HG7o
  have hwT := hb8.size
  have hW8s : (w8.alloc (.cells #[.int .u16 id, .bool true, .int .i64 op, .bool false, .bool false, .bool want, .bool true, .int .i64 0, .string N, .int .u16 T, .slice none 0 0, .slice none 0 0, .slice none 0 0, .int .i64 mz] 31)).heap.size = w8.heap.size + 1 := by simp
  clear q0 q1 q2 q3 q4 q5 q6 q7 q8 q9 q10 q11 q12 q13 hQ7 hU7 hA7 hX7 HB7 HG7 HH7 hb8 hb8' LB
  go_upto_region 9 with fail
  have hTl := hT8.lt
  generalize hWT : w8.alloc (.cells #[.int .u16 id, .bool true, .int .i64 op, .bool false, .bool false, .bool want, .bool true, .int .i64 0, .string N, .int .u16 T, .slice none 0 0, .slice none 0 0, .slice none 0 0, .int .i64 mz] 31) = W8 at *
  generalize hTB : w8.heap.size = TB at *
  have hz8 := Nat.le_of_eq hTB
  clear hWT
  have a0 := hA8.get 0 _
  have HQ := Lib.hid hQ8
  have HU := Lib.hid hU8
  have HA := Lib.hid hA8
  have HX := Lib.hid hX8
  have HT := Lib.hid hT8
  have HH0 := Lib.hid h08
  have HH := Lib.hid hh8
  have HG := Lib.hid hg8
  have HB := Lib.hid hb8a
  have HZ := Lib.hid hz8
  have HUP := Lib.hid hupu
  have HUH := Lib.hid UPU.out.has
  have HUL := Lib.hid hwT
  have HW8 := Lib.hid hW8s
  have HG0 := Lib.hid hg08
  clear hQ8 hU8 hA8 hX8 hT8 h08 hh8 hg8 hb8a hz8 hTB hupu
  go_upto_block 0 with fail
  go_cut [] (fun wc => t3 = false ∧ ∃ wt : MsgT, Hid (Cs wc XB [.int .u16 xid, .bool xreply, .int .i64 xop, .bool xauth, .bool xtrunc, .bool xwant, .bool xavail, .int .i64 xcd, .string xqn, .int .u16 xqt, .slice X1 xn1 xc1, .slice X2 xn2 xc2, .slice X3 xn3 xc3, .int .i64 xz]) ∧ Hid (Cs wc TB wt.cells) ∧ Hid (MsgHas wc ⟨xid, xreply, xop, xauth, xtrunc, xwant, xavail, xcd, xqn, xqt, X1, xn1, xc1, x1, X2, xn2, xc2, x2, X3, xn3, xc3, x3, xz⟩) ∧ Hid (MsgHas wc wt) ∧ Hid (SameT ⟨xid, xreply, xop, xauth, xtrunc, xwant, xavail, xcd, xqn, xqt, X1, xn1, xc1, x1, X2, xn2, xc2, x2, X3, xn3, xc3, x3, xz⟩ wt) ∧ Hid (Below w.heap.size w wc))
  case first =>
    have hk := HKK.out
    have e3 : ((K : Int) == 3) = false := by rw [beq_eq_false_iff_ne]; omega
    have e4 : ((K : Int) == 4) = false := by rw [beq_eq_false_iff_ne]; omega
    have e5 : ((K : Int) == 5) = false := by rw [beq_eq_false_iff_ne]; omega
    have e6 : ((K : Int) == 6) = true := by rw [beq_iff_eq]; omega
    have ht3 : t3 = false := by rw [← HT3.out]; exact e3
    subst ht3
    have hT := HT.out
    have t4 := hT.get 4 _
    have f4 := hT.froz 4 (by simp)
    have hT2 := hT.set' 4 (.bool true) (by simp)
    simp only [List.set_cons_succ, List.set_cons_zero] at hT2
    have HT2 := Lib.hid hT2
    clear hT hT2
    cases tcp with
    | false =>
      have hOF : ofT ⟨id, reply, op, auth, trunc, want, avail, cd, N, T, A1, n1, c1, r1, A2, n2, c2, r2, A3, n3, c3, r3, z⟩ ⟨uid, ureply, uop, uauth, utrunc, uwant, uavail, ucd, uqn, uqt, U1, un1, uc1, s1, U2, un2, uc2, s2, U3, un3, uc3, s3, uz⟩ (K : Int) s b rs false = MsgT.baseT ⟨id, reply, op, auth, trunc, want, avail, cd, N, T, A1, n1, c1, r1, A2, n2, c2, r2, A3, n3, c3, r3, z⟩ 0 true [] := by (obtain rfl : K = 6 := by omega); rfl
      clear hk
      go_wp2_with fail
      go_meet
      exact ⟨trivial, ⟨id, true, op, false, true, want, true, 0, N, T, none, 0, 0, [], none, 0, 0, [], none, 0, 0, [], mz⟩, Lib.hid (HX.out.other _ _ _ (by omega)), HT2, Lib.hid (HH.out.otherTop HH0.out _ _ _ HZ.out), Lib.hid ⟨Recs.nil _ _, Recs.nil _ _, Recs.nil _ _, rfl, rfl, rfl, Nat.zero_le _, Nat.zero_le _, Nat.zero_le _⟩, Lib.hid (by have q := HS.out; rw [hOF] at q; exact q.trans ⟨rfl, rfl, rfl, rfl, rfl, rfl, rfl, rfl, rfl, rfl, HMZ.out, rfl, rfl, rfl⟩), Lib.hid (HB.out.setCell (by simp; omega) _)⟩
    | true =>
      have hOF : ofT ⟨id, reply, op, auth, trunc, want, avail, cd, N, T, A1, n1, c1, r1, A2, n2, c2, r2, A3, n3, c3, r3, z⟩ ⟨uid, ureply, uop, uauth, utrunc, uwant, uavail, ucd, uqn, uqt, U1, un1, uc1, s1, U2, un2, uc2, s2, U3, un3, uc3, s3, uz⟩ (K : Int) s b rs true = MsgT.passT ⟨id, reply, op, auth, trunc, want, avail, cd, N, T, A1, n1, c1, r1, A2, n2, c2, r2, A3, n3, c3, r3, z⟩ ⟨uid, ureply, uop, uauth, utrunc, uwant, uavail, ucd, uqn, uqt, U1, un1, uc1, s1, U2, un2, uc2, s2, U3, un3, uc3, s3, uz⟩ := ofT_pass _ _ _ _ _ _ _ (by (obtain rfl : K = 6 := by omega); rfl)
      have hup6 := HUP.out.otherTop HUH.out TB 4 (.bool true) (by have := HUL.out; omega)
      have PT := lpassed_tells ⟨id, reply, op, auth, trunc, want, avail, cd, N, T, A1, n1, c1, r1, A2, n2, c2, r2, A3, n3, c3, r3, z⟩ ⟨uid, ureply, uop, uauth, utrunc, uwant, uavail, ucd, uqn, uqt, U1, un1, uc1, s1, U2, un2, uc2, s2, U3, un3, uc3, s3, uz⟩ (W8.setCell ⟨TB, 4, none⟩ (.bool true)) HUC.out hup6.has hup6.d1 hup6.d2 hup6.d3 hup6.b1 hup6.b2 hup6.b3
      unfold TellsM at PT
      unfold MsgT.v at PT
      dsimp only at PT
      have PT := Lib.hid PT
      have hq := HQ.out.other TB 4 (.bool true) (by omega)
      have hu := HU.out.other TB 4 (.bool true) (by omega)
      have q0 := hq.get 0 _
      have q1 := hq.get 1 _
      have q2 := hq.get 2 _
      have q3 := hq.get 3 _
      have q4 := hq.get 4 _
      have q5 := hq.get 5 _
      have q6 := hq.get 6 _
      have q7 := hq.get 7 _
      have q8 := hq.get 8 _
      have q9 := hq.get 9 _
      have q10 := hq.get 10 _
      have q11 := hq.get 11 _
      have q12 := hq.get 12 _
      have q13 := hq.get 13 _
      have u0 := hu.get 0 _
      have u1 := hu.get 1 _
      have u2 := hu.get 2 _
      have u3 := hu.get 3 _
      have u4 := hu.get 4 _
      have u5 := hu.get 5 _
      have u6 := hu.get 6 _
      have u7 := hu.get 7 _
      have u8 := hu.get 8 _
      have u9 := hu.get 9 _
      have u10 := hu.get 10 _
      have u11 := hu.get 11 _
      have u12 := hu.get 12 _
      have u13 := hu.get 13 _
      have hxp := Lib.hid (HX.out.other TB 4 (.bool true) (by omega))
      have htp := Lib.hid HT2.out
      have hhp := Lib.hid (HH.out.otherTop HH0.out TB 4 (.bool true) HZ.out)
      have hbp := Lib.hid (HB.out.setCell (p := ⟨TB, 4, none⟩) (by simp; omega) (.bool true))
      clear hq hu hk
      go_wp2_with fail
      refine PT.out.mono ?_
      rintro e w9 ⟨⟨yid, yreply, yop, yauth, ytrunc, ywant, yavail, ycd, yqn, yqt, Y1, yn1, yc1, y1, Y2, yn2, yc2, y2, Y3, yn3, yc3, y3, yz⟩, rfl, hs9, hh9, ho9, hb9'⟩
      dsimp only
      have HO9 := Lib.hid ho9
      have HS9 := Lib.hid hs9
      have HH9 := Lib.hid hh9
      have HB9 := Lib.hid (below_trans hbp.out hbp.out.size hb9')
      have hX9 := Lib.hid (hxp.out.below hb9')
      have hM9 := Lib.hid (hhp.out.below hb9')
      have hT9 := htp.out.below hb9'
      have hTw := htp.out.lt
      have t0 := hT9.get 0 _
      have t1 := hT9.get 1 _
      have t2 := hT9.get 2 _
      have t3 := hT9.get 3 _
      have t4 := hT9.get 4 _
      have t5 := hT9.get 5 _
      have t6 := hT9.get 6 _
      have t7 := hT9.get 7 _
      have t8 := hT9.get 8 _
      have t9 := hT9.get 9 _
      have t10 := hT9.get 10 _
      have t11 := hT9.get 11 _
      have t12 := hT9.get 12 _
      have t13 := hT9.get 13 _
      have f0 := hT9.froz 0 (by simp)
      have f1 := hT9.froz 1 (by simp)
      have f2 := hT9.froz 2 (by simp)
      have f3 := hT9.froz 3 (by simp)
      have f4 := hT9.froz 4 (by simp)
      have f5 := hT9.froz 5 (by simp)
      have f6 := hT9.froz 6 (by simp)
      have f7 := hT9.froz 7 (by simp)
      have f8 := hT9.froz 8 (by simp)
      have f9 := hT9.froz 9 (by simp)
      have f10 := hT9.froz 10 (by simp)
      have f11 := hT9.froz 11 (by simp)
      have f12 := hT9.froz 12 (by simp)
      have f13 := hT9.froz 13 (by simp)
      have HT9 := Lib.hid hT9
      clear hT9 hs9 hh9 ho9 hb9' PT q0 q1 q2 q3 q4 q5 q6 q7 q8 q9 q10 q11 q12 q13 u0 u1 u2 u3 u4 u5 u6 u7 u8 u9 u10 u11 u12 u13
      go_wp2_with fail
      go_meet
      refine ⟨trivial, ⟨yid, yreply, yop, yauth, ytrunc, ywant, yavail, ycd, yqn, yqt, Y1, yn1, yc1, y1, Y2, yn2, yc2, y2, Y3, yn3, yc3, y3, yz⟩, Lib.hid ?_, Lib.hid (HT9.out.all14 _ _ _ _ _ _ _ _ _ _ _ _ _ _), Lib.hid ?_, Lib.hid ?_, Lib.hid (by have q := HS.out; rw [hOF] at q; exact q.trans HS9.out.symm), Lib.hid ?_⟩
      · iterate 14 (refine Cs.other ?_ _ _ _ (by omega))
        exact hX9.out
      · iterate 14 (refine MsgHas.otherTop ?_ HH0.out _ _ _ HZ.out)
        exact hM9.out
      · iterate 14 (refine MsgHas.other ?_ HO9.out _ _ _ (by omega))
        exact HH9.out
      · iterate 14 (refine Below.setCell ?_ (by simp; omega) _)
        exact HB9.out
  case rest =>
  obtain ⟨rfl, wt, HXz, HTz, HHz, HWz, HSz, HBz⟩ := hcut
  obtain ⟨yid, yreply, yop, yauth, ytrunc, ywant, yavail, ycd, yqn, yqt, Y1, yn1, yc1, y1, Y2, yn2, yc2, y2, Y3, yn3, yc3, y3, yz⟩ := wt
  have SM := same_msgT ⟨xid, xreply, xop, xauth, xtrunc, xwant, xavail, xcd, xqn, xqt, X1, xn1, xc1, x1, X2, xn2, xc2, x2, X3, xn3, xc3, x3, xz⟩ ⟨yid, yreply, yop, yauth, ytrunc, ywant, yavail, ycd, yqn, yqt, Y1, yn1, yc1, y1, Y2, yn2, yc2, y2, Y3, yn3, yc3, y3, yz⟩ _ HHz.out HWz.out HSz.out
  unfold MsgT.v at SM
  dsimp only at SM
  have SM := Lib.hid SM
  have hXz := HXz.out
  have hTz := HTz.out
  unfold MsgT.cells at hTz
  dsimp only at hTz
  have m0 := hXz.get 0 _
  have m1 := hXz.get 1 _
  have m2 := hXz.get 2 _
  have m3 := hXz.get 3 _
  have m4 := hXz.get 4 _
  have m5 := hXz.get 5 _
  have m6 := hXz.get 6 _
  have m7 := hXz.get 7 _
  have m8 := hXz.get 8 _
  have m9 := hXz.get 9 _
  have m10 := hXz.get 10 _
  have m11 := hXz.get 11 _
  have m12 := hXz.get 12 _
  have m13 := hXz.get 13 _
  have k0 := hTz.get 0 _
  have k1 := hTz.get 1 _
  have k2 := hTz.get 2 _
  have k3 := hTz.get 3 _
  have k4 := hTz.get 4 _
  have k5 := hTz.get 5 _
  have k6 := hTz.get 6 _
  have k7 := hTz.get 7 _
  have k8 := hTz.get 8 _
  have k9 := hTz.get 9 _
  have k10 := hTz.get 10 _
  have k11 := hTz.get 11 _
  have k12 := hTz.get 12 _
  have k13 := hTz.get 13 _
  clear hXz hTz a0
  go_wp2_with fail
  refine SM.out.mono ?_
  rintro e wz ⟨rfl, hbz'⟩
  have hbz := below_trans HBz.out HBz.out.size hbz'
  go_wp2_with fail
  go_ret
  exact ⟨rfl, hbz⟩
end Go.Proofs.Ytbjbppnjheaecaa
