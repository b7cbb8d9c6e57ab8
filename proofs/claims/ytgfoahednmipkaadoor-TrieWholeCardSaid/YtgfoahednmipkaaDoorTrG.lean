/- trie.del of any tree. -/
import Derived.Test.YtgfoahednmipkaaDoorTrF
namespace Go.Proofs.YtgfoahednmipkaaDoor
open Go.RowKit
set_option linter.unusedVariables false
set_option maxRecDepth 20000
attribute [local simp] putsF isV wordOf Deps Region.binds Region.wanted Act.put wantedX isB
theorem TrM.none_iff {w : World} {t : Tr} {p : Option Nat} {bs : List Nat} (h : TrM w t p bs) : p = none ↔ t = .nil := by
  constructor
  · rintro rfl; exact h.nil_ptr.1
  · rintro rfl; exact h.1
/-- What is left of a node. -/
theorem need_mem {w wx : World} {k : List UInt8} {v : Int} {h : Bool} {c : Bool → Tr} {b : Nat} {ps : Bool → Option Nat} {bs : List Nat} (hp : PutW w (.node k v h c) bs (some b) wx) (hc : Cs wx b [.string (sb k), .int .i64 v, .bool h, ptrV (ps false), ptrV (ps true)]) :
    PutW w (needR k v h c) bs (needP h (ps false) (ps true) b) wx := by
  obtain ⟨bs', ⟨b', ps', bb, e, rfl, hc', hk⟩, h2, h3, h4⟩ := hp
  injection e with e
  subst e
  have inj : ∀ {p q : Option Nat}, ptrV p = ptrV q → p = q := fun {p q} e => by
    cases p <;> cases q <;> simp [ptrV] at e <;> simp_all
  have e3 : ps false = ps' false := inj (by
    have x1 := hc.get 3 _
    have x2 := hc'.get 3 _
    rw [x1] at x2; exact Option.some.inj x2)
  have e4 : ps true = ps' true := inj (by
    have x1 := hc.get 4 _
    have x2 := hc'.get 4 _
    rw [x1] at x2; exact Option.some.inj x2)
  rw [e3, e4]
  obtain ⟨n1, n2, n3⟩ := bb_nodup h2
  have i0 := (hk false).none_iff
  have i1 := (hk true).none_iff
  have own : PutW w (.node k v h c) bs (some b) wx := ⟨_, ⟨b, ps', bb, rfl, rfl, hc', hk⟩, h2, h3, h4⟩
  have left : PutW w (c false) bs (ps' false) wx := ⟨_, hk false, n1 _, fun x hx => h3 x (mem_bb hx), h4⟩
  have right : PutW w (c true) bs (ps' true) wx := ⟨_, hk true, n1 _, fun x hx => h3 x (mem_bb hx), h4⟩
  cases h with
  | true => simp only [needR, needP]; exact own
  | false =>
    cases hl : c false with
    | nil =>
      have : ps' false = none := i0.2 hl
      rw [this]
      simp only [needR, needP, hl]
      exact right
    | node k1 v1 g1 c1 =>
      cases hp0 : ps' false with
      | none => exact absurd (i0.1 hp0) (by rw [hl]; simp)
      | some b0 =>
        cases hr : c true with
        | nil =>
          have : ps' true = none := i1.2 hr
          rw [this]
          simp only [needR, needP, hl, hr]
          rw [hl, hp0] at left
          exact left
        | node k2 v2 g2 c2 =>
          cases hp1 : ps' true with
          | none => exact absurd (i1.1 hp1) (by rw [hr]; simp)
          | some b1 =>
            simp only [needR, needP, hl, hr]
            exact own
set_option maxHeartbeats 3200000 in
/-- del. -/
theorem del_any (q : List UInt8) (hl : q.length ≤ 128) (t : Tr) : ∀ (p : Option Nat) (bs : List Nat) (w : World) (pre : List UInt8) (y : Int), t.Fit → t.Ok pre → t.Has q y → TrM w t p bs → bs.Nodup →
    Calls Tryd.prog 19 #[ptrV p, .string (sb q)] w (PutP w (delR t q) bs) := by
  induction t with
  | nil => intro p bs w pre y _ _ h; exact absurd h (by simp [Tr.Has])
  | node k v h c ih =>
    intro p bs w pre y hfit hok hhas hm hnd
    obtain ⟨hkl, hkb, hkf⟩ := hfit
    have h3 := hok.2.2.2.1
    have hn := (Tr.has_node h3).1 hhas
    have hbq := (Tr.has_pre hok hhas).2
    have hmax : maxLen = 9223372036854775807 := by decide
    obtain ⟨b, ps, bb, rfl, rfl, hc, hk⟩ := hm
    rw [ptrV_some]
    have HC := Lib.hid hc
    have c0 := hc.get 0 _
    have hb := hc.lt
    have hsk := sb_size k
    by_cases hkq : k = q
    · subst hkq
      have HDEL : Hid (delR (.node k v h c) k = needR k 0 false c) := Lib.hid (by simp only [delR, if_pos])
      rw [HDEL.out]
      have HOWN := Lib.hid (own_put hc hk hnd 0 0 false)
      have HNEED := Lib.hid (needed_any b _ _ _ _ _ _ HOWN.out.2)
      have HFIN := Lib.hid (need_mem HOWN.out.1 HOWN.out.2)
      have f0 : ((sb k).toList == (sb k).toList) = true := str_same _ _ rfl
      have c1 := hc.get 1 _
      have c2 := hc.get 2 _
      have f1 := hc.froz 1 (by simp)
      have f2 := hc.froz 2 (by simp)
      have HNEED2 : Hid (Calls Tryd.prog 25 #[.pointer (some ⟨b, 0, none⟩)] ((w.setCell ⟨b, 1, none⟩ (.int .i64 0)).setCell ⟨b, 2, none⟩ (.bool false)) _) := HNEED
      have HFIN2 : Hid (PutW w (needR k 0 false c) (b :: (bb false ++ bb true)) (needP false (ps false) (ps true) b) ((w.setCell ⟨b, 1, none⟩ (.int .i64 0)).setCell ⟨b, 2, none⟩ (.bool false))) := HFIN
      generalize needR k 0 false c = TT at *
      clear hok hhas hn h3 hbq hkf hkb hc hk hnd ih hmax hsk HOWN HNEED HFIN HDEL
      go_enter Tryd.func19, Tryd.ntmps19
      go_wp2_with fail
      refine HNEED2.out.mono ?_
      rintro e wz ⟨rfl, n, rfl⟩
      go_wp2_with fail
      go_ret
      exact (HFIN2.out.drewN' n).p
    · obtain ⟨a1, a2, a3⟩ : k <+: q ∧ k.length < q.length ∧ (c (side q k.length)).Has q y := by
        rcases hn with ⟨_, e, _⟩ | e
        · exact absurd e.symm hkq
        · exact e
      have HDEL : Hid (delR (.node k v h c) q = needR k v h (updC c (side q k.length) (delR (c (side q k.length)) q))) := Lib.hid (by simp only [delR, if_neg hkq])
      rw [HDEL.out]
      have HSIDE := Lib.hid (fun w => side_any q k.length w hbq a2 (by omega))
      have HCALL : Hid (∀ n, Calls Tryd.prog 19 #[ptrV (ps (side q k.length)), .string (sb q)] (w.drewN n) fun e w' => ∃ p', e = .returned (ptrV p') ∧ PutW w (delR (c (side q k.length)) q) (bb (side q k.length)) p' w') :=
        Lib.hid (fun n => (ih _ (ps _) (bb _) (w.drewN n) _ y (hkf _) (h3 _) a3 ((hk _).drewN n) ((bb_nodup hnd).1 _)).mono (fun e w' hp => by
          obtain ⟨p', h1, h2⟩ := hp.w
          exact ⟨p', h1, h2.drewN⟩))
      have f0 : ((sb k).toList == (sb q).toList) = false := str_other _ _ (by rw [sb_list, sb_list]; exact hkq)
      obtain ⟨s, hs⟩ : ∃ s, side q k.length = s := ⟨_, rfl⟩
      rw [hs] at HSIDE HCALL ⊢
      obtain ⟨T, hT⟩ : ∃ T, delR (c s) q = T := ⟨_, rfl⟩
      rw [hT] at HCALL ⊢
      have HPUT := Lib.hid (fun (p' : Option Nat) (wx : World) (hp : PutW w T (bb s) p' wx) => kid_put hc hk hnd hp)
      have HFIN : Hid (∀ (p' : Option Nat) (wx : World), PutW w T (bb s) p' wx → PutW w (needR k v h (updC c s T)) (b :: (bb false ++ bb true)) (needP h (updP ps s p' false) (updP ps s p' true) b) (wx.setCell ⟨b, offB s, none⟩ (ptrV p')) ∧
          Calls Tryd.prog 25 #[.pointer (some ⟨b, 0, none⟩)] (wx.setCell ⟨b, offB s, none⟩ (ptrV p')) fun e w' => e = .returned (ptrV (needP h (updP ps s p' false) (updP ps s p' true) b)) ∧ ∃ n, w' = (wx.setCell ⟨b, offB s, none⟩ (ptrV p')).drewN n) :=
        Lib.hid (fun p' wx hp => ⟨need_mem (HPUT.out p' wx hp).1 (HPUT.out p' wx hp).2, needed_any b _ _ _ _ _ _ (HPUT.out p' wx hp).2⟩)
      have HCX : Hid (∀ (v' : Value) (wx : World), ((∃ n, wx = w.drewN n) ∨ ∃ p', v' = ptrV p' ∧ PutW w T (bb s) p' wx) → Cs wx b [.string (sb k), .int .i64 v, .bool h, ptrV (ps false), ptrV (ps true)]) := Lib.hid (fun v' wx h => by
        rcases h with ⟨n, rfl⟩ | ⟨p', -, hp⟩
        · exact HC.out.drewN n
        · exact kid_cs HC.out hnd hp)
      generalize needR k v h (updC c s T) = TT at *
      obtain ⟨K, hK⟩ : ∃ K, k.length = K := ⟨_, rfl⟩
      rw [hK] at HSIDE hsk
      obtain ⟨KS, hKS⟩ : ∃ KS, sb k = KS := ⟨_, rfl⟩
      obtain ⟨QS, hQS⟩ : ∃ QS, sb q = QS := ⟨_, rfl⟩
      rw [hKS] at hsk HC HCX c0 f0
      rw [hQS] at HSIDE HCALL f0 ⊢
      clear hs hT hK hKS hQS hok hhas hn h3 hbq hkf hkb hc hk hnd ih hmax HDEL HPUT a1 a2 a3 hkl hkq
      cases s with
      | true =>
        simp only [if_true] at HSIDE
        have HFIN2 : Hid (∀ (p' : Option Nat) (wx : World), PutW w T (bb true) p' wx → PutW w TT (b :: (bb false ++ bb true)) (needP h (updP ps true p' false) (updP ps true p' true) b) (wx.setCell ⟨b, 4, none⟩ (ptrV p')) ∧
          Calls Tryd.prog 25 #[.pointer (some ⟨b, 0, none⟩)] (wx.setCell ⟨b, 4, none⟩ (ptrV p')) fun e w' => e = .returned (ptrV (needP h (updP ps true p' false) (updP ps true p' true) b)) ∧ ∃ n, w' = (wx.setCell ⟨b, 4, none⟩ (ptrV p')).drewN n) := HFIN
        clear HFIN
        go_enter Tryd.func19, Tryd.ntmps19
        go_upto_region 4 with (first
          | (go_at_call 23; refine (HSIDE.out _).mono ?_; rintro e w1 ⟨rfl, rfl⟩))
        refine wp_region_expR tri_follows (fun x => by simp [putsF, Act.put]; rfl) (CallSt 9 13 (fun wx => ∃ n, wx = w.drewN n) (fun v wx => ∃ p', v = ptrV p' ∧ PutW w T (bb true) p' wx) (fun wx => ∃ p' wy, PutW w T (bb true) p' wy ∧ wx = wy.setCell ⟨b, 4, none⟩ (ptrV p')))
          [isX (.pointer (some ⟨b, 0, none⟩)), isX (.int .i64 1), isX (.pointer (some ⟨b, 0, none⟩)), isX (.int .i64 1), isX (.pointer (some ⟨b, 0, none⟩)), isX (.pointer (some ⟨b, 3, none⟩)), isX (.pointer (some ⟨b, 4, none⟩)), isX (ptrV (ps true)), isX (.string QS), anyX, isX (.pointer (some ⟨b, 0, none⟩)), isX (.pointer (some ⟨b, 3, none⟩)), isX (.pointer (some ⟨b, 4, none⟩)), anyX]
          [9, 13] (by kernel_rfl) (by kernel_rfl) (by kernel_rfl) rfl ?_ (CallSt.start ⟨1, rfl⟩) ?_ ?_ ?_
        · repeat (first | exact trivial | refine ⟨by first | exact isX_stays _ | exact anyX_stays, ?_⟩)
        · refine ⟨?_, ?_, ?_, ?_, ?_, ?_, ?_, ?_, ?_, skipped rfl, ?_, ?_, ?_, skipped rfl, trivial⟩
          all_goals
            intro _ d x wx hR hdi hsrc hd
            refine ⟨fun _ => ?_, fun hX => by simp at hX⟩
            have hcx := HCX.out _ _ (hR.has hdi (by decide))
            have hR' := Lib.hid (fun v => hR.plain v hdi (by decide) (by decide))
            have c3 := hcx.get 3 _
            have c4 := hcx.get 4 _
            have cl := hcx.lt
            clear hR hcx
            simp [wordX, isX] at hd ⊢
            go_simp; exact nextXR _ rfl rfl (hR'.out _) (Below.refl _ _)
        · refine ⟨unskipped rfl, unskipped rfl, unskipped rfl, unskipped rfl, unskipped rfl, unskipped rfl, unskipped rfl, unskipped rfl, unskipped rfl, ?_, unskipped rfl, unskipped rfl, unskipped rfl, ?_, trivial⟩
          · intro _ d x wx hR hdi hcl hsrc hd
            refine ⟨fun _ => ?_, fun hX => by simp at hX⟩
            have d7 : d 7 = true := SrcX.reach (K := 9) hcl hsrc rfl 20 7 (by decide) (by kernel_rfl)
            have d8 : d 8 = true := SrcX.reach (K := 9) hcl hsrc rfl 20 8 (by decide) (by kernel_rfl)
            simp only [DoneX] at hd
            obtain ⟨-, -, -, -, -, -, -, g7, g8, -⟩ := hd
            have h7 : x 7 = ptrV (ps true) := g7 d7
            have h8 : x 8 = .string QS := g8 d8
            obtain ⟨m, rfl⟩ := hR.pre hdi (by decide)
            have hR' := Lib.hid (fun v w' hm => hR.call (v := v) (w' := w') hdi (by decide) hm)
            try dsimp only
            rw [h7, h8]
            clear h7 h8 g7 g8 hR d7 d8
            go_simp
            go_at_call 19
            refine (HCALL.out m).mono ?_
            rintro e wy ⟨p', rfl, hp⟩
            exact nextKR _ rfl trivial (hR'.out _ _ ⟨p', rfl, hp⟩) ⟨fun _ _ h => h, fun _ _ h => h, fun _ _ h => h, fun _ _ h => h, fun _ _ h => h, fun _ _ h => h, fun _ _ h => h, fun _ _ h => h, fun _ _ h => h, fun _ _ h => h, fun _ _ h => h, fun _ _ h => h, fun _ _ h => h, fun _ _ h => h, trivial⟩
          · intro _ d x wx hR hdi hcl hsrc hd
            refine ⟨fun _ => ?_, fun hX => by simp at hX⟩
            have hall : ∀ i, i < 13 → d i = true := fun i hi => SrcX.reach (K := 13) hcl hsrc rfl 20 i (by omega) (by revert i hi; decide +kernel)
            simp only [DoneX] at hd
            obtain ⟨-, -, -, -, -, -, -, -, -, -, -, -, g12, -⟩ := hd
            have h12 : x 12 = .pointer (some ⟨b, 4, none⟩) := g12 (hall 12 (by decide))
            obtain ⟨p', h9, hp⟩ := hR.mid hdi (hall 9 (by decide))
            have hcx := HCX.out (ptrV p') wx (.inr ⟨p', rfl, hp⟩)
            have HP := Lib.hid hp
            have c4 := hcx.get 4 _
            have f4 := hcx.froz 4 (by simp)
            have cl := hcx.lt
            have HALL := Lib.hid hall
            clear hcx hp hR hall
            try dsimp only
            rw [h12, h9]
            clear h12 h9 g12
            unfold ptrV at c4 ⊢
            go_simp
            exact nextKR undef rfl trivial (CallSt.store HALL.out undef ⟨p', wx, HP.out, rfl⟩) ⟨fun _ _ h => h, fun _ _ h => h, fun _ _ h => h, fun _ _ h => h, fun _ _ h => h, fun _ _ h => h, fun _ _ h => h, fun _ _ h => h, fun _ _ h => h, fun _ _ h => h, fun _ _ h => h, fun _ _ h => h, fun _ _ h => h, fun _ _ h => h, trivial⟩
        · intro z wy d hall hR hx
          obtain ⟨p', wz, hp, rfl⟩ := hR.fin (hall 13 (by decide))
          obtain ⟨e1, e2⟩ := HFIN2.out p' wz hp
          have HE1 := Lib.hid e1
          have HE2 := Lib.hid e2
          clear hx hR hall hp e1 e2
          generalize (wz.setCell ⟨b, 4, none⟩ (ptrV p')) = wy at *
          generalize needP h (updP ps true p' false) (updP ps true p' true) b = pr at *
          go_wp2_with fail
          refine HE2.out.mono ?_
          rintro e w8 ⟨rfl, n, rfl⟩
          go_wp2_with fail
          go_ret
          exact (HE1.out.drewN' n).p
      | false =>
        simp only [Bool.false_eq_true, if_false] at HSIDE
        have HFIN2 : Hid (∀ (p' : Option Nat) (wx : World), PutW w T (bb false) p' wx → PutW w TT (b :: (bb false ++ bb true)) (needP h (updP ps false p' false) (updP ps false p' true) b) (wx.setCell ⟨b, 3, none⟩ (ptrV p')) ∧
          Calls Tryd.prog 25 #[.pointer (some ⟨b, 0, none⟩)] (wx.setCell ⟨b, 3, none⟩ (ptrV p')) fun e w' => e = .returned (ptrV (needP h (updP ps false p' false) (updP ps false p' true) b)) ∧ ∃ n, w' = (wx.setCell ⟨b, 3, none⟩ (ptrV p')).drewN n) := HFIN
        clear HFIN
        go_enter Tryd.func19, Tryd.ntmps19
        go_upto_region 4 with (first
          | (go_at_call 23; refine (HSIDE.out _).mono ?_; rintro e w1 ⟨rfl, rfl⟩))
        refine wp_region_expR tri_follows (fun x => by simp [putsF, Act.put]; rfl) (CallSt 9 13 (fun wx => ∃ n, wx = w.drewN n) (fun v wx => ∃ p', v = ptrV p' ∧ PutW w T (bb false) p' wx) (fun wx => ∃ p' wy, PutW w T (bb false) p' wy ∧ wx = wy.setCell ⟨b, 3, none⟩ (ptrV p')))
          [isX (.pointer (some ⟨b, 0, none⟩)), isX (.int .i64 0), isX (.pointer (some ⟨b, 0, none⟩)), isX (.int .i64 0), isX (.pointer (some ⟨b, 0, none⟩)), isX (.pointer (some ⟨b, 3, none⟩)), isX (.pointer (some ⟨b, 3, none⟩)), isX (ptrV (ps false)), isX (.string QS), anyX, isX (.pointer (some ⟨b, 0, none⟩)), isX (.pointer (some ⟨b, 3, none⟩)), isX (.pointer (some ⟨b, 3, none⟩)), anyX]
          [9, 13] (by kernel_rfl) (by kernel_rfl) (by kernel_rfl) rfl ?_ (CallSt.start ⟨1, rfl⟩) ?_ ?_ ?_
        · repeat (first | exact trivial | refine ⟨by first | exact isX_stays _ | exact anyX_stays, ?_⟩)
        · refine ⟨?_, ?_, ?_, ?_, ?_, ?_, ?_, ?_, ?_, skipped rfl, ?_, ?_, ?_, skipped rfl, trivial⟩
          all_goals
            intro _ d x wx hR hdi hsrc hd
            refine ⟨fun _ => ?_, fun hX => by simp at hX⟩
            have hcx := HCX.out _ _ (hR.has hdi (by decide))
            have hR' := Lib.hid (fun v => hR.plain v hdi (by decide) (by decide))
            have c3 := hcx.get 3 _
            have c4 := hcx.get 4 _
            have cl := hcx.lt
            clear hR hcx
            simp [wordX, isX] at hd ⊢
            go_simp; exact nextXR _ rfl rfl (hR'.out _) (Below.refl _ _)
        · refine ⟨unskipped rfl, unskipped rfl, unskipped rfl, unskipped rfl, unskipped rfl, unskipped rfl, unskipped rfl, unskipped rfl, unskipped rfl, ?_, unskipped rfl, unskipped rfl, unskipped rfl, ?_, trivial⟩
          · intro _ d x wx hR hdi hcl hsrc hd
            refine ⟨fun _ => ?_, fun hX => by simp at hX⟩
            have d7 : d 7 = true := SrcX.reach (K := 9) hcl hsrc rfl 20 7 (by decide) (by kernel_rfl)
            have d8 : d 8 = true := SrcX.reach (K := 9) hcl hsrc rfl 20 8 (by decide) (by kernel_rfl)
            simp only [DoneX] at hd
            obtain ⟨-, -, -, -, -, -, -, g7, g8, -⟩ := hd
            have h7 : x 7 = ptrV (ps false) := g7 d7
            have h8 : x 8 = .string QS := g8 d8
            obtain ⟨m, rfl⟩ := hR.pre hdi (by decide)
            have hR' := Lib.hid (fun v w' hm => hR.call (v := v) (w' := w') hdi (by decide) hm)
            try dsimp only
            rw [h7, h8]
            clear h7 h8 g7 g8 hR d7 d8
            go_simp
            go_at_call 19
            refine (HCALL.out m).mono ?_
            rintro e wy ⟨p', rfl, hp⟩
            exact nextKR _ rfl trivial (hR'.out _ _ ⟨p', rfl, hp⟩) ⟨fun _ _ h => h, fun _ _ h => h, fun _ _ h => h, fun _ _ h => h, fun _ _ h => h, fun _ _ h => h, fun _ _ h => h, fun _ _ h => h, fun _ _ h => h, fun _ _ h => h, fun _ _ h => h, fun _ _ h => h, fun _ _ h => h, fun _ _ h => h, trivial⟩
          · intro _ d x wx hR hdi hcl hsrc hd
            refine ⟨fun _ => ?_, fun hX => by simp at hX⟩
            have hall : ∀ i, i < 13 → d i = true := fun i hi => SrcX.reach (K := 13) hcl hsrc rfl 20 i (by omega) (by revert i hi; decide +kernel)
            simp only [DoneX] at hd
            obtain ⟨-, -, -, -, -, -, -, -, -, -, -, -, g12, -⟩ := hd
            have h12 : x 12 = .pointer (some ⟨b, 3, none⟩) := g12 (hall 12 (by decide))
            obtain ⟨p', h9, hp⟩ := hR.mid hdi (hall 9 (by decide))
            have hcx := HCX.out (ptrV p') wx (.inr ⟨p', rfl, hp⟩)
            have HP := Lib.hid hp
            have c4 := hcx.get 3 _
            have f4 := hcx.froz 3 (by simp)
            have cl := hcx.lt
            have HALL := Lib.hid hall
            clear hcx hp hR hall
            try dsimp only
            rw [h12, h9]
            clear h12 h9 g12
            unfold ptrV at c4 ⊢
            go_simp
            exact nextKR undef rfl trivial (CallSt.store HALL.out undef ⟨p', wx, HP.out, rfl⟩) ⟨fun _ _ h => h, fun _ _ h => h, fun _ _ h => h, fun _ _ h => h, fun _ _ h => h, fun _ _ h => h, fun _ _ h => h, fun _ _ h => h, fun _ _ h => h, fun _ _ h => h, fun _ _ h => h, fun _ _ h => h, fun _ _ h => h, fun _ _ h => h, trivial⟩
        · intro z wy d hall hR hx
          obtain ⟨p', wz, hp, rfl⟩ := hR.fin (hall 13 (by decide))
          obtain ⟨e1, e2⟩ := HFIN2.out p' wz hp
          have HE1 := Lib.hid e1
          have HE2 := Lib.hid e2
          clear hx hR hall hp e1 e2
          generalize (wz.setCell ⟨b, 3, none⟩ (ptrV p')) = wy at *
          generalize needP h (updP ps false p' false) (updP ps false p' true) b = pr at *
          go_wp2_with fail
          refine HE2.out.mono ?_
          rintro e w8 ⟨rfl, n, rfl⟩
          go_wp2_with fail
          go_ret
          exact (HE1.out.drewN' n).p
end Go.Proofs.YtgfoahednmipkaaDoor
