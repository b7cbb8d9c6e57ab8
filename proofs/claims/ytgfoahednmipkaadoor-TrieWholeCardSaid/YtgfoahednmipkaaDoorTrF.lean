/- trie.put of any tree. -/
import Derived.Test.YtgfoahednmipkaaDoorTrE
namespace Go.Proofs.YtgfoahednmipkaaDoor
open Go.RowKit
set_option linter.unusedVariables false
set_option maxRecDepth 20000
attribute [local simp] putsF isV wordOf Deps Region.binds Region.wanted Act.put wantedX isB
/-- Words of signs, not too long. -/
def Tr.Fit : Tr → Prop
  | .nil => True
  | .node k _ _ c => k.length ≤ 128 ∧ BitsL k ∧ ∀ s, (c s).Fit
theorem fit_put {t : Tr} {q : List UInt8} (x : Int) (hq : BitsL q) (hl : q.length ≤ 128) (h : t.Fit) : (putR t q x).Fit := by
  have leaf : (leafR q x).Fit := ⟨hl, hq, fun _ => trivial⟩
  have hup : ∀ {c : Bool → Tr} {s : Bool} {u : Tr}, (∀ i, (c i).Fit) → u.Fit → ∀ i, (updC c s u i).Fit := by
    intro c s u h1 h2 i
    by_cases e : i = s
    · subst e; rw [updC_same]; exact h2
    · rw [updC_other _ _ _ _ e]; exact h1 i
  induction t with
  | nil => exact leaf
  | node k v g c ih =>
    obtain ⟨h1, h2, h3⟩ := h
    have hn : (Tr.node k v g c).Fit := ⟨h1, h2, h3⟩
    have ht : (q.take (alike k q)).length ≤ 128 := by simp; omega
    have hb : BitsL (q.take (alike k q)) := bits_pre (List.take_prefix _ _) hq
    simp only [putR]
    split
    · split
      · exact ⟨ht, hb, hup (hup (fun _ => trivial) hn) leaf⟩
      · exact ⟨ht, hb, hup (fun _ => trivial) hn⟩
    · split
      · exact ⟨h1, h2, hup h3 (ih _ (h3 _))⟩
      · exact ⟨h1, h2, h3⟩
theorem fit_need {k : List UInt8} {v : Int} {h : Bool} {c : Bool → Tr} (hf : (Tr.node k v h c).Fit) : (needR k v h c).Fit := by
  have h3 := hf.2.2
  unfold needR
  split
  · exact h3 true
  · rename_i t h1 h2 h4; exact h3 false
  · exact hf
theorem fit_del {t : Tr} {q : List UInt8} (h : t.Fit) : (delR t q).Fit := by
  induction t with
  | nil => trivial
  | node k v g c ih =>
    obtain ⟨h1, h2, h3⟩ := h
    simp only [delR]
    split
    · exact fit_need ⟨h1, h2, h3⟩
    · refine fit_need ⟨h1, h2, fun i => ?_⟩
      by_cases e : i = side q k.length
      · subst e; rw [updC_same]; exact ih _ (h3 _)
      · rw [updC_other _ _ _ _ e]; exact h3 i
/-- The fork lies there. -/
theorem fork_mem {w wx : World} {t : Tr} {b f : Nat} {bs : List Nat} {k : List UInt8} {s : Bool} (hm : TrM w t (some b) bs) (hnd : bs.Nodup) (hb : Below w.heap.size w wx) (hf : w.heap.size ≤ f) (hc : Cs wx f [.string (sb k), .int .i64 0, .bool false, .pointer none, .pointer none]) :
    TrM (wx.setCell ⟨f, offB s, none⟩ (.pointer (some ⟨b, 0, none⟩))) (.node k 0 false (updC (fun _ => .nil) s t)) (some f) (f :: (updP (fun _ => []) s bs false ++ updP (fun _ => []) s bs true)) ∧ (f :: (updP (fun _ => []) s bs false ++ updP (fun _ => []) s bs true)).Nodup ∧ (∀ y ∈ (f :: (updP (fun _ => []) s bs false ++ updP (fun _ => []) s bs true)), y ∈ bs ∨ y = f) := by
  have hnf : f ∉ bs := fun e => by have := hm.lt f e; omega
  have hcs : Cs (wx.setCell ⟨f, offB s, none⟩ (.pointer (some ⟨b, 0, none⟩))) f [.string (sb k), .int .i64 0, .bool false, ptrV (updP (fun _ => none) s (some b) false), ptrV (updP (fun _ => none) s (some b) true)] := by
    have := hc.set' (offB s) (.pointer (some ⟨b, 0, none⟩)) (by cases s <;> simp [offB])
    cases s <;> exact this
  refine ⟨TrM.kid (ps := fun _ => none) (bb := fun _ => []) hcs ((hm.below hb).setCell _ _ hnf) ⟨rfl, rfl⟩, updP_nodup hnd (by simp) hnf (by simp) (by simp), fun y hy => ?_⟩
  rcases updP_mem hy with rfl | hy | hy
  · exact .inr rfl
  · exact .inl hy
  · simp at hy
/-- A fork over a node, with a word put in. -/
theorem fork_put {t : Tr} {b f : Nat} {bs : List Nat} {k : List UInt8} {s : Bool} {w wx : World} (q : List UInt8) (x : Int) (hkq : k <+: q) (hq : BitsL q) (hl : q.length ≤ 128) (hs : k.length < q.length → s ≠ side q k.length)
    (hm : TrM w t (some b) bs) (hnd : bs.Nodup) (hb : Below w.heap.size w wx) (hf : w.heap.size ≤ f) (hc : Cs wx f [.string (sb k), .int .i64 0, .bool false, .pointer none, .pointer none]) :
    Calls Tryd.prog 20 #[.pointer (some ⟨f, 0, none⟩), .string (sb q), .int .i64 x] (wx.setCell ⟨f, offB s, none⟩ (.pointer (some ⟨b, 0, none⟩)))
      (PutP w (if k.length < q.length then .node k 0 false (updC (updC (fun _ => .nil) s t) (side q k.length) (leafR q x)) else .node k x true (updC (fun _ => .nil) s t)) bs) := by
  obtain ⟨h1, h2, h3⟩ := fork_mem (s := s) hm hnd hb hf hc
  have := put_on k 0 false (updC (fun _ => .nil) s t) q x hkq hq hl (fun hlt p bs w hm hnd => by
    rw [updC_other _ _ _ _ (Ne.symm (hs hlt))] at hm ⊢
    obtain ⟨rfl, rfl⟩ := hm
    rw [ptrV_none]
    exact put_nil q x w) (some f) _ _ h1 h2
  rw [ptrV_some] at this
  refine this.mono fun e w' hp => ?_
  obtain ⟨p', bs', rfl, g1, g2, g3, g4⟩ := hp
  have ho : Only (fun y => y ∈ bs) w (wx.setCell ⟨f, offB s, none⟩ (.pointer (some ⟨b, 0, none⟩))) := (Only.of_below _ hb).setCell _ _ (fun e => by have e' : f < w.heap.size := e; omega)
  refine ⟨p', bs', rfl, ?_, g2, fun y hy => ?_, ho.trans g4 fun y hy e => ?_⟩
  · by_cases hlt : k.length < q.length
    · rw [if_pos hlt] at g1 ⊢
      rw [updC_other _ _ _ _ (Ne.symm (hs hlt))] at g1
      exact g1
    · rw [if_neg hlt] at g1 ⊢
      exact g1
  · rcases g3 y hy with e | e
    · rcases h3 y e with e | e
      · exact .inl e
      · exact .inr (by omega)
    · have := ho.size; exact .inr (by omega)
  · rcases h3 y e with e | e
    · exact e
    · omega
theorem put_fork_eq (k : List UInt8) (v : Int) (h : Bool) (c : Bool → Tr) (q : List UInt8) (x : Int) (ha : alike k q < k.length) :
    putR (.node k v h c) q x = if (q.take (alike k q)).length < q.length then .node (q.take (alike k q)) 0 false (updC (updC (fun _ => .nil) (side k (alike k q)) (.node k v h c)) (side q (q.take (alike k q)).length) (leafR q x)) else .node (q.take (alike k q)) x true (updC (fun _ => .nil) (side k (alike k q)) (.node k v h c)) := by
  have : (q.take (alike k q)).length = alike k q := take_pre_len (alike_le k q).2
  rw [this]
  simp only [putR, if_pos ha]
set_option maxHeartbeats 3200000 in
/-- put. -/
theorem put_any (q : List UInt8) (x0 : Int) (hq : BitsL q) (hl : q.length ≤ 128) (t : Tr) : ∀ (p : Option Nat) (bs : List Nat) (w : World), t.Fit → TrM w t p bs → bs.Nodup →
    Calls Tryd.prog 20 #[ptrV p, .string (sb q), .int .i64 x0] w (PutP w (putR t q x0) bs) := by
  induction t with
  | nil =>
    intro p bs w _ hm _
    obtain ⟨rfl, rfl⟩ := hm
    rw [ptrV_none]
    exact put_nil q x0 w
  | node k v h c ih =>
    intro p bs w hfit hm hnd
    have hal := alike_le k q
    by_cases ha : alike k q < k.length
    · rw [put_fork_eq k v h c q x0 ha]
      obtain ⟨hkl, hkb, -⟩ := hfit
      have hmax : maxLen = 9223372036854775807 := by decide
      have hlen : (q.take (alike k q)).length = alike k q := take_pre_len hal.2
      have hs : (q.take (alike k q)).length < q.length → side k (alike k q) ≠ side q (q.take (alike k q)).length := fun e => by rw [hlen] at e ⊢; exact side_ne hkb hq ha e
      have HPUT := Lib.hid (fun (wx : World) (f b : Nat) (hx : TrM w (.node k v h c) (some b) bs) (hb : Below w.heap.size w wx) (hf : w.heap.size ≤ f) hc => fork_put (w := w) (wx := wx) (f := f) (b := b) q x0 (List.take_prefix (alike k q) q) hq hl hs hx hnd hb hf hc)
      have HCOM := Lib.hid (fun w => common_any k q w (by omega) (by omega))
      have HSIDE := Lib.hid (fun w => side_any k (alike k q) w hkb ha (by omega))
      have htk := sb_take q (alike k q)
      have hsk := sb_size k
      have hsq := sb_size q
      have HM := Lib.hid hm
      obtain ⟨b, ps, bb, rfl, hbs, hc, hk⟩ := hm
      rw [ptrV_some]
      have HC := Lib.hid hc
      have c0 := hc.get 0 _
      have hb := hc.lt
      generalize (Tr.node k v h c) = T at *
      generalize q.take (alike k q) = K' at *
      obtain ⟨s, hsd⟩ : ∃ s, side k (alike k q) = s := ⟨_, rfl⟩
      rw [hsd] at HPUT HSIDE ⊢
      obtain ⟨TT, hTT⟩ : ∃ TT, (if K'.length < q.length then Tr.node K' 0 false (updC (updC (fun _ => .nil) s T) (side q K'.length) (leafR q x0)) else .node K' x0 true (updC (fun _ => .nil) s T)) = TT := ⟨_, rfl⟩
      rw [hTT] at HPUT ⊢
      clear hTT
      obtain ⟨a, haa⟩ : ∃ a, alike k q = a := ⟨_, rfl⟩
      rw [haa] at HCOM HSIDE htk ha hal
      obtain ⟨KL, hKL⟩ : ∃ n, k.length = n := ⟨_, rfl⟩
      obtain ⟨QL, hQL⟩ : ∃ n, q.length = n := ⟨_, rfl⟩
      rw [hKL] at hsk ha hal hkl
      rw [hQL] at hsq hal hl
      obtain ⟨KS, hKS⟩ : ∃ KS, sb k = KS := ⟨_, rfl⟩
      obtain ⟨QS, hQS⟩ : ∃ QS, sb q = QS := ⟨_, rfl⟩
      obtain ⟨PS, hPS⟩ : ∃ PS, sb K' = PS := ⟨_, rfl⟩
      rw [hKS] at HCOM HSIDE hsk HC c0
      rw [hQS] at HCOM hsq htk HPUT ⊢
      rw [hPS] at htk HPUT
      have d1 : (a : Int) < KL := by omega
      have d2 : (a : Int) ≤ QL := by omega
      have d3 : a ≤ QL := by omega
      have d4 : a ≤ QS.size := by omega
      have d5 : (a : Int) ≤ QS.size := by omega
      clear hs hsd haa hKL hQL hKS hQS hPS hlen ih hk hc hbs hkb hmax hq hnd ha hal
      cases s with
      | true =>
        simp only [if_true] at HSIDE
        go_enter Tryd.func20, Tryd.ntmps20
        go_upto_region 7 with (first
          | (go_at_call 26; refine (HCOM.out _).mono ?_; rintro e w1 ⟨rfl, n, rfl⟩; have c0 := (HC.out.drewN n).get 0 _; have hb := (HC.out.drewN n).lt))
        have HF := Lib.hid (Cs.new (w.drewN n) #[.string PS, .int .i64 0, .bool false, .pointer none, .pointer none] 52 _ rfl)
        have HBF : Hid (Below w.heap.size w _) := Lib.hid ((show Below w.heap.size w (w.drewN n) from ⟨rfl, rfl, rfl, Nat.le_refl _, fun _ _ => rfl⟩).alloc (Nat.le_refl _) (.cells #[.string PS, .int .i64 0, .bool false, .pointer none, .pointer none] 52))
        have HCK := Lib.hid ((HC.out.drewN n).alloc (.cells #[.string PS, .int .i64 0, .bool false, .pointer none, .pointer none] 52))
        have hfe : (w.drewN n).heap.size = w.heap.size := rfl
        rw [hfe] at HF
        try rw [hfe]
        generalize ((w.drewN n).alloc (.cells #[.string PS, .int .i64 0, .bool false, .pointer none, .pointer none] 52)) = w1 at *
        obtain ⟨f, hff⟩ : ∃ f, w.heap.size = f := ⟨_, rfl⟩
        have HFF := Lib.hid hff
        rw [hff] at HF ⊢
        have HP2 := Lib.hid (fun m => HPUT.out (w1.drewN m) f b HM.out (show Below w.heap.size w (w1.drewN m) from ⟨HBF.out.os, HBF.out.tape, HBF.out.output, HBF.out.size, HBF.out.block⟩) (by rw [HFF.out]; exact Nat.le_refl _) (HF.out.drewN m))
        clear hff HPUT HM HC HBF hfe c0 hb
        refine wp_region_expR tri_follows (fun x => by simp [putsF, Act.put]; rfl) (CallSt 6 11 (fun wx => ∃ m, wx = w1.drewN m) (fun v wx => ∃ m, wx = w1.drewN m) (fun wx => ∃ m, wx = (w1.drewN m).setCell ⟨f, 4, none⟩ (.pointer (some ⟨b, 0, none⟩))))
          [isX (.pointer (some ⟨f, 0, none⟩)), isX (.pointer (some ⟨b, 0, none⟩)), isX (.pointer (some ⟨b, 0, none⟩)), isX (.pointer (some ⟨b, 0, none⟩)), isX (.string KS), isX (.int .i64 a), isX (.int .i64 1), isX (.pointer (some ⟨b, 0, none⟩)), isX (.pointer (some ⟨f, 0, none⟩)), isX (.pointer (some ⟨f, 3, none⟩)), isX (.pointer (some ⟨f, 4, none⟩)), anyX]
          [6, 11] (by kernel_rfl) (by kernel_rfl) (by kernel_rfl) rfl ?_ (CallSt.start ⟨1, rfl⟩) ?_ ?_ ?_
        · repeat (first | exact trivial | refine ⟨by first | exact isX_stays _ | exact anyX_stays, ?_⟩)
        · refine ⟨?_, ?_, ?_, ?_, ?_, ?_, skipped rfl, ?_, ?_, ?_, ?_, skipped rfl, trivial⟩
          all_goals
            intro _ d x wx hR hdi hsrc hd
            refine ⟨fun _ => ?_, fun hX => by simp at hX⟩
            have hR' := Lib.hid (fun v => hR.plain v hdi (by decide) (by decide))
            obtain ⟨m, hm⟩ : ∃ m, wx = w1.drewN m := (hR.has hdi (by decide)).elim id id
            have c0 := (HCK.out.drewN m).get 0 _
            have cl := (HCK.out.drewN m).lt
            have cf := (HF.out.drewN m).lt
            have cc := (HF.out.drewN m).get 3 _
            have cd := (HF.out.drewN m).get 4 _
            rw [← hm] at c0 cl cf cc cd
            clear hR hm
            simp [wordX, isX] at hd ⊢
            go_simp; exact nextXR _ rfl rfl (hR'.out _) (Below.refl _ _)
        · refine ⟨unskipped rfl, unskipped rfl, unskipped rfl, unskipped rfl, unskipped rfl, unskipped rfl, ?_, unskipped rfl, unskipped rfl, unskipped rfl, unskipped rfl, ?_, trivial⟩
          · intro _ d x wx hR hdi hcl hsrc hd
            refine ⟨fun _ => ?_, fun hX => by simp at hX⟩
            have d4 : d 4 = true := SrcX.reach (K := 6) hcl hsrc rfl 20 4 (by decide) (by kernel_rfl)
            have d5 : d 5 = true := SrcX.reach (K := 6) hcl hsrc rfl 20 5 (by decide) (by kernel_rfl)
            simp only [DoneX] at hd
            obtain ⟨-, -, -, -, g4, g5, -⟩ := hd
            have h4 : x 4 = .string KS := g4 d4
            have h5 : x 5 = .int .i64 a := g5 d5
            obtain ⟨m, rfl⟩ := hR.pre hdi (by decide)
            have hR' := Lib.hid (fun v w' hm => hR.call (v := v) (w' := w') hdi (by decide) hm)
            try dsimp only
            rw [h4, h5]
            clear h4 h5 g4 g5 hR d4 d5
            go_simp
            go_at_call 23
            refine (HSIDE.out _).mono ?_
            rintro e wy ⟨rfl, rfl⟩
            exact nextKR _ rfl rfl (hR'.out _ _ ⟨m, rfl⟩) ⟨fun _ _ h => h, fun _ _ h => h, fun _ _ h => h, fun _ _ h => h, fun _ _ h => h, fun _ _ h => h, fun _ _ h => h, fun _ _ h => h, fun _ _ h => h, fun _ _ h => h, fun _ _ h => h, fun _ _ h => h, trivial⟩
          · intro _ d x wx hR hdi hcl hsrc hd
            refine ⟨fun _ => ?_, fun hX => by simp at hX⟩
            have hall : ∀ i, i < 11 → d i = true := fun i hi => SrcX.reach (K := 11) hcl hsrc rfl 20 i (by omega) (by revert i hi; decide +kernel)
            simp only [DoneX] at hd
            obtain ⟨-, -, -, -, -, -, -, g7, -, -, g10, -⟩ := hd
            have h7 : x 7 = .pointer (some ⟨b, 0, none⟩) := g7 (hall 7 (by decide))
            have h10 : x 10 = .pointer (some ⟨f, 4, none⟩) := g10 (hall 10 (by decide))
            obtain ⟨m, rfl⟩ := hR.mid hdi (hall 6 (by decide))
            have c4 := (HF.out.drewN m).get 4 _
            have f4 := (HF.out.drewN m).froz 4 (by simp)
            have cl := (HF.out.drewN m).lt
            have HALL := Lib.hid hall
            clear hR hall
            try dsimp only
            rw [h7, h10]
            clear h7 h10 g7 g10
            go_simp
            exact nextKR undef rfl trivial (CallSt.store HALL.out undef ⟨m, rfl⟩) ⟨fun _ _ h => h, fun _ _ h => h, fun _ _ h => h, fun _ _ h => h, fun _ _ h => h, fun _ _ h => h, fun _ _ h => h, fun _ _ h => h, fun _ _ h => h, fun _ _ h => h, fun _ _ h => h, fun _ _ h => h, trivial⟩
        · intro y wy d hall hR hx
          obtain ⟨m, rfl⟩ := hR.fin (hall 11 (by decide))
          clear hx hR hall
          go_wp2_with fail
          refine (HP2.out m).mono ?_
          rintro e wz hp
          obtain ⟨p', rfl, hp2⟩ := hp.w
          have HP := Lib.hid hp2
          clear hp hp2
          go_wp2_with fail
          go_ret
          exact HP.out.p
      | false =>
        simp only [Bool.false_eq_true, if_false] at HSIDE
        go_enter Tryd.func20, Tryd.ntmps20
        go_upto_region 7 with (first
          | (go_at_call 26; refine (HCOM.out _).mono ?_; rintro e w1 ⟨rfl, n, rfl⟩; have c0 := (HC.out.drewN n).get 0 _; have hb := (HC.out.drewN n).lt))
        have HF := Lib.hid (Cs.new (w.drewN n) #[.string PS, .int .i64 0, .bool false, .pointer none, .pointer none] 52 _ rfl)
        have HBF : Hid (Below w.heap.size w _) := Lib.hid ((show Below w.heap.size w (w.drewN n) from ⟨rfl, rfl, rfl, Nat.le_refl _, fun _ _ => rfl⟩).alloc (Nat.le_refl _) (.cells #[.string PS, .int .i64 0, .bool false, .pointer none, .pointer none] 52))
        have HCK := Lib.hid ((HC.out.drewN n).alloc (.cells #[.string PS, .int .i64 0, .bool false, .pointer none, .pointer none] 52))
        have hfe : (w.drewN n).heap.size = w.heap.size := rfl
        rw [hfe] at HF
        try rw [hfe]
        generalize ((w.drewN n).alloc (.cells #[.string PS, .int .i64 0, .bool false, .pointer none, .pointer none] 52)) = w1 at *
        obtain ⟨f, hff⟩ : ∃ f, w.heap.size = f := ⟨_, rfl⟩
        have HFF := Lib.hid hff
        rw [hff] at HF ⊢
        have HP2 := Lib.hid (fun m => HPUT.out (w1.drewN m) f b HM.out (show Below w.heap.size w (w1.drewN m) from ⟨HBF.out.os, HBF.out.tape, HBF.out.output, HBF.out.size, HBF.out.block⟩) (by rw [HFF.out]; exact Nat.le_refl _) (HF.out.drewN m))
        clear hff HPUT HM HC HBF hfe c0 hb
        refine wp_region_expR tri_follows (fun x => by simp [putsF, Act.put]; rfl) (CallSt 6 11 (fun wx => ∃ m, wx = w1.drewN m) (fun v wx => ∃ m, wx = w1.drewN m) (fun wx => ∃ m, wx = (w1.drewN m).setCell ⟨f, 3, none⟩ (.pointer (some ⟨b, 0, none⟩))))
          [isX (.pointer (some ⟨f, 0, none⟩)), isX (.pointer (some ⟨b, 0, none⟩)), isX (.pointer (some ⟨b, 0, none⟩)), isX (.pointer (some ⟨b, 0, none⟩)), isX (.string KS), isX (.int .i64 a), isX (.int .i64 0), isX (.pointer (some ⟨b, 0, none⟩)), isX (.pointer (some ⟨f, 0, none⟩)), isX (.pointer (some ⟨f, 3, none⟩)), isX (.pointer (some ⟨f, 3, none⟩)), anyX]
          [6, 11] (by kernel_rfl) (by kernel_rfl) (by kernel_rfl) rfl ?_ (CallSt.start ⟨1, rfl⟩) ?_ ?_ ?_
        · repeat (first | exact trivial | refine ⟨by first | exact isX_stays _ | exact anyX_stays, ?_⟩)
        · refine ⟨?_, ?_, ?_, ?_, ?_, ?_, skipped rfl, ?_, ?_, ?_, ?_, skipped rfl, trivial⟩
          all_goals
            intro _ d x wx hR hdi hsrc hd
            refine ⟨fun _ => ?_, fun hX => by simp at hX⟩
            have hR' := Lib.hid (fun v => hR.plain v hdi (by decide) (by decide))
            obtain ⟨m, hm⟩ : ∃ m, wx = w1.drewN m := (hR.has hdi (by decide)).elim id id
            have c0 := (HCK.out.drewN m).get 0 _
            have cl := (HCK.out.drewN m).lt
            have cf := (HF.out.drewN m).lt
            have cc := (HF.out.drewN m).get 3 _
            have cd := (HF.out.drewN m).get 4 _
            rw [← hm] at c0 cl cf cc cd
            clear hR hm
            simp [wordX, isX] at hd ⊢
            go_simp; exact nextXR _ rfl rfl (hR'.out _) (Below.refl _ _)
        · refine ⟨unskipped rfl, unskipped rfl, unskipped rfl, unskipped rfl, unskipped rfl, unskipped rfl, ?_, unskipped rfl, unskipped rfl, unskipped rfl, unskipped rfl, ?_, trivial⟩
          · intro _ d x wx hR hdi hcl hsrc hd
            refine ⟨fun _ => ?_, fun hX => by simp at hX⟩
            have d4 : d 4 = true := SrcX.reach (K := 6) hcl hsrc rfl 20 4 (by decide) (by kernel_rfl)
            have d5 : d 5 = true := SrcX.reach (K := 6) hcl hsrc rfl 20 5 (by decide) (by kernel_rfl)
            simp only [DoneX] at hd
            obtain ⟨-, -, -, -, g4, g5, -⟩ := hd
            have h4 : x 4 = .string KS := g4 d4
            have h5 : x 5 = .int .i64 a := g5 d5
            obtain ⟨m, rfl⟩ := hR.pre hdi (by decide)
            have hR' := Lib.hid (fun v w' hm => hR.call (v := v) (w' := w') hdi (by decide) hm)
            try dsimp only
            rw [h4, h5]
            clear h4 h5 g4 g5 hR d4 d5
            go_simp
            go_at_call 23
            refine (HSIDE.out _).mono ?_
            rintro e wy ⟨rfl, rfl⟩
            exact nextKR _ rfl rfl (hR'.out _ _ ⟨m, rfl⟩) ⟨fun _ _ h => h, fun _ _ h => h, fun _ _ h => h, fun _ _ h => h, fun _ _ h => h, fun _ _ h => h, fun _ _ h => h, fun _ _ h => h, fun _ _ h => h, fun _ _ h => h, fun _ _ h => h, fun _ _ h => h, trivial⟩
          · intro _ d x wx hR hdi hcl hsrc hd
            refine ⟨fun _ => ?_, fun hX => by simp at hX⟩
            have hall : ∀ i, i < 11 → d i = true := fun i hi => SrcX.reach (K := 11) hcl hsrc rfl 20 i (by omega) (by revert i hi; decide +kernel)
            simp only [DoneX] at hd
            obtain ⟨-, -, -, -, -, -, -, g7, -, -, g10, -⟩ := hd
            have h7 : x 7 = .pointer (some ⟨b, 0, none⟩) := g7 (hall 7 (by decide))
            have h10 : x 10 = .pointer (some ⟨f, 3, none⟩) := g10 (hall 10 (by decide))
            obtain ⟨m, rfl⟩ := hR.mid hdi (hall 6 (by decide))
            have c4 := (HF.out.drewN m).get 3 _
            have f4 := (HF.out.drewN m).froz 3 (by simp)
            have cl := (HF.out.drewN m).lt
            have HALL := Lib.hid hall
            clear hR hall
            try dsimp only
            rw [h7, h10]
            clear h7 h10 g7 g10
            go_simp
            exact nextKR undef rfl trivial (CallSt.store HALL.out undef ⟨m, rfl⟩) ⟨fun _ _ h => h, fun _ _ h => h, fun _ _ h => h, fun _ _ h => h, fun _ _ h => h, fun _ _ h => h, fun _ _ h => h, fun _ _ h => h, fun _ _ h => h, fun _ _ h => h, fun _ _ h => h, fun _ _ h => h, trivial⟩
        · intro y wy d hall hR hx
          obtain ⟨m, rfl⟩ := hR.fin (hall 11 (by decide))
          clear hx hR hall
          go_wp2_with fail
          refine (HP2.out m).mono ?_
          rintro e wz hp
          obtain ⟨p', rfl, hp2⟩ := hp.w
          have HP := Lib.hid hp2
          clear hp hp2
          go_wp2_with fail
          go_ret
          exact HP.out.p
    · have hkq : k <+: q := alike_pre (by omega)
      have := put_on k v h c q x0 hkq hq hl (fun hlt p bs w hm hnd => ih _ p bs w (hfit.2.2 _) hm hnd) p bs w hm hnd
      simp only [putR, if_neg ha]
      exact this
end Go.Proofs.YtgfoahednmipkaaDoor
