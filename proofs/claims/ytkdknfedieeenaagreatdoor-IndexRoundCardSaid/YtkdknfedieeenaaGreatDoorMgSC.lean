/- Texts that walks stand on, one behind the other. -/
import Derived.Test.YtkdknfedieeenaaGreatDoorMgSB
import Derived.Deep.LoopGhost
import Derived.Test.YtkdknfedieeenaaGreatDoorOwnM
import Derived.Test.YtkdknfedieeenaaGreatDoorMgSA
import Derived.Test.YtkdknfedieeenaaGreatDoorPfxB
import Derived.Test.YtkdknfedieeenaaGreatDoorObq
import Derived.Test.YtkdknfedieeenaaGreatDoorPfx
import Derived.Deep.DeepCutAuto
namespace Go.Proofs.YtkdknfedieeenaaGreatDoor
open Go.RowKit
set_option linter.unusedVariables false
set_option maxRecDepth 20000
attribute [local simp] putsF isV wordOf Deps Region.binds Region.wanted Act.put wantedX isB
/-- Words of signs, not too long. -/
def Tr.Fit : Tr → Prop
  | .nil => True
  | .node k _ _ c => k.length ≤ 128 ∧ BitsL k ∧ ∀ s, (c s).Fit
theorem fit_put {t : Tr} {q : List UInt8} (x : Int) (hq : BitsL q) (hl : q.length ≤ 128) (h : t.Fit) : (putR t q x).Fit := by
  have leaf : (leafR q x).Fit := ⟨hl, hq, fun _ => trivial⟩
  have hup : ∀ {c : Bool → Tr} {s : Bool} {u : Tr}, (∀ i, (c i).Fit) → u.Fit → ∀ i, (updC c s u i).Fit := by
    intro c s u h1 h2 i
    by_cases e : i = s
    · subst e; rw [updC_same]; exact h2
    · rw [updC_other _ _ _ _ e]; exact h1 i
  induction t with
  | nil => exact leaf
  | node k v g c ih =>
    obtain ⟨h1, h2, h3⟩ := h
    have hn : (Tr.node k v g c).Fit := ⟨h1, h2, h3⟩
    have ht : (q.take (alikeT k q)).length ≤ 128 := by simp; omega
    have hb : BitsL (q.take (alikeT k q)) := bits_pre (List.take_prefix _ _) hq
    simp only [putR]
    split
    · split
      · exact ⟨ht, hb, hup (hup (fun _ => trivial) hn) leaf⟩
      · exact ⟨ht, hb, hup (fun _ => trivial) hn⟩
    · split
      · exact ⟨h1, h2, hup h3 (ih _ (h3 _))⟩
      · exact ⟨h1, h2, h3⟩
theorem fit_need {k : List UInt8} {v : Int} {h : Bool} {c : Bool → Tr} (hf : (Tr.node k v h c).Fit) : (needR k v h c).Fit := by
  have h3 := hf.2.2
  unfold needR
  split
  · exact h3 true
  · rename_i t h1 h2 h4; exact h3 false
  · exact hf
theorem fit_del {t : Tr} {q : List UInt8} (h : t.Fit) : (delR t q).Fit := by
  induction t with
  | nil => trivial
  | node k v g c ih =>
    obtain ⟨h1, h2, h3⟩ := h
    simp only [delR]
    split
    · exact fit_need ⟨h1, h2, h3⟩
    · refine fit_need ⟨h1, h2, fun i => ?_⟩
      by_cases e : i = side q k.length
      · subst e; rw [updC_same]; exact ih _ (h3 _)
      · rw [updC_other _ _ _ _ e]; exact h3 i
/-- The fork lies there. -/
theorem fork_mem {w wx : World} {t : Tr} {b f : Nat} {bs : List Nat} {k : List UInt8} {s : Bool} (hm : TrM w t (some b) bs) (hnd : bs.Nodup) (hb : Below w.heap.size w wx) (hf : w.heap.size ≤ f) (hc : Cs wx f [.string (sb k), .int .i64 0, .bool false, .pointer none, .pointer none]) :
    TrM (wx.setCell ⟨f, offB s, none⟩ (.pointer (some ⟨b, 0, none⟩))) (.node k 0 false (updC (fun _ => .nil) s t)) (some f) (f :: (updP (fun _ => []) s bs false ++ updP (fun _ => []) s bs true)) ∧ (f :: (updP (fun _ => []) s bs false ++ updP (fun _ => []) s bs true)).Nodup ∧ (∀ y ∈ (f :: (updP (fun _ => []) s bs false ++ updP (fun _ => []) s bs true)), y ∈ bs ∨ y = f) := by
  have hnf : f ∉ bs := fun e => by have := hm.lt f e; omega
  have hcs : Cs (wx.setCell ⟨f, offB s, none⟩ (.pointer (some ⟨b, 0, none⟩))) f [.string (sb k), .int .i64 0, .bool false, ptrV (updP (fun _ => none) s (some b) false), ptrV (updP (fun _ => none) s (some b) true)] := by
    have := hc.set' (offB s) (.pointer (some ⟨b, 0, none⟩)) (by cases s <;> simp [offB])
    cases s <;> exact this
  refine ⟨TrM.kid (ps := fun _ => none) (bb := fun _ => []) hcs ((hm.below hb).setCell _ _ hnf) ⟨rfl, rfl⟩, updP_nodup hnd (by simp) hnf (by simp) (by simp), fun y hy => ?_⟩
  rcases updP_mem hy with rfl | hy | hy
  · exact .inr rfl
  · exact .inl hy
  · simp at hy
/-- A fork over a node, with a word put in. -/
theorem fork_put {t : Tr} {b f : Nat} {bs : List Nat} {k : List UInt8} {s : Bool} {w wx : World} (q : List UInt8) (x : Int) (hkq : k <+: q) (hq : BitsL q) (hl : q.length ≤ 128) (hs : k.length < q.length → s ≠ side q k.length)
    (hm : TrM w t (some b) bs) (hnd : bs.Nodup) (hb : Below w.heap.size w wx) (hf : w.heap.size ≤ f) (hc : Cs wx f [.string (sb k), .int .i64 0, .bool false, .pointer none, .pointer none]) :
    Calls Tryz.prog 98 #[.pointer (some ⟨f, 0, none⟩), .string (sb q), .int .i64 x] (wx.setCell ⟨f, offB s, none⟩ (.pointer (some ⟨b, 0, none⟩)))
      (PutP w (if k.length < q.length then .node k 0 false (updC (updC (fun _ => .nil) s t) (side q k.length) (leafR q x)) else .node k x true (updC (fun _ => .nil) s t)) bs) := by
  obtain ⟨h1, h2, h3⟩ := fork_mem (s := s) hm hnd hb hf hc
  have := put_on k 0 false (updC (fun _ => .nil) s t) q x hkq hq hl (fun hlt p bs w hm hnd => by
    rw [updC_other _ _ _ _ (Ne.symm (hs hlt))] at hm ⊢
    obtain ⟨rfl, rfl⟩ := hm
    rw [ptrV_none]
    exact putT_nil q x w) (some f) _ _ h1 h2
  rw [ptrV_some] at this
  refine this.mono fun e w' hp => ?_
  obtain ⟨p', bs', rfl, g1, g2, g3, g4⟩ := hp
  have ho : Only (fun y => y ∈ bs) w (wx.setCell ⟨f, offB s, none⟩ (.pointer (some ⟨b, 0, none⟩))) := (Only.of_below _ hb).setCell _ _ (fun e => by have e' : f < w.heap.size := e; omega)
  refine ⟨p', bs', rfl, ?_, g2, fun y hy => ?_, ho.trans g4 fun y hy e => ?_⟩
  · by_cases hlt : k.length < q.length
    · rw [if_pos hlt] at g1 ⊢
      rw [updC_other _ _ _ _ (Ne.symm (hs hlt))] at g1
      exact g1
    · rw [if_neg hlt] at g1 ⊢
      exact g1
  · rcases g3 y hy with e | e
    · rcases h3 y e with e | e
      · exact .inl e
      · exact .inr (by omega)
    · have := ho.size; exact .inr (by omega)
  · rcases h3 y e with e | e
    · exact e
    · omega
theorem put_fork_eq (k : List UInt8) (v : Int) (h : Bool) (c : Bool → Tr) (q : List UInt8) (x : Int) (ha : alikeT k q < k.length) :
    putR (.node k v h c) q x = if (q.take (alikeT k q)).length < q.length then .node (q.take (alikeT k q)) 0 false (updC (updC (fun _ => .nil) (side k (alikeT k q)) (.node k v h c)) (side q (q.take (alikeT k q)).length) (leafR q x)) else .node (q.take (alikeT k q)) x true (updC (fun _ => .nil) (side k (alikeT k q)) (.node k v h c)) := by
  have : (q.take (alikeT k q)).length = alikeT k q := take_pre_len (alikeT_le k q).2
  rw [this]
  simp only [putR, if_pos ha]
set_option maxHeartbeats 3200000 in
/-- put. -/
theorem put_any (q : List UInt8) (x0 : Int) (hq : BitsL q) (hl : q.length ≤ 128) (t : Tr) : ∀ (p : Option Nat) (bs : List Nat) (w : World), t.Fit → TrM w t p bs → bs.Nodup →
    Calls Tryz.prog 98 #[ptrV p, .string (sb q), .int .i64 x0] w (PutP w (putR t q x0) bs) := by
  induction t with
  | nil =>
    intro p bs w _ hm _
    obtain ⟨rfl, rfl⟩ := hm
    rw [ptrV_none]
    exact putT_nil q x0 w
  | node k v h c ih =>
    intro p bs w hfit hm hnd
    have hal := alikeT_le k q
    by_cases ha : alikeT k q < k.length
    · rw [put_fork_eq k v h c q x0 ha]
      obtain ⟨hkl, hkb, -⟩ := hfit
      have hmax : maxLen = 9223372036854775807 := by decide
      have hlen : (q.take (alikeT k q)).length = alikeT k q := take_pre_len hal.2
      have hs : (q.take (alikeT k q)).length < q.length → side k (alikeT k q) ≠ side q (q.take (alikeT k q)).length := fun e => by rw [hlen] at e ⊢; exact side_ne hkb hq ha e
      have HPUT := Lib.hid (fun (wx : World) (f b : Nat) (hx : TrM w (.node k v h c) (some b) bs) (hb : Below w.heap.size w wx) (hf : w.heap.size ≤ f) hc => fork_put (w := w) (wx := wx) (f := f) (b := b) q x0 (List.take_prefix (alikeT k q) q) hq hl hs hx hnd hb hf hc)
      have HCOM := Lib.hid (fun w => common_any k q w (by omega) (by omega))
      have HSIDE := Lib.hid (fun w => side_any k (alikeT k q) w hkb ha (by omega))
      have htk := sb_take q (alikeT k q)
      have hsk := sb_size k
      have hsq := sb_size q
      have HM := Lib.hid hm
      obtain ⟨b, ps, bb, rfl, hbs, hc, hk⟩ := hm
      rw [ptrV_some]
      have HC := Lib.hid hc
      have c0 := hc.get 0 _
      have hb := hc.lt
      generalize (Tr.node k v h c) = T at *
      generalize q.take (alikeT k q) = K' at *
      obtain ⟨s, hsd⟩ : ∃ s, side k (alikeT k q) = s := ⟨_, rfl⟩
      rw [hsd] at HPUT HSIDE ⊢
      obtain ⟨TT, hTT⟩ : ∃ TT, (if K'.length < q.length then Tr.node K' 0 false (updC (updC (fun _ => .nil) s T) (side q K'.length) (leafR q x0)) else .node K' x0 true (updC (fun _ => .nil) s T)) = TT := ⟨_, rfl⟩
      rw [hTT] at HPUT ⊢
      clear hTT
      obtain ⟨a, haa⟩ : ∃ a, alikeT k q = a := ⟨_, rfl⟩
      rw [haa] at HCOM HSIDE htk ha hal
      obtain ⟨KL, hKL⟩ : ∃ n, k.length = n := ⟨_, rfl⟩
      obtain ⟨QL, hQL⟩ : ∃ n, q.length = n := ⟨_, rfl⟩
      rw [hKL] at hsk ha hal hkl
      rw [hQL] at hsq hal hl
      obtain ⟨KS, hKS⟩ : ∃ KS, sb k = KS := ⟨_, rfl⟩
      obtain ⟨QS, hQS⟩ : ∃ QS, sb q = QS := ⟨_, rfl⟩
      obtain ⟨PS, hPS⟩ : ∃ PS, sb K' = PS := ⟨_, rfl⟩
      rw [hKS] at HCOM HSIDE hsk HC c0
      rw [hQS] at HCOM hsq htk HPUT ⊢
      rw [hPS] at htk HPUT
      have d1 : (a : Int) < KL := by omega
      have d2 : (a : Int) ≤ QL := by omega
      have d3 : a ≤ QL := by omega
      have d4 : a ≤ QS.size := by omega
      have d5 : (a : Int) ≤ QS.size := by omega
      clear hs hsd haa hKL hQL hKS hQS hPS hlen ih hk hc hbs hkb hmax hq hnd ha hal
      cases s with
      | true =>
        simp only [if_true] at HSIDE
        go_enter Tryz.func98, Tryz.ntmps98
        go_upto_region 7 with (first
          | (go_at_call 126; refine (HCOM.out _).mono ?_; rintro e w1 ⟨rfl, n, rfl⟩; have c0 := (HC.out.drewN n).get 0 _; have hb := (HC.out.drewN n).lt))
        have HF := Lib.hid (Cs.new (w.drewN n) #[.string PS, .int .i64 0, .bool false, .pointer none, .pointer none] 178 _ rfl)
        have HBF : Hid (Below w.heap.size w _) := Lib.hid ((show Below w.heap.size w (w.drewN n) from ⟨rfl, rfl, rfl, Nat.le_refl _, fun _ _ => rfl⟩).alloc (Nat.le_refl _) (.cells #[.string PS, .int .i64 0, .bool false, .pointer none, .pointer none] 178))
        have HCK := Lib.hid ((HC.out.drewN n).alloc (.cells #[.string PS, .int .i64 0, .bool false, .pointer none, .pointer none] 178))
        have hfe : (w.drewN n).heap.size = w.heap.size := rfl
        rw [hfe] at HF
        try rw [hfe]
        generalize ((w.drewN n).alloc (.cells #[.string PS, .int .i64 0, .bool false, .pointer none, .pointer none] 178)) = w1 at *
        obtain ⟨f, hff⟩ : ∃ f, w.heap.size = f := ⟨_, rfl⟩
        have HFF := Lib.hid hff
        rw [hff] at HF ⊢
        have HP2 := Lib.hid (fun m => HPUT.out (w1.drewN m) f b HM.out (show Below w.heap.size w (w1.drewN m) from ⟨HBF.out.os, HBF.out.tape, HBF.out.output, HBF.out.size, HBF.out.block⟩) (by rw [HFF.out]; exact Nat.le_refl _) (HF.out.drewN m))
        clear hff HPUT HM HC HBF hfe c0 hb
        refine wp_region_expR tri_follows (fun x => by simp [putsF, Act.put]; rfl) (CallSt 6 11 (fun wx => ∃ m, wx = w1.drewN m) (fun v wx => ∃ m, wx = w1.drewN m) (fun wx => ∃ m, wx = (w1.drewN m).setCell ⟨f, 4, none⟩ (.pointer (some ⟨b, 0, none⟩))))
          [isX (.pointer (some ⟨f, 0, none⟩)), isX (.pointer (some ⟨b, 0, none⟩)), isX (.pointer (some ⟨b, 0, none⟩)), isX (.pointer (some ⟨b, 0, none⟩)), isX (.string KS), isX (.int .i64 a), isX (.int .i64 1), isX (.pointer (some ⟨b, 0, none⟩)), isX (.pointer (some ⟨f, 0, none⟩)), isX (.pointer (some ⟨f, 3, none⟩)), isX (.pointer (some ⟨f, 4, none⟩)), anyX]
          [6, 11] (by kernel_rfl) (by kernel_rfl) (by kernel_rfl) rfl ?_ (CallSt.start ⟨1, rfl⟩) ?_ ?_ ?_
        · repeat (first | exact trivial | refine ⟨by first | exact isX_stays _ | exact anyX_stays, ?_⟩)
        · refine ⟨?_, ?_, ?_, ?_, ?_, ?_, skipped rfl, ?_, ?_, ?_, ?_, skipped rfl, trivial⟩
          all_goals
            intro _ d x wx hR hdi hsrc hd
            refine ⟨fun _ => ?_, fun hX => by simp at hX⟩
            have hR' := Lib.hid (fun v => hR.plain v hdi (by decide) (by decide))
            obtain ⟨m, hm⟩ : ∃ m, wx = w1.drewN m := (hR.has hdi (by decide)).elim id id
            have c0 := (HCK.out.drewN m).get 0 _
            have cl := (HCK.out.drewN m).lt
            have cf := (HF.out.drewN m).lt
            have cc := (HF.out.drewN m).get 3 _
            have cd := (HF.out.drewN m).get 4 _
            rw [← hm] at c0 cl cf cc cd
            clear hR hm
            simp [wordX, isX] at hd ⊢
            go_simp; exact nextXR _ rfl rfl (hR'.out _) (Below.refl _ _)
        · refine ⟨unskipped rfl, unskipped rfl, unskipped rfl, unskipped rfl, unskipped rfl, unskipped rfl, ?_, unskipped rfl, unskipped rfl, unskipped rfl, unskipped rfl, ?_, trivial⟩
          · intro _ d x wx hR hdi hcl hsrc hd
            refine ⟨fun _ => ?_, fun hX => by simp at hX⟩
            have d4 : d 4 = true := SrcX.reach (K := 6) hcl hsrc rfl 20 4 (by decide) (by kernel_rfl)
            have d5 : d 5 = true := SrcX.reach (K := 6) hcl hsrc rfl 20 5 (by decide) (by kernel_rfl)
            simp only [DoneX] at hd
            obtain ⟨-, -, -, -, g4, g5, -⟩ := hd
            have h4 : x 4 = .string KS := g4 d4
            have h5 : x 5 = .int .i64 a := g5 d5
            obtain ⟨m, rfl⟩ := hR.pre hdi (by decide)
            have hR' := Lib.hid (fun v w' hm => hR.call (v := v) (w' := w') hdi (by decide) hm)
            try dsimp only
            rw [h4, h5]
            clear h4 h5 g4 g5 hR d4 d5
            go_simp
            go_at_call 100
            refine (HSIDE.out _).mono ?_
            rintro e wy ⟨rfl, rfl⟩
            exact nextKR _ rfl rfl (hR'.out _ _ ⟨m, rfl⟩) ⟨fun _ _ h => h, fun _ _ h => h, fun _ _ h => h, fun _ _ h => h, fun _ _ h => h, fun _ _ h => h, fun _ _ h => h, fun _ _ h => h, fun _ _ h => h, fun _ _ h => h, fun _ _ h => h, fun _ _ h => h, trivial⟩
          · intro _ d x wx hR hdi hcl hsrc hd
            refine ⟨fun _ => ?_, fun hX => by simp at hX⟩
            have hall : ∀ i, i < 11 → d i = true := fun i hi => SrcX.reach (K := 11) hcl hsrc rfl 20 i (by omega) (by revert i hi; decide +kernel)
            simp only [DoneX] at hd
            obtain ⟨-, -, -, -, -, -, -, g7, -, -, g10, -⟩ := hd
            have h7 : x 7 = .pointer (some ⟨b, 0, none⟩) := g7 (hall 7 (by decide))
            have h10 : x 10 = .pointer (some ⟨f, 4, none⟩) := g10 (hall 10 (by decide))
            obtain ⟨m, rfl⟩ := hR.mid hdi (hall 6 (by decide))
            have c4 := (HF.out.drewN m).get 4 _
            have f4 := (HF.out.drewN m).froz 4 (by simp)
            have cl := (HF.out.drewN m).lt
            have HALL := Lib.hid hall
            clear hR hall
            try dsimp only
            rw [h7, h10]
            clear h7 h10 g7 g10
            go_simp
            exact nextKR undef rfl trivial (CallSt.store HALL.out undef ⟨m, rfl⟩) ⟨fun _ _ h => h, fun _ _ h => h, fun _ _ h => h, fun _ _ h => h, fun _ _ h => h, fun _ _ h => h, fun _ _ h => h, fun _ _ h => h, fun _ _ h => h, fun _ _ h => h, fun _ _ h => h, fun _ _ h => h, trivial⟩
        · intro y wy d hall hR hx
          obtain ⟨m, rfl⟩ := hR.fin (hall 11 (by decide))
          clear hx hR hall
          go_wp2_with fail
          refine (HP2.out m).mono ?_
          rintro e wz hp
          obtain ⟨p', rfl, hp2⟩ := hp.w
          have HP := Lib.hid hp2
          clear hp hp2
          go_wp2_with fail
          go_ret
          exact HP.out.p
      | false =>
        simp only [Bool.false_eq_true, if_false] at HSIDE
        go_enter Tryz.func98, Tryz.ntmps98
        go_upto_region 7 with (first
          | (go_at_call 126; refine (HCOM.out _).mono ?_; rintro e w1 ⟨rfl, n, rfl⟩; have c0 := (HC.out.drewN n).get 0 _; have hb := (HC.out.drewN n).lt))
        have HF := Lib.hid (Cs.new (w.drewN n) #[.string PS, .int .i64 0, .bool false, .pointer none, .pointer none] 178 _ rfl)
        have HBF : Hid (Below w.heap.size w _) := Lib.hid ((show Below w.heap.size w (w.drewN n) from ⟨rfl, rfl, rfl, Nat.le_refl _, fun _ _ => rfl⟩).alloc (Nat.le_refl _) (.cells #[.string PS, .int .i64 0, .bool false, .pointer none, .pointer none] 178))
        have HCK := Lib.hid ((HC.out.drewN n).alloc (.cells #[.string PS, .int .i64 0, .bool false, .pointer none, .pointer none] 178))
        have hfe : (w.drewN n).heap.size = w.heap.size := rfl
        rw [hfe] at HF
        try rw [hfe]
        generalize ((w.drewN n).alloc (.cells #[.string PS, .int .i64 0, .bool false, .pointer none, .pointer none] 178)) = w1 at *
        obtain ⟨f, hff⟩ : ∃ f, w.heap.size = f := ⟨_, rfl⟩
        have HFF := Lib.hid hff
        rw [hff] at HF ⊢
        have HP2 := Lib.hid (fun m => HPUT.out (w1.drewN m) f b HM.out (show Below w.heap.size w (w1.drewN m) from ⟨HBF.out.os, HBF.out.tape, HBF.out.output, HBF.out.size, HBF.out.block⟩) (by rw [HFF.out]; exact Nat.le_refl _) (HF.out.drewN m))
        clear hff HPUT HM HC HBF hfe c0 hb
        refine wp_region_expR tri_follows (fun x => by simp [putsF, Act.put]; rfl) (CallSt 6 11 (fun wx => ∃ m, wx = w1.drewN m) (fun v wx => ∃ m, wx = w1.drewN m) (fun wx => ∃ m, wx = (w1.drewN m).setCell ⟨f, 3, none⟩ (.pointer (some ⟨b, 0, none⟩))))
          [isX (.pointer (some ⟨f, 0, none⟩)), isX (.pointer (some ⟨b, 0, none⟩)), isX (.pointer (some ⟨b, 0, none⟩)), isX (.pointer (some ⟨b, 0, none⟩)), isX (.string KS), isX (.int .i64 a), isX (.int .i64 0), isX (.pointer (some ⟨b, 0, none⟩)), isX (.pointer (some ⟨f, 0, none⟩)), isX (.pointer (some ⟨f, 3, none⟩)), isX (.pointer (some ⟨f, 3, none⟩)), anyX]
          [6, 11] (by kernel_rfl) (by kernel_rfl) (by kernel_rfl) rfl ?_ (CallSt.start ⟨1, rfl⟩) ?_ ?_ ?_
        · repeat (first | exact trivial | refine ⟨by first | exact isX_stays _ | exact anyX_stays, ?_⟩)
        · refine ⟨?_, ?_, ?_, ?_, ?_, ?_, skipped rfl, ?_, ?_, ?_, ?_, skipped rfl, trivial⟩
          all_goals
            intro _ d x wx hR hdi hsrc hd
            refine ⟨fun _ => ?_, fun hX => by simp at hX⟩
            have hR' := Lib.hid (fun v => hR.plain v hdi (by decide) (by decide))
            obtain ⟨m, hm⟩ : ∃ m, wx = w1.drewN m := (hR.has hdi (by decide)).elim id id
            have c0 := (HCK.out.drewN m).get 0 _
            have cl := (HCK.out.drewN m).lt
            have cf := (HF.out.drewN m).lt
            have cc := (HF.out.drewN m).get 3 _
            have cd := (HF.out.drewN m).get 4 _
            rw [← hm] at c0 cl cf cc cd
            clear hR hm
            simp [wordX, isX] at hd ⊢
            go_simp; exact nextXR _ rfl rfl (hR'.out _) (Below.refl _ _)
        · refine ⟨unskipped rfl, unskipped rfl, unskipped rfl, unskipped rfl, unskipped rfl, unskipped rfl, ?_, unskipped rfl, unskipped rfl, unskipped rfl, unskipped rfl, ?_, trivial⟩
          · intro _ d x wx hR hdi hcl hsrc hd
            refine ⟨fun _ => ?_, fun hX => by simp at hX⟩
            have d4 : d 4 = true := SrcX.reach (K := 6) hcl hsrc rfl 20 4 (by decide) (by kernel_rfl)
            have d5 : d 5 = true := SrcX.reach (K := 6) hcl hsrc rfl 20 5 (by decide) (by kernel_rfl)
            simp only [DoneX] at hd
            obtain ⟨-, -, -, -, g4, g5, -⟩ := hd
            have h4 : x 4 = .string KS := g4 d4
            have h5 : x 5 = .int .i64 a := g5 d5
            obtain ⟨m, rfl⟩ := hR.pre hdi (by decide)
            have hR' := Lib.hid (fun v w' hm => hR.call (v := v) (w' := w') hdi (by decide) hm)
            try dsimp only
            rw [h4, h5]
            clear h4 h5 g4 g5 hR d4 d5
            go_simp
            go_at_call 100
            refine (HSIDE.out _).mono ?_
            rintro e wy ⟨rfl, rfl⟩
            exact nextKR _ rfl rfl (hR'.out _ _ ⟨m, rfl⟩) ⟨fun _ _ h => h, fun _ _ h => h, fun _ _ h => h, fun _ _ h => h, fun _ _ h => h, fun _ _ h => h, fun _ _ h => h, fun _ _ h => h, fun _ _ h => h, fun _ _ h => h, fun _ _ h => h, fun _ _ h => h, trivial⟩
          · intro _ d x wx hR hdi hcl hsrc hd
            refine ⟨fun _ => ?_, fun hX => by simp at hX⟩
            have hall : ∀ i, i < 11 → d i = true := fun i hi => SrcX.reach (K := 11) hcl hsrc rfl 20 i (by omega) (by revert i hi; decide +kernel)
            simp only [DoneX] at hd
            obtain ⟨-, -, -, -, -, -, -, g7, -, -, g10, -⟩ := hd
            have h7 : x 7 = .pointer (some ⟨b, 0, none⟩) := g7 (hall 7 (by decide))
            have h10 : x 10 = .pointer (some ⟨f, 3, none⟩) := g10 (hall 10 (by decide))
            obtain ⟨m, rfl⟩ := hR.mid hdi (hall 6 (by decide))
            have c4 := (HF.out.drewN m).get 3 _
            have f4 := (HF.out.drewN m).froz 3 (by simp)
            have cl := (HF.out.drewN m).lt
            have HALL := Lib.hid hall
            clear hR hall
            try dsimp only
            rw [h7, h10]
            clear h7 h10 g7 g10
            go_simp
            exact nextKR undef rfl trivial (CallSt.store HALL.out undef ⟨m, rfl⟩) ⟨fun _ _ h => h, fun _ _ h => h, fun _ _ h => h, fun _ _ h => h, fun _ _ h => h, fun _ _ h => h, fun _ _ h => h, fun _ _ h => h, fun _ _ h => h, fun _ _ h => h, fun _ _ h => h, fun _ _ h => h, trivial⟩
        · intro y wy d hall hR hx
          obtain ⟨m, rfl⟩ := hR.fin (hall 11 (by decide))
          clear hx hR hall
          go_wp2_with fail
          refine (HP2.out m).mono ?_
          rintro e wz hp
          obtain ⟨p', rfl, hp2⟩ := hp.w
          have HP := Lib.hid hp2
          clear hp hp2
          go_wp2_with fail
          go_ret
          exact HP.out.p
    · have hkq : k <+: q := alike_pre (by omega)
      have := put_on k v h c q x0 hkq hq hl (fun hlt p bs w hm hnd => ih _ p bs w (hfit.2.2 _) hm hnd) p bs w hm hnd
      simp only [putR, if_neg ha]
      exact this
end Go.Proofs.YtkdknfedieeenaaGreatDoor
namespace Go.Proofs.YtkdknfedieeenaaGreatDoor
open Go.RowKit
set_option linter.unusedVariables false
set_option maxRecDepth 20000
attribute [local simp] putsF isV wordOf Deps Region.binds Region.wanted Act.put wantedX isB
theorem TrM.none_iff {w : World} {t : Tr} {p : Option Nat} {bs : List Nat} (h : TrM w t p bs) : p = none ↔ t = .nil := by
  constructor
  · rintro rfl; exact h.nil_ptr.1
  · rintro rfl; exact h.1
/-- What is left of a node. -/
theorem need_mem {w wx : World} {k : List UInt8} {v : Int} {h : Bool} {c : Bool → Tr} {b : Nat} {ps : Bool → Option Nat} {bs : List Nat} (hp : PutW w (.node k v h c) bs (some b) wx) (hc : Cs wx b [.string (sb k), .int .i64 v, .bool h, ptrV (ps false), ptrV (ps true)]) :
    PutW w (needR k v h c) bs (needP h (ps false) (ps true) b) wx := by
  obtain ⟨bs', ⟨b', ps', bb, e, rfl, hc', hk⟩, h2, h3, h4⟩ := hp
  injection e with e
  subst e
  have inj : ∀ {p q : Option Nat}, ptrV p = ptrV q → p = q := fun {p q} e => by
    cases p <;> cases q <;> simp [ptrV] at e <;> simp_all
  have e3 : ps false = ps' false := inj (by
    have x1 := hc.get 3 _
    have x2 := hc'.get 3 _
    rw [x1] at x2; exact Option.some.inj x2)
  have e4 : ps true = ps' true := inj (by
    have x1 := hc.get 4 _
    have x2 := hc'.get 4 _
    rw [x1] at x2; exact Option.some.inj x2)
  rw [e3, e4]
  obtain ⟨n1, n2, n3⟩ := bb_nodup h2
  have i0 := (hk false).none_iff
  have i1 := (hk true).none_iff
  have own : PutW w (.node k v h c) bs (some b) wx := ⟨_, ⟨b, ps', bb, rfl, rfl, hc', hk⟩, h2, h3, h4⟩
  have left : PutW w (c false) bs (ps' false) wx := ⟨_, hk false, n1 _, fun x hx => h3 x (mem_bb hx), h4⟩
  have right : PutW w (c true) bs (ps' true) wx := ⟨_, hk true, n1 _, fun x hx => h3 x (mem_bb hx), h4⟩
  cases h with
  | true => simp only [needR, needP]; exact own
  | false =>
    cases hl : c false with
    | nil =>
      have : ps' false = none := i0.2 hl
      rw [this]
      simp only [needR, needP, hl]
      exact right
    | node k1 v1 g1 c1 =>
      cases hp0 : ps' false with
      | none => exact absurd (i0.1 hp0) (by rw [hl]; simp)
      | some b0 =>
        cases hr : c true with
        | nil =>
          have : ps' true = none := i1.2 hr
          rw [this]
          simp only [needR, needP, hl, hr]
          rw [hl, hp0] at left
          exact left
        | node k2 v2 g2 c2 =>
          cases hp1 : ps' true with
          | none => exact absurd (i1.1 hp1) (by rw [hr]; simp)
          | some b1 =>
            simp only [needR, needP, hl, hr]
            exact own
set_option maxHeartbeats 3200000 in
/-- del. -/
theorem del_any (q : List UInt8) (hl : q.length ≤ 128) (t : Tr) : ∀ (p : Option Nat) (bs : List Nat) (w : World) (pre : List UInt8) (y : Int), t.Fit → t.Ok pre → t.Has q y → TrM w t p bs → bs.Nodup →
    Calls Tryz.prog 93 #[ptrV p, .string (sb q)] w (PutP w (delR t q) bs) := by
  induction t with
  | nil => intro p bs w pre y _ _ h; exact absurd h (by simp [Tr.Has])
  | node k v h c ih =>
    intro p bs w pre y hfit hok hhas hm hnd
    obtain ⟨hkl, hkb, hkf⟩ := hfit
    have h3 := hok.2.2.2.1
    have hn := (Tr.has_node h3).1 hhas
    have hbq := (Tr.has_pre hok hhas).2
    have hmax : maxLen = 9223372036854775807 := by decide
    obtain ⟨b, ps, bb, rfl, rfl, hc, hk⟩ := hm
    rw [ptrV_some]
    have HC := Lib.hid hc
    have c0 := hc.get 0 _
    have hb := hc.lt
    have hsk := sb_size k
    by_cases hkq : k = q
    · subst hkq
      have HDEL : Hid (delR (.node k v h c) k = needR k 0 false c) := Lib.hid (by simp only [delR, if_pos])
      rw [HDEL.out]
      have HOWN := Lib.hid (own_put hc hk hnd 0 0 false)
      have HNEED := Lib.hid (needed_any b _ _ _ _ _ _ HOWN.out.2)
      have HFIN := Lib.hid (need_mem HOWN.out.1 HOWN.out.2)
      have f0 : ((sb k).toList == (sb k).toList) = true := str_same _ _ rfl
      have c1 := hc.get 1 _
      have c2 := hc.get 2 _
      have f1 := hc.froz 1 (by simp)
      have f2 := hc.froz 2 (by simp)
      have HNEED2 : Hid (Calls Tryz.prog 124 #[.pointer (some ⟨b, 0, none⟩)] ((w.setCell ⟨b, 1, none⟩ (.int .i64 0)).setCell ⟨b, 2, none⟩ (.bool false)) _) := HNEED
      have HFIN2 : Hid (PutW w (needR k 0 false c) (b :: (bb false ++ bb true)) (needP false (ps false) (ps true) b) ((w.setCell ⟨b, 1, none⟩ (.int .i64 0)).setCell ⟨b, 2, none⟩ (.bool false))) := HFIN
      generalize needR k 0 false c = TT at *
      clear hok hhas hn h3 hbq hkf hkb hc hk hnd ih hmax hsk HOWN HNEED HFIN HDEL
      go_enter Tryz.func93, Tryz.ntmps93
      go_wp2_with fail
      refine HNEED2.out.mono ?_
      rintro e wz ⟨rfl, n, rfl⟩
      go_wp2_with fail
      go_ret
      exact (HFIN2.out.drewN' n).p
    · obtain ⟨a1, a2, a3⟩ : k <+: q ∧ k.length < q.length ∧ (c (side q k.length)).Has q y := by
        rcases hn with ⟨_, e, _⟩ | e
        · exact absurd e.symm hkq
        · exact e
      have HDEL : Hid (delR (.node k v h c) q = needR k v h (updC c (side q k.length) (delR (c (side q k.length)) q))) := Lib.hid (by simp only [delR, if_neg hkq])
      rw [HDEL.out]
      have HSIDE := Lib.hid (fun w => side_any q k.length w hbq a2 (by omega))
      have HCALL : Hid (∀ n, Calls Tryz.prog 93 #[ptrV (ps (side q k.length)), .string (sb q)] (w.drewN n) fun e w' => ∃ p', e = .returned (ptrV p') ∧ PutW w (delR (c (side q k.length)) q) (bb (side q k.length)) p' w') :=
        Lib.hid (fun n => (ih _ (ps _) (bb _) (w.drewN n) _ y (hkf _) (h3 _) a3 ((hk _).drewN n) ((bb_nodup hnd).1 _)).mono (fun e w' hp => by
          obtain ⟨p', h1, h2⟩ := hp.w
          exact ⟨p', h1, h2.drewN⟩))
      have f0 : ((sb k).toList == (sb q).toList) = false := str_other _ _ (by rw [sb_list, sb_list]; exact hkq)
      obtain ⟨s, hs⟩ : ∃ s, side q k.length = s := ⟨_, rfl⟩
      rw [hs] at HSIDE HCALL ⊢
      obtain ⟨T, hT⟩ : ∃ T, delR (c s) q = T := ⟨_, rfl⟩
      rw [hT] at HCALL ⊢
      have HPUT := Lib.hid (fun (p' : Option Nat) (wx : World) (hp : PutW w T (bb s) p' wx) => kid_put hc hk hnd hp)
      have HFIN : Hid (∀ (p' : Option Nat) (wx : World), PutW w T (bb s) p' wx → PutW w (needR k v h (updC c s T)) (b :: (bb false ++ bb true)) (needP h (updP ps s p' false) (updP ps s p' true) b) (wx.setCell ⟨b, offB s, none⟩ (ptrV p')) ∧
          Calls Tryz.prog 124 #[.pointer (some ⟨b, 0, none⟩)] (wx.setCell ⟨b, offB s, none⟩ (ptrV p')) fun e w' => e = .returned (ptrV (needP h (updP ps s p' false) (updP ps s p' true) b)) ∧ ∃ n, w' = (wx.setCell ⟨b, offB s, none⟩ (ptrV p')).drewN n) :=
        Lib.hid (fun p' wx hp => ⟨need_mem (HPUT.out p' wx hp).1 (HPUT.out p' wx hp).2, needed_any b _ _ _ _ _ _ (HPUT.out p' wx hp).2⟩)
      have HCX : Hid (∀ (v' : Value) (wx : World), ((∃ n, wx = w.drewN n) ∨ ∃ p', v' = ptrV p' ∧ PutW w T (bb s) p' wx) → Cs wx b [.string (sb k), .int .i64 v, .bool h, ptrV (ps false), ptrV (ps true)]) := Lib.hid (fun v' wx h => by
        rcases h with ⟨n, rfl⟩ | ⟨p', -, hp⟩
        · exact HC.out.drewN n
        · exact kid_cs HC.out hnd hp)
      generalize needR k v h (updC c s T) = TT at *
      obtain ⟨K, hK⟩ : ∃ K, k.length = K := ⟨_, rfl⟩
      rw [hK] at HSIDE hsk
      obtain ⟨KS, hKS⟩ : ∃ KS, sb k = KS := ⟨_, rfl⟩
      obtain ⟨QS, hQS⟩ : ∃ QS, sb q = QS := ⟨_, rfl⟩
      rw [hKS] at hsk HC HCX c0 f0
      rw [hQS] at HSIDE HCALL f0 ⊢
      clear hs hT hK hKS hQS hok hhas hn h3 hbq hkf hkb hc hk hnd ih hmax HDEL HPUT a1 a2 a3 hkl hkq
      cases s with
      | true =>
        simp only [if_true] at HSIDE
        have HFIN2 : Hid (∀ (p' : Option Nat) (wx : World), PutW w T (bb true) p' wx → PutW w TT (b :: (bb false ++ bb true)) (needP h (updP ps true p' false) (updP ps true p' true) b) (wx.setCell ⟨b, 4, none⟩ (ptrV p')) ∧
          Calls Tryz.prog 124 #[.pointer (some ⟨b, 0, none⟩)] (wx.setCell ⟨b, 4, none⟩ (ptrV p')) fun e w' => e = .returned (ptrV (needP h (updP ps true p' false) (updP ps true p' true) b)) ∧ ∃ n, w' = (wx.setCell ⟨b, 4, none⟩ (ptrV p')).drewN n) := HFIN
        clear HFIN
        go_enter Tryz.func93, Tryz.ntmps93
        go_upto_region 4 with (first
          | (go_at_call 100; refine (HSIDE.out _).mono ?_; rintro e w1 ⟨rfl, rfl⟩))
        refine wp_region_expR tri_follows (fun x => by simp [putsF, Act.put]; rfl) (CallSt 9 13 (fun wx => ∃ n, wx = w.drewN n) (fun v wx => ∃ p', v = ptrV p' ∧ PutW w T (bb true) p' wx) (fun wx => ∃ p' wy, PutW w T (bb true) p' wy ∧ wx = wy.setCell ⟨b, 4, none⟩ (ptrV p')))
          [isX (.pointer (some ⟨b, 0, none⟩)), isX (.int .i64 1), isX (.pointer (some ⟨b, 0, none⟩)), isX (.int .i64 1), isX (.pointer (some ⟨b, 0, none⟩)), isX (.pointer (some ⟨b, 3, none⟩)), isX (.pointer (some ⟨b, 4, none⟩)), isX (ptrV (ps true)), isX (.string QS), anyX, isX (.pointer (some ⟨b, 0, none⟩)), isX (.pointer (some ⟨b, 3, none⟩)), isX (.pointer (some ⟨b, 4, none⟩)), anyX]
          [9, 13] (by kernel_rfl) (by kernel_rfl) (by kernel_rfl) rfl ?_ (CallSt.start ⟨1, rfl⟩) ?_ ?_ ?_
        · repeat (first | exact trivial | refine ⟨by first | exact isX_stays _ | exact anyX_stays, ?_⟩)
        · refine ⟨?_, ?_, ?_, ?_, ?_, ?_, ?_, ?_, ?_, skipped rfl, ?_, ?_, ?_, skipped rfl, trivial⟩
          all_goals
            intro _ d x wx hR hdi hsrc hd
            refine ⟨fun _ => ?_, fun hX => by simp at hX⟩
            have hcx := HCX.out _ _ (hR.has hdi (by decide))
            have hR' := Lib.hid (fun v => hR.plain v hdi (by decide) (by decide))
            have c3 := hcx.get 3 _
            have c4 := hcx.get 4 _
            have cl := hcx.lt
            clear hR hcx
            simp [wordX, isX] at hd ⊢
            go_simp; exact nextXR _ rfl rfl (hR'.out _) (Below.refl _ _)
        · refine ⟨unskipped rfl, unskipped rfl, unskipped rfl, unskipped rfl, unskipped rfl, unskipped rfl, unskipped rfl, unskipped rfl, unskipped rfl, ?_, unskipped rfl, unskipped rfl, unskipped rfl, ?_, trivial⟩
          · intro _ d x wx hR hdi hcl hsrc hd
            refine ⟨fun _ => ?_, fun hX => by simp at hX⟩
            have d7 : d 7 = true := SrcX.reach (K := 9) hcl hsrc rfl 20 7 (by decide) (by kernel_rfl)
            have d8 : d 8 = true := SrcX.reach (K := 9) hcl hsrc rfl 20 8 (by decide) (by kernel_rfl)
            simp only [DoneX] at hd
            obtain ⟨-, -, -, -, -, -, -, g7, g8, -⟩ := hd
            have h7 : x 7 = ptrV (ps true) := g7 d7
            have h8 : x 8 = .string QS := g8 d8
            obtain ⟨m, rfl⟩ := hR.pre hdi (by decide)
            have hR' := Lib.hid (fun v w' hm => hR.call (v := v) (w' := w') hdi (by decide) hm)
            try dsimp only
            rw [h7, h8]
            clear h7 h8 g7 g8 hR d7 d8
            go_simp
            go_at_call 93
            refine (HCALL.out m).mono ?_
            rintro e wy ⟨p', rfl, hp⟩
            exact nextKR _ rfl trivial (hR'.out _ _ ⟨p', rfl, hp⟩) ⟨fun _ _ h => h, fun _ _ h => h, fun _ _ h => h, fun _ _ h => h, fun _ _ h => h, fun _ _ h => h, fun _ _ h => h, fun _ _ h => h, fun _ _ h => h, fun _ _ h => h, fun _ _ h => h, fun _ _ h => h, fun _ _ h => h, fun _ _ h => h, trivial⟩
          · intro _ d x wx hR hdi hcl hsrc hd
            refine ⟨fun _ => ?_, fun hX => by simp at hX⟩
            have hall : ∀ i, i < 13 → d i = true := fun i hi => SrcX.reach (K := 13) hcl hsrc rfl 20 i (by omega) (by revert i hi; decide +kernel)
            simp only [DoneX] at hd
            obtain ⟨-, -, -, -, -, -, -, -, -, -, -, -, g12, -⟩ := hd
            have h12 : x 12 = .pointer (some ⟨b, 4, none⟩) := g12 (hall 12 (by decide))
            obtain ⟨p', h9, hp⟩ := hR.mid hdi (hall 9 (by decide))
            have hcx := HCX.out (ptrV p') wx (.inr ⟨p', rfl, hp⟩)
            have HP := Lib.hid hp
            have c4 := hcx.get 4 _
            have f4 := hcx.froz 4 (by simp)
            have cl := hcx.lt
            have HALL := Lib.hid hall
            clear hcx hp hR hall
            try dsimp only
            rw [h12, h9]
            clear h12 h9 g12
            unfold ptrV at c4 ⊢
            go_simp
            exact nextKR undef rfl trivial (CallSt.store HALL.out undef ⟨p', wx, HP.out, rfl⟩) ⟨fun _ _ h => h, fun _ _ h => h, fun _ _ h => h, fun _ _ h => h, fun _ _ h => h, fun _ _ h => h, fun _ _ h => h, fun _ _ h => h, fun _ _ h => h, fun _ _ h => h, fun _ _ h => h, fun _ _ h => h, fun _ _ h => h, fun _ _ h => h, trivial⟩
        · intro z wy d hall hR hx
          obtain ⟨p', wz, hp, rfl⟩ := hR.fin (hall 13 (by decide))
          obtain ⟨e1, e2⟩ := HFIN2.out p' wz hp
          have HE1 := Lib.hid e1
          have HE2 := Lib.hid e2
          clear hx hR hall hp e1 e2
          generalize (wz.setCell ⟨b, 4, none⟩ (ptrV p')) = wy at *
          generalize needP h (updP ps true p' false) (updP ps true p' true) b = pr at *
          go_wp2_with fail
          refine HE2.out.mono ?_
          rintro e w8 ⟨rfl, n, rfl⟩
          go_wp2_with fail
          go_ret
          exact (HE1.out.drewN' n).p
      | false =>
        simp only [Bool.false_eq_true, if_false] at HSIDE
        have HFIN2 : Hid (∀ (p' : Option Nat) (wx : World), PutW w T (bb false) p' wx → PutW w TT (b :: (bb false ++ bb true)) (needP h (updP ps false p' false) (updP ps false p' true) b) (wx.setCell ⟨b, 3, none⟩ (ptrV p')) ∧
          Calls Tryz.prog 124 #[.pointer (some ⟨b, 0, none⟩)] (wx.setCell ⟨b, 3, none⟩ (ptrV p')) fun e w' => e = .returned (ptrV (needP h (updP ps false p' false) (updP ps false p' true) b)) ∧ ∃ n, w' = (wx.setCell ⟨b, 3, none⟩ (ptrV p')).drewN n) := HFIN
        clear HFIN
        go_enter Tryz.func93, Tryz.ntmps93
        go_upto_region 4 with (first
          | (go_at_call 100; refine (HSIDE.out _).mono ?_; rintro e w1 ⟨rfl, rfl⟩))
        refine wp_region_expR tri_follows (fun x => by simp [putsF, Act.put]; rfl) (CallSt 9 13 (fun wx => ∃ n, wx = w.drewN n) (fun v wx => ∃ p', v = ptrV p' ∧ PutW w T (bb false) p' wx) (fun wx => ∃ p' wy, PutW w T (bb false) p' wy ∧ wx = wy.setCell ⟨b, 3, none⟩ (ptrV p')))
          [isX (.pointer (some ⟨b, 0, none⟩)), isX (.int .i64 0), isX (.pointer (some ⟨b, 0, none⟩)), isX (.int .i64 0), isX (.pointer (some ⟨b, 0, none⟩)), isX (.pointer (some ⟨b, 3, none⟩)), isX (.pointer (some ⟨b, 3, none⟩)), isX (ptrV (ps false)), isX (.string QS), anyX, isX (.pointer (some ⟨b, 0, none⟩)), isX (.pointer (some ⟨b, 3, none⟩)), isX (.pointer (some ⟨b, 3, none⟩)), anyX]
          [9, 13] (by kernel_rfl) (by kernel_rfl) (by kernel_rfl) rfl ?_ (CallSt.start ⟨1, rfl⟩) ?_ ?_ ?_
        · repeat (first | exact trivial | refine ⟨by first | exact isX_stays _ | exact anyX_stays, ?_⟩)
        · refine ⟨?_, ?_, ?_, ?_, ?_, ?_, ?_, ?_, ?_, skipped rfl, ?_, ?_, ?_, skipped rfl, trivial⟩
          all_goals
            intro _ d x wx hR hdi hsrc hd
            refine ⟨fun _ => ?_, fun hX => by simp at hX⟩
            have hcx := HCX.out _ _ (hR.has hdi (by decide))
            have hR' := Lib.hid (fun v => hR.plain v hdi (by decide) (by decide))
            have c3 := hcx.get 3 _
            have c4 := hcx.get 4 _
            have cl := hcx.lt
            clear hR hcx
            simp [wordX, isX] at hd ⊢
            go_simp; exact nextXR _ rfl rfl (hR'.out _) (Below.refl _ _)
        · refine ⟨unskipped rfl, unskipped rfl, unskipped rfl, unskipped rfl, unskipped rfl, unskipped rfl, unskipped rfl, unskipped rfl, unskipped rfl, ?_, unskipped rfl, unskipped rfl, unskipped rfl, ?_, trivial⟩
          · intro _ d x wx hR hdi hcl hsrc hd
            refine ⟨fun _ => ?_, fun hX => by simp at hX⟩
            have d7 : d 7 = true := SrcX.reach (K := 9) hcl hsrc rfl 20 7 (by decide) (by kernel_rfl)
            have d8 : d 8 = true := SrcX.reach (K := 9) hcl hsrc rfl 20 8 (by decide) (by kernel_rfl)
            simp only [DoneX] at hd
            obtain ⟨-, -, -, -, -, -, -, g7, g8, -⟩ := hd
            have h7 : x 7 = ptrV (ps false) := g7 d7
            have h8 : x 8 = .string QS := g8 d8
            obtain ⟨m, rfl⟩ := hR.pre hdi (by decide)
            have hR' := Lib.hid (fun v w' hm => hR.call (v := v) (w' := w') hdi (by decide) hm)
            try dsimp only
            rw [h7, h8]
            clear h7 h8 g7 g8 hR d7 d8
            go_simp
            go_at_call 93
            refine (HCALL.out m).mono ?_
            rintro e wy ⟨p', rfl, hp⟩
            exact nextKR _ rfl trivial (hR'.out _ _ ⟨p', rfl, hp⟩) ⟨fun _ _ h => h, fun _ _ h => h, fun _ _ h => h, fun _ _ h => h, fun _ _ h => h, fun _ _ h => h, fun _ _ h => h, fun _ _ h => h, fun _ _ h => h, fun _ _ h => h, fun _ _ h => h, fun _ _ h => h, fun _ _ h => h, fun _ _ h => h, trivial⟩
          · intro _ d x wx hR hdi hcl hsrc hd
            refine ⟨fun _ => ?_, fun hX => by simp at hX⟩
            have hall : ∀ i, i < 13 → d i = true := fun i hi => SrcX.reach (K := 13) hcl hsrc rfl 20 i (by omega) (by revert i hi; decide +kernel)
            simp only [DoneX] at hd
            obtain ⟨-, -, -, -, -, -, -, -, -, -, -, -, g12, -⟩ := hd
            have h12 : x 12 = .pointer (some ⟨b, 3, none⟩) := g12 (hall 12 (by decide))
            obtain ⟨p', h9, hp⟩ := hR.mid hdi (hall 9 (by decide))
            have hcx := HCX.out (ptrV p') wx (.inr ⟨p', rfl, hp⟩)
            have HP := Lib.hid hp
            have c4 := hcx.get 3 _
            have f4 := hcx.froz 3 (by simp)
            have cl := hcx.lt
            have HALL := Lib.hid hall
            clear hcx hp hR hall
            try dsimp only
            rw [h12, h9]
            clear h12 h9 g12
            unfold ptrV at c4 ⊢
            go_simp
            exact nextKR undef rfl trivial (CallSt.store HALL.out undef ⟨p', wx, HP.out, rfl⟩) ⟨fun _ _ h => h, fun _ _ h => h, fun _ _ h => h, fun _ _ h => h, fun _ _ h => h, fun _ _ h => h, fun _ _ h => h, fun _ _ h => h, fun _ _ h => h, fun _ _ h => h, fun _ _ h => h, fun _ _ h => h, fun _ _ h => h, fun _ _ h => h, trivial⟩
        · intro z wy d hall hR hx
          obtain ⟨p', wz, hp, rfl⟩ := hR.fin (hall 13 (by decide))
          obtain ⟨e1, e2⟩ := HFIN2.out p' wz hp
          have HE1 := Lib.hid e1
          have HE2 := Lib.hid e2
          clear hx hR hall hp e1 e2
          generalize (wz.setCell ⟨b, 3, none⟩ (ptrV p')) = wy at *
          generalize needP h (updP ps false p' false) (updP ps false p' true) b = pr at *
          go_wp2_with fail
          refine HE2.out.mono ?_
          rintro e w8 ⟨rfl, n, rfl⟩
          go_wp2_with fail
          go_ret
          exact (HE1.out.drewN' n).p
end Go.Proofs.YtkdknfedieeenaaGreatDoor
namespace Go.Proofs.YtkdknfedieeenaaGreatDoor
open Go.RowKit
set_option linter.unusedVariables false
set_option maxRecDepth 20000
def longV : Option (Nat × Int) → Value
  | none => .tuple #[.int .i64 0, .int .i64 0, .bool false]
  | some (n, v) => .tuple #[.int .i64 v, .int .i64 n, .bool true]
def bestV (o : Option (Nat × Int)) : Int := match o with | none => 0 | some (_, v) => v
def bestN (o : Option (Nat × Int)) : Nat := match o with | none => 0 | some (n, _) => n
theorem longV_of (o : Option (Nat × Int)) : longV o = .tuple #[.int .i64 (bestV o), .int .i64 (bestN o : Nat), .bool o.isSome] := by
  cases o with
  | none => rfl
  | some p => rfl
theorem below_drewN {B : Nat} {w w' : World} (h : Below B w w') (n : Nat) : Below B w (w'.drewN n) := ⟨h.os, h.tape, h.output, h.size, h.block⟩
set_option maxHeartbeats 3200000 in
theorem longT_any (a : Nat) (t : Tr) (p : Option Nat) (bs : List Nat) (n : Value) (w : World) (q : List UInt8) (hc : Cs w a [ptrV p, n]) (hm : TrM w t p bs) (hfit : t.Fit) (hq : q.length ≤ 9223372036854775807) :
    Calls Tryz.prog 68 #[.pointer (some ⟨a, 0, none⟩), .string (sb q)] w fun e w' => e = .returned (longV (if mayL q then longR t q none else none)) ∧ Below w.heap.size w w' := by
  have HMAY := Lib.hid (mayT_any q w hq)
  have hmax : maxLen = 9223372036854775807 := by decide
  cases hmy : mayL q with
  | false =>
    rw [hmy] at HMAY
    simp only [Bool.false_eq_true, if_false]
    clear hmy hc hm hfit hmax
    generalize sb q = QS at *
    go_enter Tryz.func68, Tryz.ntmps68
    go_wp2_with fail
    refine HMAY.out.mono ?_
    rintro e w1 ⟨rfl, hb1⟩
    have HB1 := Lib.hid hb1
    clear hb1
    go_wp2_with fail
    refine bodyPost_ret (v := .tuple #[.int .i64 0, .int .i64 0, .bool false]) (by simp [results, Tryz.results68, go_sem]) rfl ?_
    exact ⟨rfl, HB1.out⟩
  | true =>
    rw [hmy] at HMAY
    simp only [if_true]
    obtain ⟨hl, hbits⟩ := (mayL_iff q).1 hmy
    have HC := Lib.hid hc
    have HM := Lib.hid hm
    have HPRE := Lib.hid (fun (k : List UInt8) (hk : k.length ≤ 128) w => hasPrefix_any q k w (by omega) (by omega))
    have HSIDE := Lib.hid (fun (i : Nat) (hi : i < q.length) w => side_any q i w hbits hi (by omega))
    have HSZ := Lib.hid sb_size
    have hsq := sb_size q
    obtain ⟨R, hR⟩ : ∃ R, longR t q none = R := ⟨_, rfl⟩
    have HR := Lib.hid hR
    rw [hR]
    obtain ⟨QL, hQL⟩ : ∃ QL, q.length = QL := ⟨_, rfl⟩
    have HQL := Lib.hid hQL
    rw [hQL] at hsq
    obtain ⟨QS, hQS⟩ : ∃ QS, sb q = QS := ⟨_, rfl⟩
    rw [hQS] at hsq HPRE HSIDE HMAY ⊢
    have HFIT := Lib.hid hfit
    clear hmy hc hm hl hbits hmax hR hQL hQS hq hfit
    go_enter Tryz.func68, Tryz.ntmps68
    go_wp2_with fail
    refine HMAY.out.mono ?_
    rintro e w1 ⟨rfl, hb1⟩
    have HB1 := Lib.hid hb1
    have HM1 := Lib.hid (HM.out.below hb1)
    have c0 := (HC.out.below hb1).get 0 _
    have cl := (HC.out.below hb1).lt
    clear hb1 HC HM
    go_wp2_with fail
    clear c0 cl
    go_loopg [7, 8, 9, 10] t.nodes (fun k v7 v8 v9 v10 wr => ∃ (t' : Tr) (p' : Option Nat) (bs' : List Nat) (o : Option (Nat × Int)), v7 = .int .i64 (bestV o) ∧ v8 = .int .i64 (bestN o : Nat) ∧ v9 = .bool o.isSome ∧ v10 = ptrV p' ∧ Hid (TrM wr t' p' bs' ∧ t'.Fit ∧ longR t' q o = R ∧ t'.nodes = k ∧ Below w.heap.size w wr))
    case atStart => exact ⟨t, p, bs, none, rfl, rfl, rfl, rfl, Lib.hid ⟨HM1.out, HFIT.out, HR.out, rfl, HB1.out⟩⟩
    case round =>
      obtain ⟨t', p', bs', o, rfl, rfl, rfl, rfl, HT⟩ := hrel
      clear HM1 HR HFIT HB1
      cases t' with
      | nil =>
        obtain ⟨⟨rfl, rfl⟩, -, hr, -, hbw⟩ := HT.out
        have HO : Hid (o = R) := Lib.hid hr
        have HBD := Lib.hid hbw
        clear hr HT hbw
        unfold ptrV
        go_wp2_with fail
        refine bodyPost_ret (v := .tuple #[.int .i64 (bestV o), .int .i64 (bestN o : Nat), .bool o.isSome]) (by simp [results, Tryz.results68, go_sem]) rfl ?_
        exact ⟨by rw [← HO.out, longV_of], by first | exact HBD.out | exact below_drewN HBD.out _⟩
      | node k v h c =>
        obtain ⟨⟨b, ps, bb, rfl, rfl, hc, hk⟩, hfit, hr, hn, hbw⟩ := HT.out
        have HBD := Lib.hid hbw
        clear HT hbw
        obtain ⟨hkl, hkb, hkf⟩ := hfit
        rw [ptrV_some]
        have HCB := Lib.hid hc
        have hpf := HPRE.out k hkl
        have hsk := HSZ.out k
        have cb0 := hc.get 0 _
        have cb1 := hc.get 1 _
        have cb2 := hc.get 2 _
        have cb3 := hc.get 3 _
        have cb4 := hc.get 4 _
        have clb := hc.lt
        simp only [longR] at hr
        by_cases hkq : k <+: q
        · rw [if_pos hkq] at hr
          rw [decide_eq_true hkq] at hpf
          have HPF := Lib.hid hpf
          by_cases hlen : k.length = q.length
          · rw [if_pos hlen] at hr
            obtain ⟨KL, hKL⟩ : ∃ KL, k.length = KL := ⟨_, rfl⟩
            rw [hKL] at hsk hr hlen
            have hlq : KL = QL := by rw [hlen]; exact HQL.out
            have d1 : ((KL : Int) == (QL : Int)) = true := by rw [hlq]; simp
            obtain ⟨KS, hKS⟩ : ∃ KS, sb k = KS := ⟨_, rfl⟩
            rw [hKS] at hsk HPF cb0
            cases h with
            | true =>
              have HO : Hid (some (KL, v) = R) := Lib.hid (by simpa using hr)
              clear hr hn hc hk hkl hkb hkf hpf hkq hlen hKL hKS HPRE HSIDE HSZ hlq
              go_upto_region 8 with (first
                | (go_at_call 99; refine (HPF.out _).mono ?_; rintro e w3 ⟨rfl, rfl⟩))
              go_quiet (fail)
              go_wp2_with fail
              refine bodyPost_ret (v := .tuple #[.int .i64 v, .int .i64 (KL : Nat), .bool true]) (by simp [results, Tryz.results68, go_sem]) rfl ?_
              exact ⟨by rw [← HO.out]; rfl, by first | exact HBD.out | exact below_drewN HBD.out _⟩
            | false =>
              have HO : Hid (o = R) := Lib.hid (by simpa using hr)
              clear hr hn hc hk hkl hkb hkf hpf hkq hlen hKL hKS HPRE HSIDE HSZ hlq
              go_wp2_with (first
                | (go_at_call 99; refine (HPF.out _).mono ?_; rintro e w3 ⟨rfl, rfl⟩))
              refine bodyPost_ret (v := .tuple #[.int .i64 (bestV o), .int .i64 (bestN o : Nat), .bool o.isSome]) (by simp [results, Tryz.results68, go_sem]) rfl ?_
              exact ⟨by rw [← HO.out, longV_of], by first | exact HBD.out | exact below_drewN HBD.out _⟩
          · rw [if_neg hlen] at hr
            have hlt : k.length < q.length := by have := hkq.length_le; omega
            have hsd := HSIDE.out k.length hlt
            obtain ⟨KL, hKL⟩ : ∃ KL, k.length = KL := ⟨_, rfl⟩
            rw [hKL] at hsk hr hlen hsd hlt
            have hlq : KL < QL := by have := HQL.out; omega
            have d1 : ((KL : Int) == (QL : Int)) = false := by simp; omega
            obtain ⟨KS, hKS⟩ : ∃ KS, sb k = KS := ⟨_, rfl⟩
            rw [hKS] at hsk HPF cb0
            obtain ⟨s, hs⟩ : ∃ s, side q KL = s := ⟨_, rfl⟩
            rw [hs] at hr hsd
            have HKID := Lib.hid (show TrM wr (c s) (ps s) (bb s) ∧ (c s).Fit from ⟨hk s, hkf s⟩)
            have HN : Hid ((c s).nodes < gk) := Lib.hid (by rw [← hn]; simp only [Tr.nodes]; cases s <;> omega)
            have HLR := Lib.hid hr
            have HKSS := Lib.hid hKS
            clear hr hn hc hk hkl hkb hkf hpf hkq hlen hKL hKS HPRE HSIDE HSZ hlt hs hlq
            cases s with
            | true =>
              simp only [if_true] at hsd
              have HSD := Lib.hid hsd
              clear hsd
              cases h with
              | true =>
                have HLR2 : Hid (longR (c true) q (some (KL, v)) = R) := Lib.hid (by simpa using HLR.out)
                clear HLR
                go_upto_region 8 with (first
                  | (go_at_call 99; refine (HPF.out _).mono ?_; rintro e w3 ⟨rfl, rfl⟩))
                go_quiet (fail)
                have HC2 := Lib.hid (HCB.out.drewN nq)
                have HK2 := Lib.hid (HKID.out.1.drewN nq)
                have HB2 := Lib.hid (below_drewN HBD.out nq)
                generalize World.drewN wr nq = wr2 at *
                clear cb0 cb1 cb2 cb3 cb4 clb HBD
                have cb0 := HC2.out.get 0 _
                rw [HKSS.out] at cb0
                have cb4 := HC2.out.get 4 _
                have clb := HC2.out.lt
                go_upto_region 6 with fail
                go_quiet ((go_at_call 100; exact Calls.quiet_of_same ((HSD.out _).mono fun e w' ⟨a, b⟩ => ⟨a, b.symm⟩)))
                go_wp2_with fail
                go_roundg (c true).nodes
                case measure => exact HN.out
                case rel => exact ⟨c true, ps true, bb true, some (KL, v), rfl, rfl, rfl, rfl, Lib.hid ⟨HK2.out.drewN _, HKID.out.2, HLR2.out, rfl, below_drewN HB2.out _⟩⟩
              | false =>
                have HLR2 : Hid (longR (c true) q o = R) := Lib.hid (by simpa using HLR.out)
                clear HLR
                go_upto_region 6 with (first
                  | (go_at_call 99; refine (HPF.out _).mono ?_; rintro e w3 ⟨rfl, rfl⟩))
                go_quiet ((go_at_call 100; exact Calls.quiet_of_same ((HSD.out _).mono fun e w' ⟨a, b⟩ => ⟨a, b.symm⟩)))
                go_wp2_with fail
                go_roundg (c true).nodes
                case measure => exact HN.out
                case rel => exact ⟨c true, ps true, bb true, o, rfl, rfl, rfl, rfl, Lib.hid ⟨HKID.out.1.drewN _, HKID.out.2, HLR2.out, rfl, below_drewN HBD.out _⟩⟩
            | false =>
              simp only [Bool.false_eq_true, if_false] at hsd
              have HSD := Lib.hid hsd
              clear hsd
              cases h with
              | true =>
                have HLR2 : Hid (longR (c false) q (some (KL, v)) = R) := Lib.hid (by simpa using HLR.out)
                clear HLR
                go_upto_region 8 with (first
                  | (go_at_call 99; refine (HPF.out _).mono ?_; rintro e w3 ⟨rfl, rfl⟩))
                go_quiet (fail)
                have HC2 := Lib.hid (HCB.out.drewN nq)
                have HK2 := Lib.hid (HKID.out.1.drewN nq)
                have HB2 := Lib.hid (below_drewN HBD.out nq)
                generalize World.drewN wr nq = wr2 at *
                clear cb0 cb1 cb2 cb3 cb4 clb HBD
                have cb0 := HC2.out.get 0 _
                rw [HKSS.out] at cb0
                have cb3 := HC2.out.get 3 _
                have clb := HC2.out.lt
                go_upto_region 6 with fail
                go_quiet ((go_at_call 100; exact Calls.quiet_of_same ((HSD.out _).mono fun e w' ⟨a, b⟩ => ⟨a, b.symm⟩)))
                go_wp2_with fail
                go_roundg (c false).nodes
                case measure => exact HN.out
                case rel => exact ⟨c false, ps false, bb false, some (KL, v), rfl, rfl, rfl, rfl, Lib.hid ⟨HK2.out.drewN _, HKID.out.2, HLR2.out, rfl, below_drewN HB2.out _⟩⟩
              | false =>
                have HLR2 : Hid (longR (c false) q o = R) := Lib.hid (by simpa using HLR.out)
                clear HLR
                go_upto_region 6 with (first
                  | (go_at_call 99; refine (HPF.out _).mono ?_; rintro e w3 ⟨rfl, rfl⟩))
                go_quiet ((go_at_call 100; exact Calls.quiet_of_same ((HSD.out _).mono fun e w' ⟨a, b⟩ => ⟨a, b.symm⟩)))
                go_wp2_with fail
                go_roundg (c false).nodes
                case measure => exact HN.out
                case rel => exact ⟨c false, ps false, bb false, o, rfl, rfl, rfl, rfl, Lib.hid ⟨HKID.out.1.drewN _, HKID.out.2, HLR2.out, rfl, below_drewN HBD.out _⟩⟩
        · rw [if_neg hkq] at hr
          rw [decide_eq_false hkq] at hpf
          have HPF := Lib.hid hpf
          have HO : Hid (o = R) := Lib.hid hr
          clear hr hn hc hk hkl hkb hkf hpf hkq HPRE HSIDE HSZ
          generalize sb k = KS at *
          go_wp2_with (first
            | (go_at_call 99; refine (HPF.out _).mono ?_; rintro e w3 ⟨rfl, rfl⟩))
          refine bodyPost_ret (v := .tuple #[.int .i64 (bestV o), .int .i64 (bestN o : Nat), .bool o.isSome]) (by simp [results, Tryz.results68, go_sem]) rfl ?_
          exact ⟨by rw [← HO.out, longV_of], by first | exact HBD.out | exact below_drewN HBD.out _⟩
end Go.Proofs.YtkdknfedieeenaaGreatDoor
namespace Go.Proofs.YtkdknfedieeenaaGreatDoor
open Go.RowKit
set_option linter.unusedVariables false
set_option maxRecDepth 20000
/-- A word's number. -/
def getO (q : List UInt8) : Option (Nat × Int) → Option Int
  | some (n, v) => if n = q.length then some v else none
  | none => none
def getR (t : Tr) (q : List UInt8) : Option Int := getO q (if mayL q then longR t q none else none)
theorem has_fit {t : Tr} : ∀ {q : List UInt8} {x : Int}, t.Fit → t.Has q x → mayL q = true := by
  induction t with
  | nil => intro q x _ h; exact absurd h (by simp [Tr.Has])
  | node k v h c ih =>
    intro q x hf hh
    obtain ⟨h1, h2, h3⟩ := hf
    rcases hh with ⟨_, rfl, _⟩ | ⟨s, hs⟩
    · exact (mayL_iff _).2 ⟨h1, h2⟩
    · exact ih s (h3 s) hs
theorem get_spec {t : Tr} {p q : List UInt8} {v : Int} (ho : t.Ok p) (hf : t.Fit) : getR t q = some v ↔ t.Has q v := by
  unfold getR getO
  constructor
  · intro h
    cases hm : mayL q with
    | false => rw [hm] at h; simp at h
    | true =>
      rw [hm] at h
      simp only [if_true] at h
      rcases long_spec (q := q) (b := none) ho with ⟨n, x, e1, e2, e3, e4⟩ | ⟨e1, e2⟩
      · rw [e1] at h
        simp only at h
        split at h
        · rename_i hn
          injection h with h
          subst h hn
          rw [List.take_length] at e3; exact e3
        · cases h
      · rw [e1] at h; cases h
  · intro h
    rw [has_fit hf h]
    simp only [if_true]
    rcases long_spec (q := q) (b := none) ho with ⟨n, x, e1, e2, e3, e4⟩ | ⟨e1, e2⟩
    · have hn : q.length ≤ n := e4 q.length v (Nat.le_refl _) (by rw [List.take_length]; exact h)
      have hn' : n = q.length := by omega
      subst hn'
      rw [List.take_length] at e3
      rw [e1]
      simp only [if_true]
      rw [Tr.has_inj ho e3 h]
    · exact absurd (by rw [List.take_length]; exact h) (e2 q.length v (Nat.le_refl _))
theorem get_none {t : Tr} {p q : List UInt8} (ho : t.Ok p) (hf : t.Fit) : getR t q = none ↔ ∀ v, ¬ t.Has q v := by
  constructor
  · intro h v hv
    rw [(get_spec ho hf).2 hv] at h; cases h
  · intro h
    cases hg : getR t q with
    | none => rfl
    | some v => exact absurd ((get_spec ho hf).1 hg) (h v)
theorem get_put {t : Tr} {q : List UInt8} {x : Int} (ho : t.Ok []) (hf : t.Fit) (hm : mayL q = true) (q' : List UInt8) : getR (putR t q x) q' = if q' = q then some x else getR t q' := by
  obtain ⟨hl, hb⟩ := (mayL_iff q).1 hm
  obtain ⟨h1, h2⟩ := put_spec (x := x) ho (List.nil_prefix) hb
  have hf' := fit_put x hb hl hf
  by_cases e : q' = q
  · rw [if_pos e]
    exact (get_spec h1 hf').2 ((h2 _ _).2 (.inl ⟨e, rfl⟩))
  · rw [if_neg e]
    cases hg : getR t q' with
    | none =>
      rw [get_none h1 hf']
      intro v hv
      rcases (h2 _ _).1 hv with ⟨e', _⟩ | ⟨_, e'⟩
      · exact e e'
      · exact (get_none ho hf).1 hg v e'
    | some v => exact (get_spec h1 hf').2 ((h2 _ _).2 (.inr ⟨e, (get_spec ho hf).1 hg⟩))
theorem get_del {t : Tr} {q : List UInt8} {x : Int} (ho : t.Ok []) (hf : t.Fit) (hx : getR t q = some x) (q' : List UInt8) : getR (delR t q) q' = if q' = q then none else getR t q' := by
  obtain ⟨h1, h2⟩ := del_spec ho ((get_spec ho hf).1 hx)
  have hf' : (delR t q).Fit := fit_del hf
  by_cases e : q' = q
  · rw [if_pos e, get_none h1 hf']
    intro v hv
    exact ((h2 _ _).1 hv).1 e
  · rw [if_neg e]
    cases hg : getR t q' with
    | none =>
      rw [get_none h1 hf']
      intro v hv
      exact (get_none ho hf).1 hg v ((h2 _ _).1 hv).2
    | some v => exact (get_spec h1 hf').2 ((h2 _ _).2 ⟨e, (get_spec ho hf).1 hg⟩)
theorem keys_get {t : Tr} {p q : List UInt8} (ho : t.Ok p) (hf : t.Fit) : q ∈ t.keys ↔ (getR t q).isSome = true := by
  rw [keys_mem]
  cases hg : getR t q with
  | none => simp; exact (get_none ho hf).1 hg
  | some v => simp; exact ⟨v, (get_spec ho hf).1 hg⟩
theorem keys_put {t : Tr} {q : List UInt8} {x : Int} (ho : t.Ok []) (hf : t.Fit) (hm : mayL q = true) : (putR t q x).keys.length = if (getR t q).isSome then t.keys.length else t.keys.length + 1 := by
  obtain ⟨hl, hb⟩ := (mayL_iff q).1 hm
  obtain ⟨h1, h2⟩ := put_spec (x := x) ho (List.nil_prefix) hb
  have hf' := fit_put x hb hl hf
  split
  · rename_i hs
    refine len_of_mem (keys_nodup h1) (keys_nodup ho) fun q' => ?_
    rw [keys_get h1 hf', keys_get ho hf, get_put ho hf hm]
    by_cases e : q' = q
    · subst e; simp [hs]
    · rw [if_neg e]
  · rename_i hs
    have : (putR t q x).keys.length = (q :: t.keys).length := by
      refine len_of_mem (keys_nodup h1) (List.nodup_cons.2 ⟨fun h => hs ((keys_get ho hf).1 h), keys_nodup ho⟩) fun q' => ?_
      rw [keys_get h1 hf', List.mem_cons, keys_get ho hf, get_put ho hf hm]
      by_cases e : q' = q
      · simp [e]
      · simp [e]
    simpa using this
theorem keys_del {t : Tr} {q : List UInt8} {x : Int} (ho : t.Ok []) (hf : t.Fit) (hx : getR t q = some x) : (delR t q).keys.length + 1 = t.keys.length := by
  obtain ⟨h1, h2⟩ := del_spec ho ((get_spec ho hf).1 hx)
  have hf' : (delR t q).Fit := fit_del hf
  have : (q :: (delR t q).keys).length = t.keys.length := by
    refine len_of_mem (List.nodup_cons.2 ⟨fun h => ?_, keys_nodup h1⟩) (keys_nodup ho) fun q' => ?_
    · rw [keys_get h1 hf', get_del ho hf hx, if_pos rfl] at h; cases h
    · rw [List.mem_cons, keys_get h1 hf', keys_get ho hf, get_del ho hf hx]
      by_cases e : q' = q
      · subst e; simp [hx]
      · simp [e]
  simpa using this
/-- A trie of the law's own: its blocks lie from B on; bs are its nodes' blocks. -/
structure TrL (W : World) (B a : Nat) (bs : List Nat) (t : Tr) (w : World) : Prop where
  ex : ∃ p, Cs w a [ptrV p, .int .i64 (t.keys.length : Nat)] ∧ TrM w t p bs
  nd : bs.Nodup
  apart : a ∉ bs
  own : ∀ x ∈ bs, B ≤ x
  ok : t.Ok []
  fit : t.Fit
  base : B ≤ a
  bel : Below B W w
section
variable {W w w' : World} {B a : Nat} {bs : List Nat} {t : Tr}
theorem TrL.below (h : TrL W B a bs t w) (hb : Below w.heap.size w w') : TrL W B a bs t w' := by
  obtain ⟨p, h1, h2⟩ := h.ex
  exact ⟨⟨p, h1.below hb, h2.below hb⟩, h.nd, h.apart, h.own, h.ok, h.fit, h.base, h.bel.trans (hb.mono (Nat.le_trans h.base (Nat.le_of_lt h1.lt)))⟩
theorem TrL.lt (h : TrL W B a bs t w) : a < w.heap.size := by obtain ⟨p, h1, h2⟩ := h.ex; exact h1.lt
theorem TrL.lts (h : TrL W B a bs t w) : ∀ x ∈ bs, x < w.heap.size := by obtain ⟨p, h1, h2⟩ := h.ex; exact h2.lt
/-- What others turn. -/
theorem TrL.only (h : TrL W B a bs t w) {S : Nat → Prop} (ho : Only S w w') (ha : ¬ S a) (hs : ∀ x ∈ bs, ¬ S x) (hB : ∀ x, S x → B ≤ x) : TrL W B a bs t w' := by
  obtain ⟨p, h1, h2⟩ := h.ex
  exact ⟨⟨p, ho.cs h1 ha, h2.only ho hs⟩, h.nd, h.apart, h.own, h.ok, h.fit, h.base, h.bel.trans (ho.below (Nat.le_trans h.base (Nat.le_of_lt h1.lt)) fun k hk e => by have := hB k e; omega)⟩
theorem TrL.start (w : World) (ty : TypeId) (W : World) (B : Nat) (hB : B ≤ w.heap.size) (hb : Below B W w) : TrL W B w.heap.size [] .nil (w.alloc (.cells #[.pointer none, .int .i64 0] ty)) :=
  ⟨⟨none, Cs.new w _ _ _, ⟨rfl, rfl⟩⟩, by simp, by simp, by simp, trivial, trivial, hB, hb.alloc hB _⟩
/-- The trie with another tree. -/
theorem TrL.next (h : TrL W B a bs t w) {t' : Tr} {p' : Option Nat} {bs' : List Nat} {w2 w3 : World} (hb : Below w.heap.size w w2) (h1 : TrM w' t' p' bs') (h2 : bs'.Nodup) (h3 : ∀ x ∈ bs', x ∈ bs ∨ w2.heap.size ≤ x) (h4 : Only (fun x => x ∈ bs) w2 w') (hok : t'.Ok []) (hfit : t'.Fit) (n : Value) (hn : n = .int .i64 (t'.keys.length : Nat))
    (hcs : Cs w3 a [ptrV p', n]) (hw : Only (fun x => x = a) w' w3) : TrL W B a bs' t' w3 ∧ Only (fun x => x = a ∨ x ∈ bs) w w3 ∧ ∀ x ∈ bs', x ∈ bs ∨ w.heap.size ≤ x := by
  subst hn
  have hlt := h.lt
  have ha : a ∉ bs' := fun e => by
    rcases h3 a e with e | e
    · exact h.apart e
    · have := hb.size; omega
  have hO : Only (fun x => x = a ∨ x ∈ bs) w w3 := ((Only.of_below _ hb).trans (h4.mono fun x _ e => Or.inr e) (fun x _ e => e)).trans hw (fun x _ e => .inl e)
  refine ⟨⟨⟨p', hcs, h1.only hw fun x hx e => ha (by rw [← e]; exact hx)⟩, h2, ha, fun x hx => ?_, hok, hfit, h.base, h.bel.trans (hO.below (Nat.le_trans h.base (Nat.le_of_lt hlt)) fun k hk e => ?_)⟩, hO, fun x hx => ?_⟩
  · rcases h3 x hx with e | e
    · exact h.own x e
    · have := hb.size; have := h.base; omega
  · rcases e with e | e
    · have := h.base; omega
    · have := h.own k e; omega
  · rcases h3 x hx with e | e
    · exact .inl e
    · have := hb.size; exact .inr (by omega)
set_option maxHeartbeats 1600000 in
theorem TrL.get (h : TrL W B a bs t w) (q : List UInt8) (hq : q.length ≤ 9223372036854775807) :
    Calls Tryz.prog 92 #[.pointer (some ⟨a, 0, none⟩), .string (sb q)] w fun e w' => e = .returned (.tuple #[.int .i64 ((getR t q).getD 0), .bool (getR t q).isSome]) ∧ Below w.heap.size w w' := by
  obtain ⟨p, h1, h2⟩ := h.ex
  have HL := Lib.hid (longT_any a t p bs _ w q h1 h2 h.fit hq)
  have hsq := sb_size q
  obtain ⟨o, ho⟩ : ∃ o, (if mayL q then longR t q none else none) = o := ⟨_, rfl⟩
  rw [ho] at HL
  have hg : getR t q = getO q o := by unfold getR; rw [ho]
  cases o with
  | none =>
    have hg' : getR t q = none := hg
    rw [hg']
    have HL2 : Hid (Calls Tryz.prog 68 #[.pointer (some ⟨a, 0, none⟩), .string (sb q)] w fun e w' => e = .returned (.tuple #[.int .i64 0, .int .i64 0, .bool false]) ∧ Below w.heap.size w w') := HL
    clear HL ho hg hg' h1 h2 h
    go_enter Tryz.func92, Tryz.ntmps92
    go_wp2_with fail
    refine HL2.out.mono ?_
    rintro e w1 ⟨rfl, hb1⟩
    have HB1 := Lib.hid hb1
    clear hb1
    go_wp2_with fail
    go_ret2
    exact ⟨rfl, HB1.out⟩
  | some nv =>
    obtain ⟨n, v⟩ := nv
    have HL2 : Hid (Calls Tryz.prog 68 #[.pointer (some ⟨a, 0, none⟩), .string (sb q)] w fun e w' => e = .returned (.tuple #[.int .i64 v, .int .i64 n, .bool true]) ∧ Below w.heap.size w w') := HL
    obtain ⟨Q, hQ⟩ : ∃ Q, q.length = Q := ⟨_, rfl⟩
    rw [hQ] at hsq
    by_cases hn : n = q.length
    · have hg' : getR t q = some v := by rw [hg]; simp only [getO, if_pos hn]
      rw [hg']
      have d1 : ((n : Int) == (Q : Int)) = true := by rw [hn, hQ]; simp
      have d2 : ((n : Int) != (Q : Int)) = false := by rw [hn, hQ]; simp
      clear HL ho hg hg' h1 h2 h hn hQ
      generalize sb q = QS at *
      go_enter Tryz.func92, Tryz.ntmps92
      go_wp2_with fail
      refine HL2.out.mono ?_
      rintro e w1 ⟨rfl, hb1⟩
      have HB1 := Lib.hid hb1
      clear hb1
      go_wp2_with fail
      go_ret2
      exact ⟨rfl, HB1.out⟩
    · have hg' : getR t q = none := by rw [hg]; simp only [getO, if_neg hn]
      rw [hg']
      have d1 : ((n : Int) == (Q : Int)) = false := by rw [← hQ]; simp; omega
      have d2 : ((n : Int) != (Q : Int)) = true := by rw [← hQ]; simp; omega
      clear HL ho hg hg' h1 h2 h hn hQ
      generalize sb q = QS at *
      go_enter Tryz.func92, Tryz.ntmps92
      go_wp2_with fail
      refine HL2.out.mono ?_
      rintro e w1 ⟨rfl, hb1⟩
      have HB1 := Lib.hid hb1
      clear hb1
      go_wp2_with fail
      go_ret2
      exact ⟨rfl, HB1.out⟩
theorem TrL.len (h : TrL W B a bs t w) : Calls Tryz.prog 63 #[.pointer (some ⟨a, 0, none⟩)] w fun e w' => e = .returned (.int .i64 (t.keys.length : Nat)) ∧ w = w' := by
  obtain ⟨p, h1, h2⟩ := h.ex
  have c1 := h1.get 1 _
  have cl := h1.lt
  generalize t.keys.length = n at *
  clear h h1 h2
  go_enter Tryz.func63, Tryz.ntmps63
  go_wp2
  go_ret
  exact ⟨rfl, rfl⟩
end
end Go.Proofs.YtkdknfedieeenaaGreatDoor
namespace Go.Proofs.YtkdknfedieeenaaGreatDoor
open Go.RowKit
set_option linter.unusedVariables false
set_option maxRecDepth 20000
theorem ptrV_pointer (p : Option Nat) : ∃ u, ptrV p = .pointer u := ⟨_, rfl⟩
section
variable {W w w' : World} {B a : Nat} {bs : List Nat} {t : Tr}
/-- What a call leaves that turns the trie. -/
def TrN (W : World) (B a : Nat) (bs : List Nat) (t' : Tr) (w w' : World) : Prop :=
  ∃ bs', TrL W B a bs' t' w' ∧ Only (fun x => x = a ∨ x ∈ bs) w w' ∧ ∀ x ∈ bs', x ∈ bs ∨ w.heap.size ≤ x
set_option maxHeartbeats 1600000 in
theorem TrL.putNot (h : TrL W B a bs t w) (q : List UInt8) (x : Int) (hq : q.length ≤ 9223372036854775807) (hm : mayL q = false) :
    Calls Tryz.prog 61 #[.pointer (some ⟨a, 0, none⟩), .string (sb q), .int .i64 x] w fun e w' => e = .returned (.bool false) ∧ Below w.heap.size w w' := by
  have HMAY := Lib.hid (mayT_any q w hq)
  rw [hm] at HMAY
  clear h hm
  generalize sb q = QS at *
  go_enter Tryz.func61, Tryz.ntmps61
  go_wp2_with fail
  refine HMAY.out.mono ?_
  rintro e w1 ⟨rfl, hb1⟩
  have HB1 := Lib.hid hb1
  clear hb1
  go_wp2_with fail
  go_ret
  exact ⟨rfl, HB1.out⟩
set_option maxHeartbeats 3200000 in
theorem TrL.put (h : TrL W B a bs t w) (q : List UInt8) (x : Int) (hm : mayL q = true) (hf : t.keys.length ≤ 1152921504606846976) :
    Calls Tryz.prog 61 #[.pointer (some ⟨a, 0, none⟩), .string (sb q), .int .i64 x] w fun e w' => e = .returned (.bool (getR t q).isNone) ∧ TrN W B a bs (putR t q x) w w' := by
  obtain ⟨hl, hb⟩ := (mayL_iff q).1 hm
  have HMAY := Lib.hid (mayT_any q w (by omega))
  rw [hm] at HMAY
  have HGET := Lib.hid (fun w1 (hb1 : Below w.heap.size w w1) => (h.below hb1).get q (by omega))
  have hkeys := keys_put (x := x) h.ok h.fit hm
  have hok := (put_spec (x := x) h.ok List.nil_prefix hb).1
  have hfit := fit_put x hb hl h.fit
  obtain ⟨p, h1, h2⟩ := h.ex
  have HPUT := Lib.hid (fun w1 (hb1 : Below w.heap.size w w1) => put_any q x hb hl t p bs w1 h.fit (h2.below hb1) h.nd)
  have HC := Lib.hid (fun w1 (hb1 : Below w.heap.size w w1) => h1.below hb1)
  have HAP := Lib.hid h.apart
  have HNEXT := Lib.hid (fun (w2 w' w3 : World) (p' : Option Nat) (bs' : List Nat) (n : Value) hb h1 h2 h3 h4 hn hcs hw => h.next (w2 := w2) (w' := w') (w3 := w3) (t' := putR t q x) (p' := p') (bs' := bs') hb h1 h2 h3 h4 hok hfit n hn hcs hw)
  generalize putR t q x = t' at *
  obtain ⟨K', hK'⟩ : ∃ K', t'.keys.length = K' := ⟨_, rfl⟩
  obtain ⟨K, hK⟩ : ∃ K, t.keys.length = K := ⟨_, rfl⟩
  rw [hK'] at hkeys HNEXT
  rw [hK] at hkeys HC hf
  obtain ⟨o, ho⟩ : ∃ o, getR t q = o := ⟨_, rfl⟩
  rw [ho] at HGET hkeys ⊢
  generalize sb q = QS at *
  clear hK' hK ho h1 h2 h hok hfit hb hl hm
  cases o with
  | none =>
    simp only [Option.isSome_none, Bool.false_eq_true, if_false, Option.getD_none] at hkeys HGET
    subst hkeys
    go_enter Tryz.func61, Tryz.ntmps61
    go_wp2_with fail
    refine HMAY.out.mono ?_
    rintro e w1 ⟨rfl, hb1⟩
    have HB1 := Lib.hid hb1
    clear hb1
    go_wp2_with fail
    refine (HGET.out w1 HB1.out).mono ?_
    rintro e w2 ⟨rfl, hb2⟩
    have HB2 := Lib.hid (below_trans HB1.out HB1.out.size hb2)
    clear hb2
    have c0 := (HC.out w2 HB2.out).get 0 _
    have cl := (HC.out w2 HB2.out).lt
    go_wp2_with fail
    refine (HPUT.out w2 HB2.out).mono ?_
    rintro e w3 ⟨p', bs', rfl, g1, g2, g3, g4⟩
    have HC3 := Lib.hid (g4.cs (HC.out w2 HB2.out) HAP.out)
    have HG := Lib.hid (And.intro g1 (And.intro g2 (And.intro g3 g4)))
    clear c0 cl g1 g2 g3 g4
    have c0 := HC3.out.get 0 _
    have c1 := HC3.out.get 1 _
    have f0 := HC3.out.froz 0 (by simp)
    have f1 := HC3.out.froz 1 (by simp)
    have cl := HC3.out.lt
    obtain ⟨u, hu⟩ := ptrV_pointer p'
    rw [hu]
    have HU := Lib.hid hu
    clear hu
    have i1 : IntKind.wrap .i64 ((K : Int) + 1) = (K : Int) + 1 := IntWalk.i64_in _ (by omega)
    go_wp2_with fail
    go_ret
    refine ⟨rfl, bs', ?_⟩
    obtain ⟨g1, g2, g3, g4⟩ := HG.out
    refine HNEXT.out w2 w3 _ p' bs' (.int .i64 ((K : Int) + 1)) HB2.out g1 g2 g3 g4 (by simp) ?_ ?_
    · rw [HU.out]
      exact (HC3.out.set' 0 (.pointer u) (by simp)).set' 1 (.int .i64 ((K : Int) + 1)) (by simp)
    · exact ((Only.refl (fun x => x = a) w3).setCell ⟨a, 0, none⟩ (.pointer u) (fun _ => rfl)).setCell ⟨a, 1, none⟩ _ (fun _ => rfl)
  | some v =>
    simp only [Option.isSome_some, if_true, Option.getD_some] at hkeys HGET
    subst hkeys
    go_enter Tryz.func61, Tryz.ntmps61
    go_wp2_with fail
    refine HMAY.out.mono ?_
    rintro e w1 ⟨rfl, hb1⟩
    have HB1 := Lib.hid hb1
    clear hb1
    go_wp2_with fail
    refine (HGET.out w1 HB1.out).mono ?_
    rintro e w2 ⟨rfl, hb2⟩
    have HB2 := Lib.hid (below_trans HB1.out HB1.out.size hb2)
    clear hb2
    have c0 := (HC.out w2 HB2.out).get 0 _
    have cl := (HC.out w2 HB2.out).lt
    go_wp2_with fail
    refine (HPUT.out w2 HB2.out).mono ?_
    rintro e w3 ⟨p', bs', rfl, g1, g2, g3, g4⟩
    have HC3 := Lib.hid (g4.cs (HC.out w2 HB2.out) HAP.out)
    have HG := Lib.hid (And.intro g1 (And.intro g2 (And.intro g3 g4)))
    clear c0 cl g1 g2 g3 g4
    have c0 := HC3.out.get 0 _
    have f0 := HC3.out.froz 0 (by simp)
    have cl := HC3.out.lt
    obtain ⟨u, hu⟩ := ptrV_pointer p'
    rw [hu]
    have HU := Lib.hid hu
    clear hu
    go_wp2_with fail
    go_ret
    refine ⟨rfl, bs', ?_⟩
    obtain ⟨g1, g2, g3, g4⟩ := HG.out
    refine HNEXT.out w2 w3 _ p' bs' _ HB2.out g1 g2 g3 g4 rfl ?_ ?_
    · rw [HU.out]
      exact HC3.out.set' 0 (.pointer u) (by simp)
    · exact (Only.refl (fun x => x = a) w3).setCell ⟨a, 0, none⟩ (.pointer u) (fun _ => rfl)
set_option maxHeartbeats 3200000 in
theorem TrL.del (h : TrL W B a bs t w) (q : List UInt8) (v : Int) (hg : getR t q = some v) (hf : t.keys.length ≤ 1152921504606846976) :
    Calls Tryz.prog 58 #[.pointer (some ⟨a, 0, none⟩), .string (sb q)] w fun e w' => e = .returned (.bool true) ∧ TrN W B a bs (delR t q) w w' := by
  have hhas := (get_spec h.ok h.fit).1 hg
  have hm := has_fit h.fit hhas
  obtain ⟨hl, hb⟩ := (mayL_iff q).1 hm
  have HGET := Lib.hid (h.get q (by omega))
  rw [hg] at HGET
  have hkeys := keys_del h.ok h.fit hg
  have hok := (del_spec h.ok hhas).1
  have hfit : (delR t q).Fit := fit_del h.fit
  obtain ⟨p, h1, h2⟩ := h.ex
  have HDEL := Lib.hid (fun w1 (hb1 : Below w.heap.size w w1) => del_any q hl t p bs w1 [] v h.fit h.ok hhas (h2.below hb1) h.nd)
  have HC := Lib.hid (fun w1 (hb1 : Below w.heap.size w w1) => h1.below hb1)
  have HAP := Lib.hid h.apart
  have HNEXT := Lib.hid (fun (w2 w' w3 : World) (p' : Option Nat) (bs' : List Nat) (n : Value) hb h1 h2 h3 h4 hn hcs hw => h.next (w2 := w2) (w' := w') (w3 := w3) (t' := delR t q) (p' := p') (bs' := bs') hb h1 h2 h3 h4 hok hfit n hn hcs hw)
  generalize delR t q = t' at *
  obtain ⟨K', hK'⟩ : ∃ K', t'.keys.length = K' := ⟨_, rfl⟩
  obtain ⟨K, hK⟩ : ∃ K, t.keys.length = K := ⟨_, rfl⟩
  rw [hK'] at hkeys HNEXT
  rw [hK] at hkeys HC hf
  generalize sb q = QS at *
  clear hK' hK h1 h2 h hok hfit hb hl hm hhas hg
  subst hkeys
  simp only [Option.isSome_some, Option.getD_some] at HGET
  go_enter Tryz.func58, Tryz.ntmps58
  go_wp2_with fail
  refine HGET.out.mono ?_
  rintro e w2 ⟨rfl, hb2⟩
  have HB2 := Lib.hid hb2
  clear hb2
  have c0 := (HC.out w2 HB2.out).get 0 _
  have cl := (HC.out w2 HB2.out).lt
  go_wp2_with fail
  refine (HDEL.out w2 HB2.out).mono ?_
  rintro e w3 ⟨p', bs', rfl, g1, g2, g3, g4⟩
  have HC3 := Lib.hid (g4.cs (HC.out w2 HB2.out) HAP.out)
  have HG := Lib.hid (And.intro g1 (And.intro g2 (And.intro g3 g4)))
  clear c0 cl g1 g2 g3 g4
  have c0 := HC3.out.get 0 _
  have c1 := HC3.out.get 1 _
  have f0 := HC3.out.froz 0 (by simp)
  have f1 := HC3.out.froz 1 (by simp)
  have cl := HC3.out.lt
  obtain ⟨u, hu⟩ := ptrV_pointer p'
  rw [hu]
  have HU := Lib.hid hu
  clear hu
  have e1 : ((K' + 1 : Nat) : Int) = (K' : Int) + 1 := by simp
  rw [e1] at c1 HC3
  have i1 : IntKind.wrap .i64 ((K' : Int) + 1 - 1) = (K' : Int) := by rw [show (K' : Int) + 1 - 1 = K' by omega]; exact IntWalk.i64_in _ (by omega)
  clear e1
  go_wp2_with fail
  go_ret
  refine ⟨rfl, bs', ?_⟩
  obtain ⟨g1, g2, g3, g4⟩ := HG.out
  refine HNEXT.out w2 w3 _ p' bs' (.int .i64 (K' : Int)) HB2.out g1 g2 g3 g4 rfl ?_ ?_
  · rw [HU.out]
    have := (HC3.out.set' 0 (.pointer u) (by simp)).set' 1 (.int .i64 (K' : Int)) (by simp)
    simpa using this
  · exact ((Only.refl (fun x => x = a) w3).setCell ⟨a, 0, none⟩ (.pointer u) (fun _ => rfl)).setCell ⟨a, 1, none⟩ _ (fun _ => rfl)
theorem TrL.delNot (h : TrL W B a bs t w) (q : List UInt8) (hq : q.length ≤ 9223372036854775807) (hg : getR t q = none) :
    Calls Tryz.prog 58 #[.pointer (some ⟨a, 0, none⟩), .string (sb q)] w fun e w' => e = .returned (.bool false) ∧ Below w.heap.size w w' := by
  have HGET := Lib.hid (h.get q hq)
  rw [hg] at HGET
  clear h hg
  generalize sb q = QS at *
  simp only [Option.isSome_none, Option.getD_none] at HGET
  go_enter Tryz.func58, Tryz.ntmps58
  go_wp2_with fail
  refine HGET.out.mono ?_
  rintro e w1 ⟨rfl, hb1⟩
  have HB1 := Lib.hid hb1
  clear hb1
  go_wp2_with fail
  go_ret
  exact ⟨rfl, HB1.out⟩
theorem TrL.longest (h : TrL W B a bs t w) (q : List UInt8) (hq : q.length ≤ 9223372036854775807) :
    Calls Tryz.prog 68 #[.pointer (some ⟨a, 0, none⟩), .string (sb q)] w fun e w' => e = .returned (longV (if mayL q then longR t q none else none)) ∧ Below w.heap.size w w' := by
  obtain ⟨p, h1, h2⟩ := h.ex
  exact longT_any a t p bs _ w q h1 h2 h.fit hq
end
end Go.Proofs.YtkdknfedieeenaaGreatDoor
namespace Go.Proofs.YtkdknfedieeenaaGreatDoor
open Go.RowKit
set_option linter.unusedVariables false
set_option maxRecDepth 20000
section
variable {W w w' : World} {B a : Nat} {bs : List Nat} {t : Tr}
/-- What Put leaves, by what is read. -/
def PutQ (W : World) (B a : Nat) (bs : List Nat) (t : Tr) (q : List UInt8) (x : Int) (w w' : World) : Prop :=
  ∃ t' bs', TrL W B a bs' t' w' ∧ (∀ q', getR t' q' = if q' = q then some x else getR t q') ∧ (t'.keys.length = if (getR t q).isSome then t.keys.length else t.keys.length + 1) ∧ Only (fun y => y = a ∨ y ∈ bs) w w' ∧ ∀ y ∈ bs', y ∈ bs ∨ w.heap.size ≤ y
theorem TrL.putAny (h : TrL W B a bs t w) (q : List UInt8) (x : Int) (hm : mayL q = true) (hf : t.keys.length ≤ 1152921504606846976) :
    Calls Tryz.prog 61 #[.pointer (some ⟨a, 0, none⟩), .string (sb q), .int .i64 x] w fun e w' => e = .returned (.bool (getR t q).isNone) ∧ PutQ W B a bs t q x w w' := by
  refine (h.put q x hm hf).mono ?_
  rintro e w' ⟨rfl, bs', h1, h2, h3⟩
  exact ⟨rfl, _, bs', h1, get_put h.ok h.fit hm, keys_put h.ok h.fit hm, h2, h3⟩
def DelQ (W : World) (B a : Nat) (bs : List Nat) (t : Tr) (q : List UInt8) (w w' : World) : Prop :=
  ∃ t' bs', TrL W B a bs' t' w' ∧ (∀ q', getR t' q' = if q' = q then none else getR t q') ∧ (t'.keys.length = if (getR t q).isSome then t.keys.length - 1 else t.keys.length) ∧ Only (fun y => y = a ∨ y ∈ bs) w w' ∧ ∀ y ∈ bs', y ∈ bs ∨ w.heap.size ≤ y
theorem TrL.delAny (h : TrL W B a bs t w) (q : List UInt8) (hq : q.length ≤ 9223372036854775807) (hf : t.keys.length ≤ 1152921504606846976) :
    Calls Tryz.prog 58 #[.pointer (some ⟨a, 0, none⟩), .string (sb q)] w fun e w' => e = .returned (.bool (getR t q).isSome) ∧ DelQ W B a bs t q w w' := by
  cases hg : getR t q with
  | none =>
    refine (h.delNot q hq hg).mono ?_
    rintro e w' ⟨rfl, hb⟩
    refine ⟨rfl, t, bs, h.below hb, fun q' => ?_, by rw [hg]; rfl, Only.of_below _ hb, fun y hy => .inl hy⟩
    by_cases e : q' = q
    · subst e; rw [if_pos rfl, hg]
    · rw [if_neg e]
  | some v =>
    refine (h.del q v hg hf).mono ?_
    rintro e w' ⟨rfl, bs', h1, h2, h3⟩
    refine ⟨rfl, _, bs', h1, get_del h.ok h.fit hg, ?_, h2, h3⟩
    have := keys_del h.ok h.fit hg
    rw [hg]; simp only [Option.isSome_some, if_true]; omega
end
end Go.Proofs.YtkdknfedieeenaaGreatDoor
namespace Go.Proofs.YtkdknfedieeenaaGreatDoor
open Go.RowKit
set_option linter.unusedVariables false
set_option linter.unusedSimpArgs false
set_option maxRecDepth 20000
/-- A family, as_ a key. -/
def famK (f : Int × Int) : Value := .agg #[.int .i64 f.1, .int .i64 f.2]
theorem fam_fields : ∃ f0 f1, (Tryz.prog.fieldsOf 135).toList = [f0, f1] ∧ (Tryz.prog.underlying f0.type = some (.int .i64) ∧ Tryz.prog.underlying f1.type = some (.int .i64)) ∧
    (f0.name ≠ "_" ∧ f1.name ≠ "_") ∧ (f0.offset = 0 ∧ f1.offset = 1) ∧ (Tryz.prog.cellsOf f0.type = 1 ∧ Tryz.prog.cellsOf f1.type = 1) :=
  ⟨_, _, rfl, ⟨by kernel_rfl, by kernel_rfl⟩, ⟨by decide, by decide⟩, ⟨rfl, rfl⟩, ⟨by kernel_rfl, by kernel_rfl⟩⟩
theorem fam_eq (d : Nat) (f f' : Int × Int) (w : World) : (Op.equalIn (d + 2) 135 (famK f) (famK f')).run Tryz.prog w = .ok (f.1 == f'.1 && f.2 == f'.2) w := by
  obtain ⟨f0, f1, hf, ⟨t0, t1⟩, ⟨n0, n1⟩, ⟨o0, o1⟩, ⟨c0, c1⟩⟩ := fam_fields
  unfold famK
  rw [run_equalIn_agg (P := Tryz.prog) w _ _ _ _ Tryz.underlying135 (by kernel_rfl), hf]
  simp [go_sem, Op.eqFields, isAgg, run_underlying t0, run_underlying t1, t0, t1, n0, n1, o0, o1]
  by_cases e0 : f.1 = f'.1 <;> by_cases e1 : f.2 = f'.2 <;> simp [e0, e1]
theorem fam_keys : KeyFit Tryz.prog 135 famK where
  inj a c h := by
    unfold famK at h
    injection h with h
    simp at h
    exact Prod.ext h.1 h.2
  check w em a := by cases em <;> kernel_rfl
  stays w a := by simp [Instr.keyThatStays, Instr.sameBits, famK]
  find w es a h := by
    refine find_keys (K := famK) Tryz.underlying135 (fun a c => rfl) (fun w a c => ⟨_, by simp only [Op.equal, Op.maxDepth]; exact fam_eq 9998 a c w, ?_⟩) w es a h
    constructor
    · intro h
      simp only [Bool.and_eq_true, beq_iff_eq] at h
      rw [show c = a from Prod.ext h.1.symm h.2.symm]
    · intro h
      unfold famK at h
      injection h with h
      simp at h
      simp [h.1, h.2]
theorem index_of (w : World) : Calls Tryz.prog 25 #[] w fun e w' => e = .returned (.pointer (some ⟨w.heap.size, 0, none⟩)) ∧ w' = w.alloc (.cells #[.slice none 0 0, .int .i64 0, .int .i64 0, .map none] 129) := by
  go_enter Tryz.func25, Tryz.ntmps25
  go_wp2
  go_ret
  exact ⟨rfl, rfl⟩
/-- What a name's trigger has in the table. -/
def wordT (k : Int) (n : ByteArray) : ByteArray := ⟨#[UInt8.ofNat (k % 256).toNat]⟩ ++ n
theorem wordT_size (k : Int) (n : ByteArray) : (wordT k n).size = n.size + 1 := by
  unfold wordT
  rw [ByteArray.size_append]
  show 1 + n.size = _
  omega
theorem iword_any (k : Int) (n : ByteArray) (w : World) (hn : n.size ≤ 140737488355328) : Calls Tryz.prog 57 #[.int .i64 k, .string n] w fun e w' => e = .returned (.string (wordT k n)) ∧ Below w.heap.size w w' := by
  obtain ⟨c, hc⟩ : ∃ c, c = UInt8.ofNat (k % 256).toNat := ⟨_, rfl⟩
  have hcn : ((c.toNat : Nat) : Int) = k % 256 := by
    rw [hc, UInt8.toNat_ofNat_of_lt' (by show _ < 256; omega)]
    omega
  have hcv := run_string_of (P := Tryz.prog) (w.alloc (.cells #[bv c] 5)) 23 9 5 _ (some ⟨w.heap.size, 0, none⟩) 1 [c] Tryz.underlying23 Tryz.underlying5 Tryz.underlying9 (Sl.fresh _ _ _ _ _ rfl rfl) (fun h => by cases h) 1
  rw [show bv c = .int .u8 (k % 256) by rw [← hcn]; rfl] at hcv
  have hbel := (Below.refl w.heap.size w).alloc (Nat.le_refl _) (.cells #[.int .u8 (k % 256)] 5)
  obtain ⟨K1, hK1⟩ : ∃ K1 : ByteArray, K1 = ⟨[c].toArray⟩ := ⟨_, rfl⟩
  rw [← hK1] at hcv
  have hKw : wordT k n = K1 ++ n := by rw [hK1]; unfold wordT; rw [← hc]
  have hs : ¬ 9223372036854775807 < K1.size + n.size := by rw [hK1, show (⟨[c].toArray⟩ : ByteArray).size = 1 from rfl]; omega
  obtain ⟨K, hK⟩ : ∃ K, K = K1 ++ n := ⟨_, rfl⟩
  rw [hKw, ← hK]
  have HB := Lib.hid hbel
  clear hbel hKw hc hcn hK1
  go_enter Tryz.func57, Tryz.ntmps57
  go_wp2_with fail
  rw [← hK]
  go_ret
  exact ⟨rfl, HB.out⟩
end Go.Proofs.YtkdknfedieeenaaGreatDoor
namespace Go.Proofs.YtkdknfedieeenaaGreatDoor
open Go.RowKit
set_option linter.unusedVariables false
set_option linter.unusedSimpArgs false
set_option maxRecDepth 20000
/-- A family's trie: the family, where the trie lies, its nodes' blocks, its tree. -/
structure IxF where
  f : Int × Int
  a : Nat
  bs : List Nat
  t : Tr
def lookF (F : List IxF) (f : Int × Int) : Option Value := (F.find? fun x => x.f == f).map fun x => .pointer (some ⟨x.a, 0, none⟩)
def treeF (F : List IxF) (f : Int × Int) : Tr := ((F.find? fun x => x.f == f).map (·.t)).getD .nil
def blocksF (F : List IxF) : List Nat := F.flatMap fun x => x.a :: x.bs
def totF (F : List IxF) : Nat := (F.map fun x => x.t.keys.length).sum
def ownI (b : Nat) (V : Value) (mv : Option Nat) (F : List IxF) : List Nat := b :: (V.ownBlock.toList ++ (mv.toList ++ blocksF F))
/-- An index at block b. -/
structure IxOf (W : World) (B b : Nat) (V : Value) (us n : Nat) (mv : Option Nat) (F : List IxF) (M : ByteArray → Option Int) (lv most : Nat) (w : World) : Prop where
  tab : Tab most w b [.map mv] V M lv us n
  mapm : ∀ mb, mv = some mb → MM famK w mb (lookF F) F.length
  nomap : mv = none → F = []
  tries : ∀ x ∈ F, TrL W B x.a x.bs x.t w
  fams : (F.map (·.f)).Nodup
  nd : (ownI b V mv F).Nodup
  ge : ∀ q ∈ ownI b V mv F, B ≤ q
  bel : Below B W w
  few : ∀ x ∈ F, x.t.keys.length ≤ 1152921504606846975
section
variable {W w w' : World} {B b us n lv most : Nat} {V : Value} {mv : Option Nat} {F : List IxF} {M : ByteArray → Option Int}
theorem own_perm (b : Nat) (V : Value) (mv : Option Nat) (F1 F2 : List IxF) (x : IxF) : (ownI b V mv (F1 ++ x :: F2)).Perm ((x.a :: x.bs) ++ ownI b V mv (F1 ++ F2)) := by
  unfold ownI blocksF
  simp only [List.flatMap_append, List.flatMap_cons]
  refine (List.perm_iff_count.2 fun q => ?_)
  simp only [List.count_cons, List.count_append, List.cons_append]
  omega
theorem own_permV (b : Nat) (V : Value) (mv : Option Nat) (F : List IxF) : (ownI b V mv F).Perm (V.ownBlock.toList ++ ownI b undef mv F) := by
  unfold ownI
  refine (List.perm_iff_count.2 fun q => ?_)
  simp only [List.count_cons, List.count_append, show (undef : Value).ownBlock = none from rfl, Option.toList_none, List.count_nil]
  omega
theorem IxOf.lt (h : IxOf W B b V us n mv F M lv most w) : ∀ q ∈ ownI b V mv F, q < w.heap.size := by
  intro q hq
  simp only [ownI, List.mem_cons, List.mem_append, blocksF, List.mem_flatMap, Option.mem_toList] at hq
  rcases hq with rfl | hq | hq | ⟨x, hx, hq⟩
  · exact h.tab.lt
  · exact h.tab.own_lt q hq
  · exact (h.mapm q hq).lt
  · rcases hq with rfl | hq
    · exact (h.tries x hx).lt
    · exact (h.tries x hx).lts q hq
theorem IxOf.b_mem : b ∈ ownI b V mv F := List.mem_cons_self
theorem IxOf.V_mem {q : Nat} (hq : V.ownBlock = some q) : q ∈ ownI b V mv F := by simp [ownI, hq]
theorem IxOf.m_mem {q : Nat} (hq : mv = some q) : q ∈ ownI b V mv F := by simp [ownI, hq]
theorem IxOf.x_mem {x : IxF} (hx : x ∈ F) {q : Nat} (hq : q = x.a ∨ q ∈ x.bs) : q ∈ ownI b V mv F := by
  simp only [ownI, List.mem_cons, List.mem_append, blocksF, List.mem_flatMap]
  exact .inr (.inr (.inr ⟨x, hx, hq⟩))
theorem IxOf.own (h : IxOf W B b V us n mv F M lv most w) : Cs w b [V, .int .i64 lv, .int .i64 us, .map mv] := h.tab.own
theorem IxOf.only {S : Nat → Prop} (h : IxOf W B b V us n mv F M lv most w) (ho : Only S w w') (hn : ∀ q ∈ ownI b V mv F, ¬ S q) (hB : ∀ q, S q → B ≤ q) : IxOf W B b V us n mv F M lv most w' :=
  ⟨h.tab.only ho (hn _ IxOf.b_mem) (fun q hq => hn _ (IxOf.V_mem hq)), fun mb hm => ho.mm (h.mapm mb hm) (hn _ (IxOf.m_mem hm)), h.nomap, fun x hx => (h.tries x hx).only ho (hn _ (IxOf.x_mem hx (.inl rfl))) (fun y hy => hn _ (IxOf.x_mem hx (.inr hy))) hB, h.fams, h.nd, h.ge,
   h.bel.trans (ho.below (Nat.le_of_lt (Nat.lt_of_le_of_lt (h.ge _ IxOf.b_mem) h.tab.lt)) fun k hk e => by have := hB k e; omega), h.few⟩
theorem IxOf.below (h : IxOf W B b V us n mv F M lv most w) (hb : Below w.heap.size w w') : IxOf W B b V us n mv F M lv most w' :=
  h.only (Only.of_below (fun _ => False) hb) (fun _ _ => id) (fun _ h => h.elim)
theorem IxOf.more (h : IxOf W B b V us n mv F M lv most w) {m : Nat} (hm : most ≤ m) : IxOf W B b V us n mv F M lv m w :=
  ⟨h.tab.more hm, h.mapm, h.nomap, h.tries, h.fams, h.nd, h.ge, h.bel, h.few⟩
/-- A new index. -/
theorem IxOf.start (hb : Below B W w) (hB : B ≤ b) (hC : Cs w b [.slice none 0 0, .int .i64 0, .int .i64 0, .map none]) : IxOf W B b (.slice none 0 0) 0 0 none [] (fun _ => none) 0 0 w :=
  ⟨Tab.new w b _ hC, fun _ h => (by cases h), fun _ => rfl, by simp, by simp, by simp [ownI, blocksF, Value.ownBlock], by simp [ownI, blocksF, Value.ownBlock]; exact hB, hb, by simp⟩
/-- The table has turned. -/
theorem IxOf.table {V' : Value} {M' : ByteArray → Option Int} {lv' us' n' most' : Nat} (h : IxOf W B b V us n mv F M lv most w) (hm : most ≤ most') (ht : Tab most' w' b [.map mv] V' M' lv' us' n') (ho : Only (fun q => q = b ∨ V.ownBlock = some q) w w')
    (hv : V'.ownBlock = V.ownBlock ∨ ∃ g, V'.ownBlock = some g ∧ w.heap.size ≤ g) : IxOf W B b V' us' n' mv F M' lv' most' w' ∧ ∀ q ∈ ownI b V' mv F, q ∈ ownI b V mv F ∨ w.heap.size ≤ q := by
  have hnd := h.nd
  have hmem : ∀ q ∈ ownI b V' mv F, q ∈ ownI b V mv F ∨ w.heap.size ≤ q := by
    intro q hq
    rw [(own_permV b V' mv F).mem_iff, List.mem_append] at hq
    rcases hq with hq | hq
    · rcases hv with e | ⟨g, e, hg⟩
      · left; rw [e] at hq; rw [(own_permV b V mv F).mem_iff, List.mem_append]; exact .inl hq
      · right; rw [e] at hq; simp at hq; subst hq; exact hg
    · left; rw [(own_permV b V mv F).mem_iff, List.mem_append]; exact .inr hq
  have hS : ∀ q, (q = b ∨ V.ownBlock = some q) → q ∈ ownI b V mv F := fun q e => by
    rcases e with rfl | e
    · exact IxOf.b_mem
    · exact IxOf.V_mem e
  have hap : ∀ q, (q ∈ mv.toList ∨ q ∈ blocksF F) → ¬ (q = b ∨ V.ownBlock = some q) := by
    intro q hq e
    unfold ownI at hnd
    rw [List.nodup_cons, List.nodup_append] at hnd
    obtain ⟨h1, h2, h3, h4⟩ := hnd
    have hq' : q ∈ mv.toList ++ blocksF F := List.mem_append.2 hq
    rcases e with rfl | e
    · exact h1 (List.mem_append.2 (.inr hq'))
    · exact h4 q (by rw [e]; simp) q hq' rfl
  have hge : ∀ q, (q = b ∨ V.ownBlock = some q) → B ≤ q := fun q e => h.ge q (hS q e)
  refine ⟨⟨ht, fun mb e => ho.mm (h.mapm mb e) (hap mb (.inl (by rw [e]; simp))), h.nomap, fun x hx => (h.tries x hx).only ho (hap _ (.inr ?_)) (fun y hy => hap _ (.inr ?_)) hge, h.fams, ?_, ?_, ?_, h.few⟩, hmem⟩
  · unfold blocksF; exact List.mem_flatMap.2 ⟨x, hx, by simp⟩
  · unfold blocksF; exact List.mem_flatMap.2 ⟨x, hx, by simp [hy]⟩
  · rw [(own_permV b V' mv F).nodup_iff]
    rw [(own_permV b V mv F).nodup_iff] at hnd
    rcases hv with e | ⟨g, e, hg⟩
    · rw [e]; exact hnd
    · rw [e]
      simp only [Option.toList_some, List.singleton_append, List.nodup_cons]
      refine ⟨fun hq => ?_, (List.nodup_append.1 hnd).2.1⟩
      have := h.lt g (by rw [(own_permV b V mv F).mem_iff, List.mem_append]; exact .inr hq)
      omega
  · intro q hq
    rcases hmem q hq with e | e
    · exact h.ge q e
    · have := h.ge b IxOf.b_mem; have := h.tab.lt; omega
  · exact h.bel.trans (ho.below (Nat.le_of_lt (Nat.lt_of_le_of_lt (h.ge _ IxOf.b_mem) h.tab.lt)) fun k hk e => by have := hge k e; omega)
end
theorem lookF_cases (F : List IxF) (f : Int × Int) : (f ∉ F.map (·.f)) ∨ ∃ F1 x F2, F = F1 ++ x :: F2 ∧ x.f = f ∧ f ∉ F1.map (·.f) := by
  induction F with
  | nil => exact .inl (by simp)
  | cons y F ih =>
    by_cases e : y.f = f
    · exact .inr ⟨[], y, F, rfl, e, by simp⟩
    · rcases ih with h | ⟨F1, x, F2, rfl, h1, h2⟩
      · left; simp only [List.map_cons, List.mem_cons, not_or]; exact ⟨fun h' => e h'.symm, h⟩
      · right; refine ⟨y :: F1, x, F2, rfl, h1, ?_⟩
        simp only [List.map_cons, List.mem_cons, not_or]; exact ⟨fun h' => e h'.symm, h2⟩
theorem find_no {F : List IxF} {f : Int × Int} (h : f ∉ F.map (·.f)) : F.find? (fun x => x.f == f) = none := by
  rw [List.find?_eq_none]
  intro x hx
  simp only [beq_iff_eq]
  exact fun e => h (List.mem_map.2 ⟨x, hx, e⟩)
theorem find_at {F1 F2 : List IxF} {x : IxF} {f : Int × Int} (hx : x.f = f) (h : f ∉ F1.map (·.f)) : (F1 ++ x :: F2).find? (fun x => x.f == f) = some x := by
  rw [List.find?_append, find_no h, Option.none_or, List.find?_cons_of_pos (by simp [hx])]
theorem find_off {F1 F2 : List IxF} {x : IxF} {f : Int × Int} (hx : x.f ≠ f) : (F1 ++ x :: F2).find? (fun x => x.f == f) = (F1 ++ F2).find? (fun x => x.f == f) := by
  rw [List.find?_append, List.find?_append, List.find?_cons_of_neg (by simp [hx])]
theorem lookF_at {F1 F2 : List IxF} {x : IxF} {f : Int × Int} (hx : x.f = f) (h : f ∉ F1.map (·.f)) : lookF (F1 ++ x :: F2) f = some (.pointer (some ⟨x.a, 0, none⟩)) := by unfold lookF; rw [find_at hx h]; rfl
theorem treeF_at {F1 F2 : List IxF} {x : IxF} {f : Int × Int} (hx : x.f = f) (h : f ∉ F1.map (·.f)) : treeF (F1 ++ x :: F2) f = x.t := by unfold treeF; rw [find_at hx h]; rfl
theorem lookF_no {F : List IxF} {f : Int × Int} (h : f ∉ F.map (·.f)) : lookF F f = none := by unfold lookF; rw [find_no h]; rfl
theorem treeF_no {F : List IxF} {f : Int × Int} (h : f ∉ F.map (·.f)) : treeF F f = .nil := by unfold treeF; rw [find_no h]; rfl
theorem fams_apart {F1 F2 : List IxF} {x : IxF} (h : ((F1 ++ x :: F2).map (·.f)).Nodup) : x.f ∉ F1.map (·.f) := by
  rw [List.map_append, List.nodup_append] at h
  exact fun e => h.2.2 _ e x.f (by simp) rfl
theorem lookF_set {F1 F2 : List IxF} {x x' : IxF} (hf : x'.f = x.f) (ha : x'.a = x.a) (h1 : x.f ∉ F1.map (·.f)) : lookF (F1 ++ x' :: F2) = lookF (F1 ++ x :: F2) := by
  funext q
  by_cases e : x.f = q
  · rw [lookF_at (hf.trans e) (by rw [← e]; exact h1), lookF_at e (by rw [← e]; exact h1), ha]
  · unfold lookF; rw [find_off e, find_off (by rw [hf]; exact e)]
theorem treeF_set {F1 F2 : List IxF} {x x' : IxF} (hf : x'.f = x.f) (h1 : x.f ∉ F1.map (·.f)) : treeF (F1 ++ x' :: F2) = fun q => if q = x.f then x'.t else treeF (F1 ++ x :: F2) q := by
  funext q
  by_cases e : x.f = q
  · rw [if_pos e.symm, treeF_at (hf.trans e) (by rw [← e]; exact h1)]
  · rw [if_neg (fun h => e h.symm)]; unfold treeF; rw [find_off e, find_off (by rw [hf]; exact e)]
theorem totF_set (F1 F2 : List IxF) (x x' : IxF) : totF (F1 ++ x' :: F2) + x.t.keys.length = totF (F1 ++ x :: F2) + x'.t.keys.length := by
  unfold totF
  simp only [List.map_append, List.map_cons, List.sum_append, List.sum_cons]
  omega
theorem lookF_cons {F : List IxF} (f : Int × Int) (g : Nat) : lookF (⟨f, g, [], .nil⟩ :: F) = updM (lookF F) f (some (.pointer (some ⟨g, 0, none⟩))) := by
  funext q
  by_cases e : q = f
  · subst e; rw [updM_same]; simp [lookF]
  · rw [updM_other _ _ _ _ e]; unfold lookF; rw [List.find?_cons_of_neg (by simp; exact fun h => e h.symm)]
theorem treeF_cons {F : List IxF} {f : Int × Int} (g : Nat) (h : f ∉ F.map (·.f)) : treeF (⟨f, g, [], .nil⟩ :: F) = treeF F := by
  funext q
  by_cases e : q = f
  · subst e; rw [treeF_no h]; simp [treeF]
  · unfold treeF; rw [List.find?_cons_of_neg (by simp; exact fun h => e h.symm)]
theorem totF_cons (F : List IxF) (f : Int × Int) (g : Nat) : totF (⟨f, g, [], .nil⟩ :: F) = totF F := by simp [totF, Tr.keys]
section
variable {W w w' : World} {B b us n lv most : Nat} {V : Value} {mv : Option Nat} {F : List IxF} {M : ByteArray → Option Int}
/-- One family's trie has turned. -/
theorem IxOf.trie {F1 F2 : List IxF} {x x' : IxF} {most' : Nat} (h : IxOf W B b V us n mv (F1 ++ x :: F2) M lv most w) (hm : most ≤ most') (ht : TrL W B x'.a x'.bs x'.t w') (hf : x'.f = x.f) (ha : x'.a = x.a) (hk : x'.t.keys.length ≤ 1152921504606846975)
    (ho : Only (fun q => q = x.a ∨ q ∈ x.bs) w w') (hbs : ∀ y ∈ x'.bs, y ∈ x.bs ∨ w.heap.size ≤ y) :
    IxOf W B b V us n mv (F1 ++ x' :: F2) M lv most' w' ∧ ∀ q ∈ ownI b V mv (F1 ++ x' :: F2), q ∈ ownI b V mv (F1 ++ x :: F2) ∨ w.heap.size ≤ q := by
  have hnd := h.nd
  rw [(own_perm b V mv F1 F2 x).nodup_iff, List.nodup_append] at hnd
  obtain ⟨n1, n2, n3⟩ := hnd
  have hold : ∀ q, (q = x.a ∨ q ∈ x.bs) → q ∈ ownI b V mv (F1 ++ x :: F2) := fun q e => IxOf.x_mem (by simp) e
  have hrest : ∀ q ∈ ownI b V mv (F1 ++ F2), q ∈ ownI b V mv (F1 ++ x :: F2) := fun q hq => (own_perm b V mv F1 F2 x).mem_iff.2 (List.mem_append.2 (.inr hq))
  have hap : ∀ q ∈ ownI b V mv (F1 ++ F2), ¬ (q = x.a ∨ q ∈ x.bs) := fun q hq e => n3 q (List.mem_cons.2 e) q hq rfl
  have hge : ∀ q, (q = x.a ∨ q ∈ x.bs) → B ≤ q := fun q e => h.ge q (hold q e)
  have hmem : ∀ q ∈ ownI b V mv (F1 ++ x' :: F2), q ∈ ownI b V mv (F1 ++ x :: F2) ∨ w.heap.size ≤ q := by
    intro q hq
    rw [(own_perm b V mv F1 F2 x').mem_iff, List.mem_append, List.mem_cons] at hq
    rcases hq with (e | e) | e
    · exact .inl (hold q (.inl (e.trans ha)))
    · rcases hbs q e with e | e
      · exact .inl (hold q (.inr e))
      · exact .inr e
    · exact .inl (hrest q e)
  have hoth : ∀ y, y ∈ F1 ++ F2 → TrL W B y.a y.bs y.t w' := fun y hy => (h.tries y (by
    rcases List.mem_append.1 hy with e | e
    · exact List.mem_append.2 (.inl e)
    · exact List.mem_append.2 (.inr (List.mem_cons.2 (.inr e))))).only ho (hap _ (IxOf.x_mem hy (.inl rfl))) (fun z hz => hap _ (IxOf.x_mem hy (.inr hz))) hge
  refine ⟨⟨(h.tab.more hm).only ho (hap _ IxOf.b_mem) (fun q hq => hap _ (IxOf.V_mem hq)), fun mb e => ?_, fun e => ?_, ?_, ?_, ?_, ?_, ?_, ?_⟩, hmem⟩
  · exact (ho.mm (h.mapm mb e) (hap _ (IxOf.m_mem e))).is (lookF_set hf ha (fams_apart h.fams)).symm (by simp)
  · have := h.nomap e; simp at this
  · intro y hy
    rcases List.mem_append.1 hy with e | e
    · exact hoth y (List.mem_append.2 (.inl e))
    · rcases List.mem_cons.1 e with rfl | e
      · exact ht
      · exact hoth y (List.mem_append.2 (.inr e))
  · have := h.fams
    simp only [List.map_append, List.map_cons, hf] at this ⊢
    exact this
  · rw [(own_perm b V mv F1 F2 x').nodup_iff, List.nodup_append]
    refine ⟨List.nodup_cons.2 ⟨ht.apart, ht.nd⟩, n2, fun p hp q hq e => ?_⟩
    subst e
    rcases List.mem_cons.1 hp with e | e
    · exact hap p hq (.inl (e.trans ha))
    · rcases hbs p e with e | e
      · exact hap p hq (.inr e)
      · have := h.lt p (hrest p hq); omega
  · intro q hq
    rcases hmem q hq with e | e
    · exact h.ge q e
    · have := h.ge b IxOf.b_mem; have := h.tab.lt; omega
  · exact h.bel.trans (ho.below (Nat.le_of_lt (Nat.lt_of_le_of_lt (h.ge _ IxOf.b_mem) h.tab.lt)) fun k hk e => by have := hge k e; omega)
  · intro y hy
    rcases List.mem_append.1 hy with e | e
    · exact h.few y (List.mem_append.2 (.inl e))
    · rcases List.mem_cons.1 e with rfl | e
      · exact hk
      · exact h.few y (List.mem_append.2 (.inr (List.mem_cons.2 (.inr e))))
/-- A family comes to it. -/
theorem IxOf.family {mb g : Nat} {f : Int × Int} (h : IxOf W B b V us n (some mb) F M lv most w) (hf : f ∉ F.map (·.f)) (hg : g ∉ ownI b V (some mb) F) (hgB : B ≤ g) (hc : Cs w g [.pointer none, .int .i64 0])
    (hmm : MM famK w' mb (updM (lookF F) f (some (.pointer (some ⟨g, 0, none⟩)))) (F.length + 1)) (hgr : w.grownBy w' (some mb)) :
    IxOf W B b V us n (some mb) (⟨f, g, [], .nil⟩ :: F) M lv most w' ∧ ∀ q ∈ ownI b V (some mb) (⟨f, g, [], .nil⟩ :: F), q ∈ ownI b V (some mb) F ∨ q = g := by
  have ho : Only (fun q => q = mb) w w' := (Only.refl _ w).grown hgr (fun k e _ => (Option.some.inj e).symm)
  have hgm : g ≠ mb := fun e => hg (IxOf.m_mem (by rw [e]))
  have hp := own_perm b V (some mb) [] F ⟨f, g, [], .nil⟩
  simp only [List.nil_append] at hp
  have hmB : B ≤ mb := h.ge mb (IxOf.m_mem rfl)
  have hnd := h.nd
  have hap : ∀ q, (q = b ∨ V.ownBlock = some q ∨ q ∈ blocksF F) → q ≠ mb := by
    intro q hq e
    subst e
    unfold ownI at hnd
    rw [List.nodup_cons, List.nodup_append] at hnd
    obtain ⟨h1, h2, h3, h4⟩ := hnd
    rcases hq with rfl | hq | hq
    · exact h1 (List.mem_append.2 (.inr (List.mem_append.2 (.inl (by simp)))))
    · exact h4 q (by rw [hq]; simp) q (List.mem_append.2 (.inl (by simp))) rfl
    · rw [List.nodup_append] at h3
      exact h3.2.2 q (by simp) q hq rfl
  have hmem : ∀ q ∈ ownI b V (some mb) (⟨f, g, [], .nil⟩ :: F), q ∈ ownI b V (some mb) F ∨ q = g := by
    intro q hq
    rw [hp.mem_iff, List.mem_append] at hq
    rcases hq with e | e
    · right; simpa using e
    · exact .inl e
  refine ⟨⟨h.tab.only ho (hap b (.inl rfl)) (fun q hq => hap q (.inr (.inl hq))), fun mb' e => ?_, fun e => (by cases e), ?_, ?_, ?_, ?_, ?_, ?_⟩, hmem⟩
  · obtain rfl := Option.some.inj e
    exact hmm.is (lookF_cons f g).symm (by simp)
  · intro y hy
    rcases List.mem_cons.1 hy with rfl | hy
    · exact ⟨⟨none, by simpa [ptrV, Tr.keys] using ho.cs hc hgm, rfl, rfl⟩, by simp, by simp, by simp, trivial, trivial, hgB, h.bel.trans (ho.below (Nat.le_of_lt (Nat.lt_of_le_of_lt (h.ge _ IxOf.b_mem) h.tab.lt)) fun k hk e => by omega)⟩
    · exact (h.tries y hy).only ho (hap _ (.inr (.inr (List.mem_flatMap.2 ⟨y, hy, by simp⟩)))) (fun z hz => hap _ (.inr (.inr (List.mem_flatMap.2 ⟨y, hy, by simp [hz]⟩)))) (fun k e => by omega)
  · simp only [List.map_cons, List.nodup_cons]
    exact ⟨hf, h.fams⟩
  · rw [hp.nodup_iff]
    simp only [List.cons_append, List.nil_append, List.nodup_cons]
    exact ⟨hg, hnd⟩
  · intro q hq
    rcases hmem q hq with e | e
    · exact h.ge q e
    · omega
  · exact h.bel.trans (ho.below (Nat.le_of_lt (Nat.lt_of_le_of_lt (h.ge _ IxOf.b_mem) h.tab.lt)) fun k hk e => by omega)
  · intro y hy
    rcases List.mem_cons.1 hy with rfl | hy
    · simp [Tr.keys]
    · exact h.few y hy
/-- The map is made. -/
theorem IxOf.maps (h : IxOf W B b V us n none F M lv most w) : IxOf W B b V us n (some w.heap.size) F M lv most ((w.alloc (.map #[] 0)).setCell ⟨b, 3, none⟩ (.map (some w.heap.size))) ∧ (∀ q ∈ ownI b V (some w.heap.size) F, q ∈ ownI b V none F ∨ q = w.heap.size) ∧
    Only (fun q => q = b) w ((w.alloc (.map #[] 0)).setCell ⟨b, 3, none⟩ (.map (some w.heap.size))) := by
  have hF := h.nomap rfl
  subst hF
  have hlt := h.tab.lt
  have hbB := h.ge b IxOf.b_mem
  have ho : Only (fun q => q = b) w ((w.alloc (.map #[] 0)).setCell ⟨b, 3, none⟩ (.map (some w.heap.size))) := ((Only.refl _ w).alloc _).setCell _ _ (fun _ => rfl)
  have hmem : ∀ q ∈ ownI b V (some w.heap.size) [], q ∈ ownI b V none [] ∨ q = w.heap.size := by
    intro q hq
    simp only [ownI, blocksF, List.flatMap_nil, Option.toList_some, Option.toList_none, List.append_nil, List.mem_cons, List.mem_append, List.nil_append] at hq ⊢
    rcases hq with e | e | e
    · exact .inl (.inl e)
    · exact .inl (.inr e)
    · right; simpa using e
  have hVb : ∀ q, V.ownBlock = some q → q ≠ b := by
    intro q hq e
    have := h.nd
    unfold ownI at this
    rw [List.nodup_cons] at this
    exact this.1 (List.mem_append.2 (.inl (by rw [hq, e]; simp)))
  refine ⟨⟨?_, fun mb e => ?_, fun e => (by cases e), by simp, by simp, ?_, ?_, ?_, by simp⟩, hmem, ho⟩
  · obtain ⟨ss, hT⟩ := h.tab
    refine ⟨ss, ⟨by simpa using (hT.mem.own.alloc (.map #[] 0)).set' 3 (.map (some w.heap.size)) (by simp), ?_⟩, hT.ti, hT.live, hT.full, hT.len, hT.half, hT.some_, hT.few, hT.most_⟩
    rcases hT.mem.slots with h3 | ⟨q, e1, e2, e3, e4⟩
    · exact .inl h3
    · exact .inr ⟨q, e1, e2, ho.cs e3 (hVb q (by rw [e1]; rfl)), e4⟩
  · obtain rfl := Option.some.inj e
    exact ((MM.new famK w).setCell ⟨b, 3, none⟩ _ (by simp; omega)).is (by funext q; simp [lookF]) rfl
  · have h1 := h.nd
    have h2 : ∀ q, V.ownBlock = some q → q < w.heap.size := h.tab.own_lt
    simp only [ownI, blocksF, List.flatMap_nil, Option.toList_some, Option.toList_none, List.append_nil, List.nodup_cons, List.mem_append, List.nodup_append, not_or] at h1 ⊢
    refine ⟨⟨by simpa using h1.1, by simp; omega⟩, by simpa using h1.2, by simp, fun p hp q hq => ?_⟩
    simp at hp hq
    have := h2 p hp
    omega
  · intro q hq
    rcases hmem q hq with e | e
    · exact h.ge q e
    · omega
  · exact h.bel.trans (ho.below (by omega) fun k hk e => by omega)
end
end Go.Proofs.YtkdknfedieeenaaGreatDoor
namespace Go.Proofs.YtkdknfedieeenaaGreatDoor
set_option linter.unusedVariables false

theorem dig_ok : ∀ k : Fin 16, isUp (dig k.val) = false := by decide +kernel
theorem digsF_ok (b : Nat) (hb : 2 ≤ b ∧ b ≤ 16) : ∀ (f n : Nat), n < b ^ (f + 1) → (digsF f b n).all (fun c => !isUp c) = true
  | 0, n, h => by
    have hn : n < 16 := by rw [Nat.zero_add, Nat.pow_one] at h; omega
    have := dig_ok ⟨n, hn⟩
    simp only at this
    simp [digsF, this]
  | f + 1, n, h => by
    rw [digsF]
    split
    · have hn : n < 16 := by omega
      have := dig_ok ⟨n, hn⟩
      simp only at this
      simp [this]
    · have h1 := digsF_ok b hb f (n / b) (Nat.div_lt_of_lt_mul (by rw [Nat.mul_comm]; rw [Nat.pow_succ] at h; exact h))
      have h2 : n % b < 16 := by have := Nat.mod_lt n (show 0 < b by omega); omega
      have := dig_ok ⟨n % b, h2⟩
      simp only at this
      rw [List.all_append, h1]
      simp [this]
theorem digs_label {f b n : Nat} (hb : 2 ≤ b ∧ b ≤ 16) (h : n < b ^ (f + 1)) (hf : f ≤ 3) : okLabel (digsF f b n) = true ∧ (digsF f b n).length ≤ 4 := by
  have h1 := digsF_len f b n
  have h2 : 1 ≤ (digsF f b n).length := List.length_pos_iff.2 (digsF_ne f b n)
  refine ⟨?_, by omega⟩
  unfold okLabel
  rw [digsF_ok b hb f n h]
  simp; omega
theorem dec_label {n : Nat} (h : n < 256) : okLabel (dec n) = true ∧ (dec n).length ≤ 4 := digs_label (by omega) (by omega) (by omega)
theorem hex_label {n : Nat} (h : n < 65536) : okLabel (hex n) = true ∧ (hex n).length ≤ 4 := digs_label (by omega) (by omega) (by omega)
theorem prefix_labels {a : List UInt8} {bits : Int} : ∀ x ∈ prefixR a bits, okLabel x = true ∧ x.length ≤ 4 := by
  intro y hy
  unfold prefixR at hy
  split at hy
  · rename_i hm
    obtain ⟨h1, h2, h3⟩ := isCut_four (mayP_cut hm)
    unfold prefixL at hy
    simp only [List.mem_cons, List.mem_reverse] at hy
    rcases hy with rfl | hy
    · exact dec_label (by rcases h1 with h1 | h1 <;> rw [h1] at h3 <;> omega)
    · unfold body at hy
      split at hy
      · unfold body6 at hy
        obtain ⟨o, _, rfl⟩ := List.mem_map.1 hy
        cases o with
        | none => exact ⟨show okLabel zz = true by decide, show zz.length ≤ 4 by decide⟩
        | some k =>
          refine hex_label ?_
          rw [List.getD_eq_getElem?_getD]
          rcases Nat.lt_or_ge k (wordsL a).length with hk | hk
          · rw [List.getElem?_eq_getElem hk]; exact wordsL_lt a _ (List.getElem_mem hk)
          · rw [List.getElem?_eq_none hk]; simp
      · obtain ⟨c, _, rfl⟩ := List.mem_map.1 hy
        exact dec_label c.toNat_lt
  · cases hy
theorem short_wire : ∀ (ls : List (List UInt8)) (m : Nat), (∀ x ∈ ls, x.length ≤ m) → (wire ls).length ≤ (m + 1) * ls.length
  | [], _, _ => by simp [wire]
  | l :: ls, m, h => by
    have h1 := short_wire ls m (fun x hx => h x (by simp [hx]))
    have h2 := h l (by simp)
    rw [wire_cons]
    simp only [List.length_append, List.length_cons]
    rw [Nat.mul_add]
    omega
/-- A trigger whose labels are a name's, and are read as_ it. -/
structure GoodT (t : Trig) : Prop where
  ok : OkLs (labT t)
  ne : labT t ≠ []
  dec : decL (labT t) = some t
theorem GoodT.enc {t : Trig} (h : GoodT t) : encR t = some (wire (labT t)) := enc_of_dec h.ok h.ne h.dec
theorem GoodT.dec' {t : Trig} (h : GoodT t) : decR (wire (labT t)) = some t := dec_enc h.enc
theorem GoodT.labels {t : Trig} (h : GoodT t) : nameLabels (wire (labT t)) = some (labT t) := h.ok.labels
theorem getLastD_snoc {α : Type} (l : List α) (x d : α) : (l ++ [x]).getLastD d = x := by rw [List.getLastD_eq_getLast?]; simp
theorem good_pfx {k : Int} {a : List UInt8} {bits : Int} (hm : mayP a bits = true) (hk : k = 0 ∨ k = 3 ∨ k = 6) : GoodT ⟨k, [], a, bits⟩ := by
  obtain ⟨c, hc, hck, hl⟩ : ∃ c, (c = cClient ∨ c = cAnswer ∨ c = cNsip) ∧ kindOf c = some k ∧ labT ⟨k, [], a, bits⟩ = prefixR a bits ++ [c] := by
    rcases hk with rfl | rfl | rfl
    · exact ⟨cClient, .inl rfl, rfl, rfl⟩
    · exact ⟨cAnswer, .inr (.inl rfl), rfl, rfl⟩
    · exact ⟨cNsip, .inr (.inr rfl), rfl, rfl⟩
  have hcl : okLabel c = true ∧ c.length ≤ 13 := by rcases hc with rfl | rfl | rfl <;> decide
  have hpl := prefixR_len a bits
  refine ⟨?_, ?_, ?_⟩
  · rw [hl]
    refine ⟨?_, ?_⟩
    · intro x hx
      simp only [List.mem_append, List.mem_cons, List.not_mem_nil, or_false] at hx
      rcases hx with hx | rfl
      · exact (prefix_labels x hx).1
      · exact hcl.1
    · rw [wire_append, List.length_append]
      have h1 := short_wire (prefixR a bits) 4 (fun x hx => (prefix_labels x hx).2)
      have h2 := short_wire [c] 13 (by intro x hx; simp at hx; subst hx; exact hcl.2)
      simp only [List.length_cons, List.length_nil] at h2
      omega
  · rw [hl]; simp
  · rw [hl]
    unfold decL
    rw [getLastD_snoc, hck, List.dropLast_concat]
    simp only
    rw [if_neg (by rcases hk with rfl | rfl | rfl <;> decide), addr_prefix hm]
    rfl
def five : List (List UInt8) := [[97], [98], [119, 119, 119], [101, 120], [111, 114, 103]]
theorem five_ok : ∀ x ∈ five, okLabel x = true ∧ x ≠ star ∧ kindOf x = none ∧ x.length ≤ 3 := by decide
/-- Labels of the five, five at most. -/
structure FewX (X : List (List UInt8)) : Prop where
  mem : ∀ x ∈ X, x ∈ five
  len : X.length ≤ 5
theorem FewX.ok {X : List (List UInt8)} (h : FewX X) : OkLs X := by
  refine ⟨fun x hx => (five_ok x (h.mem x hx)).1, ?_⟩
  have := short_wire X 3 (fun x hx => (five_ok x (h.mem x hx)).2.2.2)
  have := h.len
  omega
theorem FewX.name {X : List (List UInt8)} (h : FewX X) : nameLabels ((makeL X).getD []) = some X := by rw [h.ok.make]; exact h.ok.labels
theorem FewX.more {X : List (List UInt8)} (h : FewX X) (p q : List (List UInt8)) (hp : ∀ x ∈ p ++ q, okLabel x = true ∧ x.length ≤ 20) (hl : (p ++ q).length ≤ 2) : OkLs (p ++ (X ++ q)) := by
  refine ⟨?_, ?_⟩
  · intro x hx
    simp only [List.mem_append] at hx
    rcases hx with hx | hx | hx
    · exact (hp x (by simp [hx])).1
    · exact (five_ok x (h.mem x hx)).1
    · exact (hp x (by simp [hx])).1
  · rw [wire_append, wire_append]
    have h1 := short_wire X 3 (fun x hx => (five_ok x (h.mem x hx)).2.2.2)
    have h2 := short_wire p 20 (fun x hx => (hp x (by simp [hx])).2)
    have h3 := short_wire q 20 (fun x hx => (hp x (by simp [hx])).2)
    have := h.len
    simp only [List.length_append] at hl ⊢
    omega
theorem good_name {k : Int} {X : List (List UInt8)} (h : FewX X) (hk : k = 1 ∨ k = 2 ∨ k = 4 ∨ k = 5) (hne : k = 1 ∨ k = 4 → X ≠ []) : GoodT ⟨k, (makeL X).getD [], [], 0⟩ := by
  have hn := h.name
  have hns : ∀ x r, X = x :: r → x ≠ star := fun x r e => (five_ok x (h.mem x (by rw [e]; simp))).2.1
  have hX : ∀ e d : Int, X ≠ [] → namedR X e d = some ⟨e, (makeL X).getD [], [], 0⟩ := by
    intro e d hX
    cases X with
    | nil => exact absurd rfl hX
    | cons x r => unfold namedR; simp only [if_neg (hns x r rfl)]
  have hS : ∀ e d : Int, namedR (star :: X) e d = some ⟨d, (makeL X).getD [], [], 0⟩ := fun e d => by simp only [namedR]; rfl
  have hlast : X ≠ [] → kindOf (X.getLastD []) = none := by
    intro hX
    have : X.getLastD [] ∈ X := by
      have := last_split [] hX
      rw [this]; simp
    exact (five_ok _ (h.mem _ this)).2.2.1
  rcases hk with rfl | rfl | rfl | rfl
  · have hl : labT ⟨1, (makeL X).getD [], [], 0⟩ = X := by show (nameLabels _).getD [] = X; rw [hn]; rfl
    have hX' := hne (.inl rfl)
    refine ⟨by rw [hl]; exact h.ok, by rw [hl]; exact hX', ?_⟩
    rw [hl]; unfold decL; rw [hlast hX']; exact hX 1 2 hX'
  · have hl : labT ⟨2, (makeL X).getD [], [], 0⟩ = star :: X := by show star :: (nameLabels _).getD [] = _; rw [hn]; rfl
    refine ⟨?_, by rw [hl]; simp, ?_⟩
    · rw [hl]
      have := h.more [star] [] (by decide) (by decide)
      simpa using this
    · rw [hl]; unfold decL
      have : kindOf ((star :: X).getLastD []) = none := by
        by_cases hX' : X = []
        · subst hX'; decide
        · have e : (star :: X).getLastD [] = X.getLastD [] := by
            cases X with
            | nil => exact absurd rfl hX'
            | cons x r => rfl
          rw [e]; exact hlast hX'
      rw [this]; exact hS 1 2
  · have hl : labT ⟨4, (makeL X).getD [], [], 0⟩ = X ++ [cNsname] := by show (nameLabels _).getD [] ++ [cNsname] = _; rw [hn]; rfl
    have hX' := hne (.inr rfl)
    refine ⟨?_, by rw [hl]; simp, ?_⟩
    · rw [hl]
      have := h.more [] [cNsname] (by decide) (by decide)
      simpa using this
    · rw [hl]; unfold decL
      rw [getLastD_snoc, show kindOf cNsname = some 4 from rfl, List.dropLast_concat]
      exact hX 4 5 hX'
  · have hl : labT ⟨5, (makeL X).getD [], [], 0⟩ = star :: (X ++ [cNsname]) := by show star :: ((nameLabels _).getD [] ++ [cNsname]) = _; rw [hn]; rfl
    refine ⟨?_, by rw [hl]; simp, ?_⟩
    · rw [hl]
      have := h.more [star] [cNsname] (by decide) (by decide)
      simpa using this
    · rw [hl]; unfold decL
      rw [show star :: (X ++ [cNsname]) = (star :: X) ++ [cNsname] by rfl, getLastD_snoc, show kindOf cNsname = some 4 from rfl, List.dropLast_concat]
      exact hS 4 5
end Go.Proofs.YtkdknfedieeenaaGreatDoor
namespace Go.Proofs.YtkdknfedieeenaaGreatDoor
open Go.RowKit
set_option linter.unusedVariables false
set_option linter.unusedSimpArgs false
set_option maxRecDepth 20000
/-- What a trigger is that has a name: it is of names, or of a prefix. -/
theorem enc_shape {t : Trig} {n : List UInt8} (h : encR t = some n) : (t.addr = [] ∧ t.bits = 0 ∧ (t.kind = 1 ∨ t.kind = 2 ∨ t.kind = 4 ∨ t.kind = 5)) ∨ (t.name = [] ∧ mayP t.addr t.bits = true ∧ (t.kind = 0 ∨ t.kind = 3 ∨ t.kind = 6)) := by
  obtain ⟨ls, hok, -, hne, hd⟩ := decR_some (dec_enc h)
  have hsp := last_split [] hne
  unfold decL at hd
  cases hk : kindOf (ls.getLastD []) with
  | none =>
    rw [hk] at hd
    simp only at hd
    obtain ⟨_, h1, h2, (⟨h3, h4⟩ | ⟨h3, h4⟩)⟩ := named_lab hok hd
    · exact .inl ⟨h1, h2, by omega⟩
    · exact .inl ⟨h1, h2, by omega⟩
  | some k =>
    rw [hk] at hd
    simp only at hd
    have hkk := kindOf_some hk
    split at hd
    · obtain ⟨_, h1, h2, (⟨h3, h4⟩ | ⟨h3, h4⟩)⟩ := named_lab (by rw [hsp] at hok; exact hok.left) hd
      · exact .inl ⟨h1, h2, by omega⟩
      · exact .inl ⟨h1, h2, by omega⟩
    · rename_i hk4
      cases ha : addrR ls.dropLast with
      | none => rw [ha] at hd; cases hd
      | some p =>
        rw [ha] at hd
        obtain ⟨a, bits⟩ := p
        obtain ⟨h1, h2⟩ := addr_some ha
        simp only [Option.map_some, Option.some.injEq] at hd
        subst hd
        right
        refine ⟨rfl, h1, ?_⟩
        rcases hkk with ⟨e, _⟩ | ⟨e, _⟩ | ⟨e, _⟩ | ⟨e, _⟩
        · exact .inl e
        · exact .inr (.inl e)
        · exact .inr (.inr e)
        · exact absurd e hk4
def keyP (t : Trig) : List UInt8 := signs ((bitsL t.addr).take t.bits.toNat)
def famP (t : Trig) : Int × Int := (t.kind, ((t.addr.length : Nat) : Int))
def wordP (t : Trig) : ByteArray := wordT t.kind (baL t.name)
def namB (t : Trig) : Bool := t.addr == [] && t.bits == 0
theorem namB_iff (t : Trig) : namB t = true ↔ t.addr = [] ∧ t.bits = 0 := by simp [namB]
theorem mayP_more {a : List UInt8} {x : Int} (h : mayP a x = true) : isAddr a.length = true ∧ 0 ≤ x ∧ x ≤ 8 * a.length ∧ cutL a x.toNat = a := by
  unfold mayP at h
  simp only [Bool.and_eq_true, beq_iff_eq] at h
  obtain ⟨h1, h2, h3⟩ := isCut_addr h.1
  exact ⟨h1, h2, by omega, h.2⟩
theorem isAddr_pos {n : Nat} (h : isAddr n = true) : n = 4 ∨ n = 16 := by simpa [isAddr] using h
theorem mayP_not_named {t : Trig} (h : mayP t.addr t.bits = true) : namB t = false := by
  rw [Bool.eq_false_iff]
  intro e
  rw [namB_iff] at e
  have := isAddr_pos (mayP_more h).1
  rw [e.1] at this
  simp at this
theorem keyP_len {t : Trig} (h : mayP t.addr t.bits = true) : ((keyP t).length : Int) = t.bits ∧ (keyP t).length ≤ 128 := by
  obtain ⟨h1, h2, h3, h4⟩ := mayP_more h
  have hl : (keyP t).length = t.bits.toNat := by
    unfold keyP signs
    rw [List.length_map, List.length_take, bitsL_length]
    omega
  have := isAddr_pos h1
  omega
theorem signs_may (L : List Bool) (h : L.length ≤ 128) : mayL (signs L) = true := by
  rw [mayL_iff]
  refine ⟨by unfold signs; rw [List.length_map]; exact h, fun x hx => ?_⟩
  unfold signs at hx
  obtain ⟨b, _, rfl⟩ := List.mem_map.1 hx
  cases b
  · exact .inl rfl
  · exact .inr rfl
theorem keyP_may {t : Trig} (h : mayP t.addr t.bits = true) : mayL (keyP t) = true := signs_may _ (by
  have := (keyP_len h).2
  unfold keyP signs at this
  rwa [List.length_map] at this)
theorem keyP_inj {t u : Trig} (ht : mayP t.addr t.bits = true) (hu : mayP u.addr u.bits = true) (hl : t.addr.length = u.addr.length) (hk : keyP t = keyP u) : t.addr = u.addr ∧ t.bits = u.bits := by
  have hb : t.bits = u.bits := by
    have h1 := (keyP_len ht).1
    have h2 := (keyP_len hu).1
    rw [hk] at h1
    omega
  obtain ⟨a1, a2, a3, a4⟩ := mayP_more ht
  obtain ⟨b1, b2, b3, b4⟩ := mayP_more hu
  refine ⟨?_, hb⟩
  have hk' := signs_inj hk
  rw [← hb] at hk' b4
  rw [← a4, ← b4]
  exact (cutL_eq_iff _ hl (by omega)).2 hk'
theorem wordT_inj {k k' : Int} {n n' : ByteArray} (h1 : 0 ≤ k ∧ k < 256) (h2 : 0 ≤ k' ∧ k' < 256) (h : wordT k n = wordT k' n') : k = k' ∧ n = n' := by
  unfold wordT at h
  have h' := congrArg (fun b : ByteArray => b.data.toList) h
  simp only [ByteArray.data_append, Array.toList_append] at h'
  simp only [List.cons_append, List.nil_append, List.cons.injEq] at h'
  obtain ⟨e1, e2⟩ := h'
  have e3 := congrArg UInt8.toNat e1
  rw [UInt8.toNat_ofNat_of_lt' (by show _ < 256; omega), UInt8.toNat_ofNat_of_lt' (by show _ < 256; omega)] at e3
  exact ⟨by omega, ByteArray.ext (Array.ext' e2)⟩
theorem baL_inj19 {a b : List UInt8} (h : baL a = baL b) : a = b := by
  have := congrArg (fun x : ByteArray => x.data.toList) h
  simpa [baL] using this
theorem wordP_inj {t u : Trig} (ht : t.kind = 1 ∨ t.kind = 2 ∨ t.kind = 4 ∨ t.kind = 5) (hu : u.kind = 1 ∨ u.kind = 2 ∨ u.kind = 4 ∨ u.kind = 5) (h : wordP t = wordP u) : t.kind = u.kind ∧ t.name = u.name := by
  obtain ⟨h1, h2⟩ := wordT_inj (by omega) (by omega) h
  exact ⟨h1, baL_inj19 h2⟩
/-- What an index holds: its names' numbers and how many they are; its prefixes' trees by families, and how many prefixes they have. -/
structure IxS where
  M : ByteArray → Option Int
  lv : Nat
  G : Int × Int → Tr
  tot : Nat
def IxS.val (S : IxS) (t : Trig) : Option Int := if namB t = true then S.M (wordP t) else getR (S.G (famP t)) (keyP t)
def IxS.len (S : IxS) : Nat := S.lv + S.tot
noncomputable def IxS.put (S : IxS) (t : Trig) (v : Int) : IxS :=
  if namB t = true then { S with M := upd S.M (wordP t) (some v), lv := if (S.M (wordP t)).isSome then S.lv else S.lv + 1 }
  else { S with G := fun f => if f = famP t then putR (S.G (famP t)) (keyP t) v else S.G f, tot := if (getR (S.G (famP t)) (keyP t)).isSome then S.tot else S.tot + 1 }
noncomputable def IxS.del (S : IxS) (t : Trig) : IxS :=
  if namB t = true then { S with M := upd S.M (wordP t) none, lv := if (S.M (wordP t)).isSome then S.lv - 1 else S.lv }
  else if (getR (S.G (famP t)) (keyP t)).isSome then { S with G := fun f => if f = famP t then delR (S.G (famP t)) (keyP t) else S.G f, tot := S.tot - 1 } else S
def IxS.Ok (S : IxS) : Prop := ∀ f, (S.G f).Ok [] ∧ (S.G f).Fit
def emptyI : IxS := ⟨fun _ => none, 0, fun _ => .nil, 0⟩
theorem emptyI_val (t : Trig) : emptyI.val t = none := by
  unfold IxS.val emptyI
  split
  · rfl
  · simp [getR, getO, longR]
theorem fam_key {t u : Trig} {n m : List UInt8} (ht : encR t = some n) (hu : encR u = some m) (h1 : namB t = false) (h2 : namB u = false) : (famP u = famP t ∧ keyP u = keyP t) ↔ u = t := by
  rcases enc_shape ht with ⟨q1, q2, _⟩ | ⟨t1, t2, t3⟩
  · rw [(namB_iff t).2 ⟨q1, q2⟩] at h1; cases h1
  rcases enc_shape hu with ⟨q1, q2, _⟩ | ⟨u1, u2, u3⟩
  · rw [(namB_iff u).2 ⟨q1, q2⟩] at h2; cases h2
  constructor
  · rintro ⟨e1, e2⟩
    unfold famP at e1
    simp only [Prod.mk.injEq] at e1
    obtain ⟨h3, h4⟩ := keyP_inj u2 t2 (by omega) e2
    obtain ⟨tk, tn, ta, tb⟩ := t
    obtain ⟨uk, un, ua, ub⟩ := u
    simp only at *
    subst h3 h4 t1 u1
    rw [e1.1]
  · rintro rfl; exact ⟨rfl, rfl⟩
theorem word_key {t u : Trig} {n m : List UInt8} (ht : encR t = some n) (hu : encR u = some m) (h1 : namB t = true) (h2 : namB u = true) : wordP u = wordP t ↔ u = t := by
  have htt : t.addr = [] ∧ t.bits = 0 ∧ (t.kind = 1 ∨ t.kind = 2 ∨ t.kind = 4 ∨ t.kind = 5) := by
    rcases enc_shape ht with q | ⟨_, q2, _⟩
    · exact q
    · rw [mayP_not_named q2] at h1; cases h1
  have huu : u.addr = [] ∧ u.bits = 0 ∧ (u.kind = 1 ∨ u.kind = 2 ∨ u.kind = 4 ∨ u.kind = 5) := by
    rcases enc_shape hu with q | ⟨_, q2, _⟩
    · exact q
    · rw [mayP_not_named q2] at h2; cases h2
  obtain ⟨t1, t2, t3⟩ := htt
  obtain ⟨u1, u2, u3⟩ := huu
  constructor
  · intro e
    obtain ⟨h3, h4⟩ := wordP_inj u3 t3 e
    obtain ⟨tk, tn, ta, tb⟩ := t
    obtain ⟨uk, un, ua, ub⟩ := u
    simp only at *
    subst h3 h4 t1 u1 t2 u2
    rfl
  · rintro rfl; rfl
/-- What is read behind Put. -/
theorem IxS.val_put {S : IxS} {t u : Trig} {n m : List UInt8} (v : Int) (hS : S.Ok) (ht : encR t = some n) (hu : encR u = some m) : (S.put t v).val u = if u = t then some v else S.val u := by
  unfold IxS.put
  cases h1 : namB t with
  | true =>
    rw [if_pos rfl]
    unfold IxS.val
    cases h2 : namB u with
    | true =>
      simp only [if_true, upd]
      by_cases e : u = t
      · rw [if_pos e, if_pos (by rw [e])]
      · rw [if_neg e, if_neg (fun h => e ((word_key ht hu h1 h2).1 h))]
    | false =>
      simp only [Bool.false_eq_true, if_false]
      rw [if_neg (fun e => by rw [e, h1] at h2; cases h2)]
  | false =>
    rw [if_neg (by simp)]
    unfold IxS.val
    cases h2 : namB u with
    | true =>
      simp only [if_true]
      rw [if_neg (fun e => by rw [e, h1] at h2; cases h2)]
    | false =>
      simp only [Bool.false_eq_true, if_false]
      have hm : mayL (keyP t) = true := by
        rcases enc_shape ht with ⟨q1, q2, _⟩ | ⟨_, t2, _⟩
        · rw [(namB_iff t).2 ⟨q1, q2⟩] at h1; cases h1
        · exact keyP_may t2
      by_cases e : famP u = famP t
      · rw [if_pos e, get_put (hS _).1 (hS _).2 hm, e]
        by_cases e2 : keyP u = keyP t
        · rw [if_pos e2, if_pos ((fam_key ht hu h1 h2).1 ⟨e, e2⟩)]
        · rw [if_neg e2, if_neg (fun h => e2 ((fam_key ht hu h1 h2).2 h).2)]
      · rw [if_neg e, if_neg (fun h => e ((fam_key ht hu h1 h2).2 h).1)]
theorem IxS.put_ok {S : IxS} {t : Trig} {n : List UInt8} (v : Int) (hS : S.Ok) (ht : encR t = some n) : (S.put t v).Ok := by
  unfold IxS.put
  cases h1 : namB t with
  | true => rw [if_pos rfl]; exact hS
  | false =>
    rw [if_neg (by simp)]
    intro f
    simp only
    split
    · have hm : mayL (keyP t) = true := by
        rcases enc_shape ht with ⟨q1, q2, _⟩ | ⟨_, t2, _⟩
        · rw [(namB_iff t).2 ⟨q1, q2⟩] at h1; cases h1
        · exact keyP_may t2
      obtain ⟨hl, hb⟩ := (mayL_iff _).1 hm
      exact ⟨(put_spec (hS _).1 (List.nil_prefix) hb).1, fit_put v hb hl (hS _).2⟩
    · exact hS f
/-- What is read behind Del. -/
theorem IxS.val_del {S : IxS} {t u : Trig} {n m : List UInt8} (hS : S.Ok) (ht : encR t = some n) (hu : encR u = some m) : (S.del t).val u = if u = t then none else S.val u := by
  unfold IxS.del
  cases h1 : namB t with
  | true =>
    rw [if_pos rfl]
    unfold IxS.val
    cases h2 : namB u with
    | true =>
      simp only [if_true, upd]
      by_cases e : u = t
      · rw [if_pos e, if_pos (by rw [e])]
      · rw [if_neg e, if_neg (fun h => e ((word_key ht hu h1 h2).1 h))]
    | false =>
      simp only [Bool.false_eq_true, if_false]
      rw [if_neg (fun e => by rw [e, h1] at h2; cases h2)]
  | false =>
    rw [if_neg (by simp)]
    cases hg : getR (S.G (famP t)) (keyP t) with
    | none =>
      rw [if_neg (by simp)]
      by_cases e : u = t
      · subst e; rw [if_pos rfl]; unfold IxS.val; rw [h1]; simpa using hg
      · rw [if_neg e]
    | some v =>
      rw [if_pos (by simp)]
      unfold IxS.val
      cases h2 : namB u with
      | true =>
        simp only [if_true]
        rw [if_neg (fun e => by rw [e, h1] at h2; cases h2)]
      | false =>
        simp only [Bool.false_eq_true, if_false]
        by_cases e : famP u = famP t
        · rw [if_pos e, get_del (hS _).1 (hS _).2 hg, e]
          by_cases e2 : keyP u = keyP t
          · rw [if_pos e2, if_pos ((fam_key ht hu h1 h2).1 ⟨e, e2⟩)]
          · rw [if_neg e2, if_neg (fun h => e2 ((fam_key ht hu h1 h2).2 h).2)]
        · rw [if_neg e, if_neg (fun h => e ((fam_key ht hu h1 h2).2 h).1)]
theorem IxS.put_len (S : IxS) (t : Trig) (v : Int) : (S.put t v).len = if (S.val t).isSome then S.len else S.len + 1 := by
  unfold IxS.put IxS.val IxS.len
  cases namB t with
  | true => simp only [if_true]; split <;> omega
  | false => simp only [Bool.false_eq_true, if_false]; split <;> omega
end Go.Proofs.YtkdknfedieeenaaGreatDoor
namespace Go.Proofs.YtkdknfedieeenaaGreatDoor
open Go.RowKit
set_option linter.unusedVariables false
set_option maxRecDepth 20000

def ex13a : List (List UInt8) := [[50, 52], [48], [50], [48], [49, 57, 50], cAnswer]
def ex13b : List (List UInt8) := [[51, 50], [122, 122], [49], [50, 48, 48, 49], cClient]
theorem ex13a_dec : decR ((makeL ex13a).getD []) = some ⟨3, [], [192, 0, 2, 0], 24⟩ := by decide +kernel
theorem ex13b_dec : decR ((makeL ex13b).getD []) = some ⟨0, [], [32, 1, 0, 1, 0, 0, 0, 0, 0, 0, 0, 0, 0, 0, 0, 0], 32⟩ := by decide +kernel

end Go.Proofs.YtkdknfedieeenaaGreatDoor
namespace Go.Proofs.YtkdknfedieeenaaGreatDoor
set_option linter.unusedVariables false

theorem byte8_set (b0 b1 b2 b3 b4 b5 b6 b7 : Bool) (j : Nat) (h : j < 8) :
    unbits ([b0, b1, b2, b3, b4, b5, b6, b7].set j true) = [UInt8.ofNat ((byte8 b0 b1 b2 b3 b4 b5 b6 b7).toNat ||| 128 / 2 ^ j)] := by
  have hj : ∀ b0 b1 b2 b3 b4 b5 b6 b7 : Bool, ∀ j : Fin 8, unbits ([b0, b1, b2, b3, b4, b5, b6, b7].set j.val true) = [UInt8.ofNat ((byte8 b0 b1 b2 b3 b4 b5 b6 b7).toNat ||| 128 / 2 ^ j.val)] := by decide +kernel
  exact hj b0 b1 b2 b3 b4 b5 b6 b7 ⟨j, h⟩
theorem unbits_cons (x r : List Bool) (h : x.length = 8) : unbits (x ++ r) = unbits x ++ unbits r := by
  match x, h with
  | [b0, b1, b2, b3, b4, b5, b6, b7], _ => rfl
theorem unbits_set : ∀ (n : Nat) (L : List Bool) (i : Nat) (hL : L.length = 8 * n) (hi : i < 8 * n),
    unbits (L.set i true) = (unbits L).set (i / 8) (UInt8.ofNat (((unbits L)[i / 8]'(by rw [(bitsL_unbits n L hL).2]; omega)).toNat ||| 128 / 2 ^ (i % 8)))
  | n + 1, L, i, hL, hi => by
    obtain ⟨b0, b1, b2, b3, b4, b5, b6, b7, r, rfl, hr⟩ := split8 L n hL
    by_cases h8 : i < 8
    · have e0 : i / 8 = 0 := by omega
      have e1 : i % 8 = i := by omega
      have hs : (b0 :: b1 :: b2 :: b3 :: b4 :: b5 :: b6 :: b7 :: r).set i true = [b0, b1, b2, b3, b4, b5, b6, b7].set i true ++ r := by
        rw [show b0 :: b1 :: b2 :: b3 :: b4 :: b5 :: b6 :: b7 :: r = [b0, b1, b2, b3, b4, b5, b6, b7] ++ r by rfl, List.set_append_left _ _ (by simpa using h8)]
      rw [hs, unbits_cons _ r (by simp), byte8_set _ _ _ _ _ _ _ _ i h8]
      simp only [e0, e1, unbits, List.getElem_cons_zero, List.set_cons_zero, List.cons_append, List.nil_append]
    · have hd : i / 8 = (i - 8) / 8 + 1 := by omega
      have hm : i % 8 = (i - 8) % 8 := by omega
      have ih := unbits_set n r (i - 8) hr (by omega)
      have hs : (b0 :: b1 :: b2 :: b3 :: b4 :: b5 :: b6 :: b7 :: r).set i true = [b0, b1, b2, b3, b4, b5, b6, b7] ++ r.set (i - 8) true := by
        rw [show b0 :: b1 :: b2 :: b3 :: b4 :: b5 :: b6 :: b7 :: r = [b0, b1, b2, b3, b4, b5, b6, b7] ++ r by rfl, List.set_append_right _ _ (by simp; omega)]
        rfl
      rw [hs, unbits_cons _ _ rfl, ih]
      simp only [hd, hm, unbits, List.getElem_cons_succ, List.set_cons_succ, List.cons_append, List.nil_append]

/-- The bytes of the first k signs of a key, and 0. -/
def fillB (key : List UInt8) (n k : Nat) : List Bool := (key.map (· == 49)).take k ++ List.replicate (8 * n - k) false
theorem fillB_length (key : List UInt8) (n k : Nat) (hk : k ≤ key.length) (hn : key.length ≤ 8 * n) : (fillB key n k).length = 8 * n := by simp [fillB]; omega
theorem fillB_zero (key : List UInt8) (n : Nat) : unbits (fillB key n 0) = List.replicate n 0 := by
  have h : ∀ m, unbits (List.replicate (8 * m) false) = List.replicate m 0 := by
    intro m
    induction m with
    | zero => rfl
    | succ m ih =>
      rw [show 8 * (m + 1) = 8 + 8 * m by omega, ← List.replicate_append_replicate, unbits_cons _ _ (by simp), ih, List.replicate_succ]
      rfl
  simpa [fillB] using h n
theorem fillB_next (key : List UInt8) (n k : Nat) (hk : k < key.length) (hn : key.length ≤ 8 * n) : (fillB key n k).set k (key[k] == 49) = fillB key n (k + 1) := by
  have hl : ((key.map (· == 49)).take k).length = k := by simp; omega
  have hk2 : k < (key.map (· == 49)).length := by simpa using hk
  unfold fillB
  rw [List.set_append_right _ _ (by omega), hl, Nat.sub_self, List.take_succ_eq_append_getElem hk2, show 8 * n - k = (8 * n - (k + 1)) + 1 by omega, List.replicate_succ, List.set_cons_zero]
  simp
theorem fillB_at (key : List UInt8) (n k : Nat) (hk : k < key.length) (hn : key.length ≤ 8 * n) : (fillB key n k)[k]? = some false := by
  have hl : ((key.map (· == 49)).take k).length = k := by simp; omega
  unfold fillB
  rw [List.getElem?_append_right (by omega), hl, Nat.sub_self, List.getElem?_replicate_of_lt (by omega)]
theorem fillB_same (key : List UInt8) (n k : Nat) (hk : k < key.length) (hn : key.length ≤ 8 * n) (h : key[k] ≠ 49) : fillB key n k = fillB key n (k + 1) := by
  rw [← fillB_next key n k hk hn]
  have hb : (key[k] == 49) = false := by simpa using h
  rw [hb]
  apply List.ext_getElem?
  intro i
  rw [List.getElem?_set]
  split
  · rename_i e
    subst e
    rw [fillB_at key n k hk hn, if_pos (by rw [fillB_length key n k (by omega) hn]; omega)]
  · rfl
theorem fillB_or (key : List UInt8) (n k : Nat) (hk : k < key.length) (hn : key.length ≤ 8 * n) (h : key[k] = 49) (hlt : k / 8 < (unbits (fillB key n k)).length) :
    (unbits (fillB key n k)).set (k / 8) (UInt8.ofNat ((unbits (fillB key n k))[k / 8].toNat ||| 128 / 2 ^ (k % 8))) = unbits (fillB key n (k + 1)) := by
  rw [← fillB_next key n k hk hn, h]
  exact (unbits_set n (fillB key n k) k (fillB_length key n k (by omega) hn) (by omega)).symm
def okKey (c : UInt8) : Bool := c == 48 || c == 49
theorem okKey_signs (key : List UInt8) (h : key.all okKey = true) : signs (key.map (· == 49)) = key := by
  rw [signs, List.map_map]
  conv => rhs; rw [← List.map_id key]
  apply List.map_congr_left
  intro c hc
  have := List.all_eq_true.1 h c hc
  simp only [okKey, Bool.or_eq_true, beq_iff_eq] at this
  rcases this with rfl | rfl <;> rfl
theorem signs_ok (L : List Bool) : (signs L).all okKey = true := by
  rw [List.all_eq_true]
  intro c hc
  obtain ⟨b, _, rfl⟩ := List.mem_map.1 hc
  cases b <;> rfl
end Go.Proofs.YtkdknfedieeenaaGreatDoor
namespace Go.Proofs.YtkdknfedieeenaaGreatDoor
open Go.RowKit
set_option linter.unusedVariables false
set_option maxRecDepth 20000
end Go.Proofs.YtkdknfedieeenaaGreatDoor
namespace Go.Proofs.YtkdknfedieeenaaGreatDoor
open Go.RowKit
set_option linter.unusedVariables false
set_option maxRecDepth 20000

def addrN (six : Bool) : Nat := if six then 16 else 4
/-- Six bytes in a new block. -/
def six6 (g : Nat) : Value → World → Prop := fun v w => ∃ h, v = .slice (some ⟨h, 0, none⟩) 6 6 ∧ h ≠ g ∧ h < w.heap.size ∧ ∀ j, j < 6 → ∃ x : Nat, x < 256 ∧ w.cell? ⟨h, j, none⟩ = some (.int .u8 x)
def ptr6 (g : Nat) : Value → World → Prop := fun v w => ∃ h j, v = .pointer (some ⟨h, j, none⟩) ∧ h ≠ g ∧ h < w.heap.size ∧ ∃ x : Nat, x < 256 ∧ w.cell? ⟨h, j, none⟩ = some (.int .u8 x)
def some8 : Value → World → Prop := fun v _ => ∃ x : Nat, x < 256 ∧ v = .int .u8 x
theorem six6_stays (g : Nat) : ∀ v w w', six6 g v w → GoesBut g w w' → six6 g v w' := by
  rintro v w w' ⟨h, rfl, h1, h2, h3⟩ he
  exact ⟨h, rfl, h1, Nat.lt_of_lt_of_le h2 he.1, fun j hj => by rw [he.cell h2 h1]; exact h3 j hj⟩
theorem ptr6_stays (g : Nat) : ∀ v w w', ptr6 g v w → GoesBut g w w' → ptr6 g v w' := by
  rintro v w w' ⟨h, j, rfl, h1, h2, h3⟩ he
  exact ⟨h, j, rfl, h1, Nat.lt_of_lt_of_le h2 he.1, by rw [he.cell h2 h1]; exact h3⟩
theorem some8_stays (g : Nat) : ∀ v w w', some8 v w → GoesBut g w w' → some8 v w' := fun _ _ _ h _ => h

attribute [local simp] isV wordOf Deps Region.binds wantedX isB Act.put
set_option maxHeartbeats 1600000 in
set_option maxRecDepth 20000 in
theorem addr_any (six : Bool) (A : Option Addr) (n c : Nat) (l : List UInt8) (w : World) (hA : Sl w w.heap.size 1 A n (l.map bv)) (hn : n ≤ 140737488355328) :
    Calls Tryz.prog 31 #[.bool six, .slice A n c] w fun e w' => ∃ s : ByteArray, s.size = addrN six ∧ e = .returned (.string s) ∧ Below w.heap.size w w' := by
  obtain ⟨i0, hi, hi0, hi1, hi2⟩ := info_parts pfx_info
  obtain ⟨N, hN⟩ : ∃ N, N = addrN six := ⟨_, rfl⟩
  have hN2 : N = 4 ∨ N = 16 := by rw [hN]; unfold addrN; cases six <;> simp
  have HN := Lib.hid hN
  clear hN
  go_enter Tryz.func31, Tryz.ntmps31
  go_upto_if 9 with (first
    | (at_make; refine wpList_make_full _ rfl _ _ 23 rfl w.heap.size 5 i0 (.int .u8 0) 1 Tryz.underlying23 hi hi0 hi1 _ _ _ _ 4 rfl rfl (by omega) (by omega) (by rw [hi2]; omega) (by unfold maxLen; omega) (by simp) ?_; intro w1 hown1 hg1))
  rw [show (madeCells (Value.int .u8 0).cells (4 * 1)).toList = (List.replicate 4 (0 : UInt8)).map bv by rw [Nat.mul_one, List.map_replicate]; exact toList_madeCells_one _ _] at hown1
  have hob1 := OB.of_own hown1 (below_grown_none (Below.refl _ _) hg1 (Nat.le_refl _)) hg1.size
  have hz1 := hg1.size
  clear hown1 hg1
  go_cut [5] (fun v wc => ∃ g, v = .slice (some ⟨g, 0, none⟩) N N ∧ ∃ l : List UInt8, l.length = N ∧ OB w.heap.size w v N (l.map bv) wc)
  case first =>
    cases six with
    | false =>
      obtain rfl : N = 4 := HN.out
      go_wp2_with fail
      go_meet
      exact ⟨_, rfl, _, by simp, hob1⟩
    | true =>
      obtain rfl : N = 16 := HN.out
      go_wp2_with (first
        | (at_make; refine wpList_make_full _ rfl _ _ 23 rfl w.heap.size 5 i0 (.int .u8 0) 1 Tryz.underlying23 hi hi0 hi1 _ _ _ _ 16 rfl rfl (by omega) (by omega) (by rw [hi2]; omega) (by unfold maxLen; omega) (by omega) ?_; intro w2 hown2 hg2))
      rw [show (madeCells (Value.int .u8 0).cells (16 * 1)).toList = (List.replicate 16 (0 : UInt8)).map bv by rw [Nat.mul_one, List.map_replicate]; exact toList_madeCells_one _ _] at hown2
      have hob2 := OB.of_own hown2 (below_grown_none hob1.bel hg2 hob1.base) (by have := hg2.size; omega)
      go_meet
      exact ⟨_, rfl, _, by simp, hob2⟩
  case rest =>
    obtain ⟨g, rfl, l0, hl0, hob⟩ := hcut
    have hB := hob.lt g rfl
    obtain ⟨R, hR⟩ : ∃ R : World → Prop, R = fun wr => ∃ l : List UInt8, l.length = N ∧ OB w.heap.size w (.slice (some ⟨g, 0, none⟩) N N) N (l.map bv) wr := ⟨_, rfl⟩
    have HR := Lib.hid hR
    have hR0 : R wc := by rw [hR]; exact ⟨l0, hl0, hob⟩
    clear hR hob hl0 hob1 hz1
    go_wp2_with fail
    go_loopw [13] (fun i wr => ∃ k : Nat, k ≤ n ∧ i = .int .i64 k ∧ R wr) (fun i _ => n - (intOf i).toNat)
    case atStart => exact ⟨0, Nat.zero_le _, rfl, hR0⟩
    case round =>
      obtain ⟨k, hk, rfl, hr⟩ := hrel
      have hr2 := hr
      rw [HR.out] at hr2
      obtain ⟨lk, hlk, hb⟩ := hr2
      by_cases hlt : k < n
      · obtain ⟨b, off, u, rfl, hbb, hu, hc⟩ := hA.at_ hlt
        have hcell : wr.cell? ⟨b, off + k, none⟩ = some u := (hb.bel.cell (p := ⟨b, off + k, none⟩) hbb).trans hc
        rw [List.getElem?_map] at hu
        obtain ⟨yc, hyc, rfl⟩ := Option.map_eq_some_iff.1 hu
        have h8 := UInt8.toNat_lt yc
        simp only [bv] at hcell
        generalize yc.toNat = y at *
        clear hu hyc hc
        by_cases hkN : k < N
        · obtain ⟨p, hp⟩ : ∃ p, p = k * 7 % N := ⟨_, rfl⟩
          have hpN : p < N := by rw [hp]; exact Nat.mod_lt _ (by omega)
          have hm : (k : Int) * 7 % (N : Int) = (p : Int) := by rw [hp]; simp
          have hm2 : ((k : Int) * 7).tmod (N : Int) = (p : Int) := by rw [Int.tmod_eq_emod_of_nonneg (by omega)]; exact hm
          have e1 : IntKind.i64.wrap ((k : Int) * 7) = (k : Int) * 7 := IntWalk.i64_in _ (by omega)
          have e2 : IntKind.i64.wrap (p : Int) = (p : Int) := IntWalk.i64_in _ (by omega)
          have e3 : ¬ (N : Int) = 0 := by omega
          have e4 : 0 ≤ (y : Int) % 6 := by omega
          have e5 : (y : Int) % 6 < 6 := by omega
          have e6 : ((y : Int) % 6).toNat = y % 6 := by omega
          have e7 : IntKind.u8.wrap ((y : Int) % 6) = (y : Int) % 6 := by rw [IntKind.wrap_u8]; omega
          have e8 : (p : Int) < N := by omega
          have e9 : (y : Int).tmod 6 = (y : Int) % 6 := Int.tmod_eq_emod_of_nonneg (by omega)
          have hRlt : ∀ wx, R wx → g < wx.heap.size := by
            intro wx h; rw [HR.out] at h; obtain ⟨lx, _, hx⟩ := h; exact (hx.lt g rfl).2
          have hRall : ∀ wx o, R wx → R (wx.alloc o) := by
            intro wx o h; rw [HR.out] at h ⊢; obtain ⟨lx, h1, hx⟩ := h; exact ⟨lx, h1, hx.alloc o⟩
          have hRset : ∀ wx (v : Nat), v < 256 → R wx → R (wx.setCell ⟨g, p, none⟩ (.int .u8 v)) := by
            intro wx v hv h; rw [HR.out] at h ⊢; obtain ⟨lx, h1, hx⟩ := h
            refine ⟨lx.set p (UInt8.ofNat v), by simpa using h1, ?_⟩
            rw [List.map_set, show bv (UInt8.ofNat v) = .int .u8 v by unfold bv; rw [UInt8.toNat_ofNat_of_lt' (by simpa using hv)]]
            exact hx.set p hpN _
          have hRcell : ∀ wx, R wx → (∃ u, wx.cell? ⟨g, p, none⟩ = some u) ∧ wx.frozen? ⟨g, p, none⟩ = false := by
            intro wx h; rw [HR.out] at h; obtain ⟨lx, h1, hx⟩ := h
            exact ⟨⟨_, hx.cell p _ (List.getElem?_eq_getElem (by simp; omega))⟩, hx.frozen p hpN⟩
          have HRALL := Lib.hid hRall
          have HRSET := Lib.hid hRset
          have HRLT := Lib.hid hRlt
          have HRCELL := Lib.hid hRcell
          clear hb hlk hp hRlt hRall hRset hRcell
          go_upto_region 8 with fail
          refine wp_region_ext pfx_follows (fun x => by simp [putsF, Act.put]; rfl) R (GoesBut g)
            [isV (.slice (some ⟨g, 0, none⟩) N N), isV (.int .i64 k), isV (.int .i64 (k * 7)), isV (.slice (some ⟨g, 0, none⟩) N N), isV (.int .i64 N), isV (.int .i64 p), isV (.int .u8 y), six6 g, isV (.int .u8 y), isV (.int .u8 ((y : Int) % 6)), ptr6 g, some8, isV (.pointer (some ⟨g, p, none⟩)), fun _ _ => True]
            (by kernel_rfl) (by kernel_rfl) (by kernel_rfl) rfl ?_ (GoesBut.refl g) ?_ ?_ ?_
          · refine ⟨isV_stayX _ _, isV_stayX _ _, isV_stayX _ _, isV_stayX _ _, isV_stayX _ _, isV_stayX _ _, isV_stayX _ _, six6_stays g, isV_stayX _ _, isV_stayX _ _, ptr6_stays g, some8_stays g, isV_stayX _ _, fun _ _ _ _ _ => trivial, trivial⟩
          · have hr2 := hr
            rw [HR.out] at hr2 ⊢
            obtain ⟨lk, hlk, hb⟩ := hr2
            exact ⟨lk, hlk, hb.drew⟩
          · refine ⟨?_, ?_, ?_, ?_, ?_, ?_, ?_, ?_, ?_, ?_, ?_, ?_, ?_, ?_, trivial⟩
            all_goals
              intro x wx hRx hd
              simp at hd ⊢
            all_goals try simp [hd]
            all_goals try (go_simp; exact next_of _ rfl rfl hRx (GoesBut.refl g wx))
            · obtain ⟨hd0, hd1⟩ := hd
              have e3' : ¬ N = 0 := by omega
              go_simp
              exact next_of _ rfl rfl hRx (GoesBut.refl g wx)
            · have hlt2 := HRLT.out wx hRx
              go_simp
              refine next_of _ rfl ⟨wx.heap.size, rfl, by omega, by simp, ?_⟩ (HRALL.out wx _ hRx) (GoesBut.alloc g wx _)
              intro j hj
              have hj6 : j = 0 ∨ j = 1 ∨ j = 2 ∨ j = 3 ∨ j = 4 ∨ j = 5 := by omega
              rcases hj6 with rfl | rfl | rfl | rfl | rfl | rfl
              · exact ⟨0, by omega, by simp⟩
              · exact ⟨1, by omega, by simp⟩
              · exact ⟨128, by omega, by simp⟩
              · exact ⟨255, by omega, by simp⟩
              · exact ⟨192, by omega, by simp⟩
              · exact ⟨y, h8, by simp⟩
            · obtain ⟨⟨h, hx7, h1, h2, h3⟩, hd1⟩ := hd
              go_simp
              refine next_of _ rfl ⟨h, y % 6, rfl, h1, h2, ?_⟩ hRx (GoesBut.refl g wx)
              exact h3 _ (by omega)
            · obtain ⟨h, j, hx10, h1, h2, v, hv, hc⟩ := hd
              go_simp
              exact next_of (p := some8) (.int .u8 v) rfl ⟨v, hv, rfl⟩ hRx (GoesBut.refl g wx)
            · obtain ⟨hd0, ⟨v, hv, hx11⟩, -⟩ := hd
              obtain ⟨⟨u, hu⟩, hf⟩ := HRCELL.out wx hRx
              go_simp
              exact next_of undef rfl trivial (HRSET.out wx v hv hRx) (GoesBut.set g p wx _)
          intro x w3 hr3 hx
          simp [AllWords] at hx ⊢
          clear hx
          go_wp2_with fail
          go_roundw
          case rel => exact ⟨k + 1, by omega, by go_num, hr3⟩
          case measure => simp [intOf]; omega
        · go_wp2_with fail
          go_roundw
          case rel => exact ⟨k + 1, by omega, by go_num, hr⟩
          case measure => simp [intOf]; omega
      · obtain rfl : k = n := by omega
        have hst := run_string_of (P := Tryz.prog) wr 23 9 5 _ _ N lk Tryz.underlying23 Tryz.underlying5 Tryz.underlying9 hb.sl (by intro h; cases h) N
        obtain ⟨C, eC⟩ : ∃ C : ByteArray, C = ⟨lk.toArray⟩ := ⟨_, rfl⟩
        rw [← eC] at hst
        have hCs : C.size = addrN six := by rw [eC, mk_size, hlk, HN.out]
        have HCS := Lib.hid hCs
        have hbel := hb.bel
        clear hb eC hCs hlk hr
        go_wp2_with fail
        go_ret
        exact ⟨C, HCS.out, rfl, hbel⟩
end Go.Proofs.YtkdknfedieeenaaGreatDoor
