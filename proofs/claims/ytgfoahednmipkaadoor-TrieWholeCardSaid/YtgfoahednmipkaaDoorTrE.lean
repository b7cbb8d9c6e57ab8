/- trie.put at a node with whose word the new one begins. -/
import Derived.Test.YtgfoahednmipkaaDoorTrD
namespace Go.Proofs.YtgfoahednmipkaaDoor
open Go.RowKit
set_option linter.unusedVariables false
set_option maxRecDepth 20000
attribute [local simp] putsF isV wordOf Deps Region.binds Region.wanted Act.put wantedX isB
def offB (s : Bool) : Nat := if s then 4 else 3
/-- What is there behind a call that turns a tree. -/
def PutW (w : World) (t' : Tr) (bs : List Nat) (p' : Option Nat) (w' : World) : Prop :=
  ∃ bs', TrM w' t' p' bs' ∧ bs'.Nodup ∧ (∀ x ∈ bs', x ∈ bs ∨ w.heap.size ≤ x) ∧ Only (fun x => x ∈ bs) w w'
theorem PutW.p {w w' : World} {t' : Tr} {bs : List Nat} {p' : Option Nat} (h : PutW w t' bs p' w') : PutP w t' bs (.returned (ptrV p')) w' := by
  obtain ⟨bs', h⟩ := h
  exact ⟨p', bs', rfl, h⟩
theorem PutP.w {w w' : World} {t' : Tr} {bs : List Nat} {e : Ending} (h : PutP w t' bs e w') : ∃ p', e = .returned (ptrV p') ∧ PutW w t' bs p' w' := by
  obtain ⟨p', bs', h1, h2⟩ := h
  exact ⟨p', h1, bs', h2⟩
theorem PutW.drewN {w w' : World} {t' : Tr} {bs : List Nat} {p' : Option Nat} {n : Nat} (h : PutW (w.drewN n) t' bs p' w') : PutW w t' bs p' w' := by
  obtain ⟨bs', h1, h2, h3, h4⟩ := h
  exact ⟨bs', h1, h2, h3, ((Only.refl _ w).drewN n).trans h4 (fun _ _ e => e)⟩
theorem PutW.drewN' {w w' : World} {t' : Tr} {bs : List Nat} {p' : Option Nat} (h : PutW w t' bs p' w') (n : Nat) : PutW w t' bs p' (w'.drewN n) := by
  obtain ⟨bs', h1, h2, h3, h4⟩ := h
  exact ⟨bs', h1.drewN n, h2, h3, h4.drewN n⟩
theorem TrM.setCell {w : World} {t : Tr} {p : Option Nat} {bs : List Nat} (h : TrM w t p bs) (a : Addr) (u : Value) (ha : a.block ∉ bs) : TrM (w.setCell a u) t p bs :=
  h.keep (by simp [World.setCell]) fun x hx => Below.heap_setCell w a u x (fun e => ha (by subst e; exact hx))
section
variable {w wx : World} {k : List UInt8} {v : Int} {h : Bool} {c : Bool → Tr} {b : Nat} {ps : Bool → Option Nat} {bb : Bool → List Nat} {s : Bool} {t' : Tr} {p' : Option Nat}
/-- The node's own cells, while a kid is turned. -/
theorem kid_cs (hc : Cs w b [.string (sb k), .int .i64 v, .bool h, ptrV (ps false), ptrV (ps true)]) (hnd : (b :: (bb false ++ bb true)).Nodup) (hp : PutW w t' (bb s) p' wx) :
    Cs wx b [.string (sb k), .int .i64 v, .bool h, ptrV (ps false), ptrV (ps true)] := by
  obtain ⟨bs', h1, h2, h3, h4⟩ := hp
  exact h4.cs hc ((bb_nodup hnd).2.1 s)
/-- The kid is another tree now: it is laid into its node. -/
theorem kid_put (hc : Cs w b [.string (sb k), .int .i64 v, .bool h, ptrV (ps false), ptrV (ps true)]) (hk : ∀ s, TrM w (c s) (ps s) (bb s)) (hnd : (b :: (bb false ++ bb true)).Nodup) (hp : PutW w t' (bb s) p' wx) :
    PutW w (.node k v h (updC c s t')) (b :: (bb false ++ bb true)) (some b) (wx.setCell ⟨b, offB s, none⟩ (ptrV p')) ∧
    Cs (wx.setCell ⟨b, offB s, none⟩ (ptrV p')) b [.string (sb k), .int .i64 v, .bool h, ptrV (updP ps s p' false), ptrV (updP ps s p' true)] := by
  have hcx := kid_cs hc hnd hp
  obtain ⟨bs', h1, h2, h3, h4⟩ := hp
  obtain ⟨n1, n2, n3⟩ := bb_nodup hnd
  have hbs : b ∉ bs' := fun hm => by
    rcases h3 b hm with e | e
    · exact n2 s e
    · have := hc.lt; omega
  have hcs : Cs (wx.setCell ⟨b, offB s, none⟩ (ptrV p')) b [.string (sb k), .int .i64 v, .bool h, ptrV (updP ps s p' false), ptrV (updP ps s p' true)] := by
    have := hcx.set' (offB s) (ptrV p') (by cases s <;> simp [offB])
    cases s <;> exact this
  have hother : TrM wx (c (!s)) (ps (!s)) (bb (!s)) := (hk (!s)).only h4 fun x hx hy => n3 s x hy hx
  refine ⟨⟨_, TrM.kid hcs (h1.setCell _ _ hbs) (hother.setCell _ _ (n2 _)), updP_nodup h2 (n1 _) hbs (n2 _) (fun x hx hy => ?_), fun x hx => ?_, ?_⟩, hcs⟩
  · rcases h3 x hx with e | e
    · exact n3 s x e hy
    · have := (hk (!s)).lt x hy; omega
  · rcases updP_mem hx with rfl | hx | hx
    · exact .inl (by simp)
    · rcases h3 x hx with e | e
      · exact .inl (mem_bb e)
      · exact .inr e
    · exact .inl (mem_bb hx)
  · exact (h4.mono (fun x _ hx => mem_bb hx)).setCell _ _ (fun _ => by simp)
/-- The node's own number is laid. -/
theorem own_put (hc : Cs w b [.string (sb k), .int .i64 v, .bool h, ptrV (ps false), ptrV (ps true)]) (hk : ∀ s, TrM w (c s) (ps s) (bb s)) (hnd : (b :: (bb false ++ bb true)).Nodup) (n : Nat) (x : Int) (g : Bool) :
    PutW w (.node k x g c) (b :: (bb false ++ bb true)) (some b) (((w.drewN n).setCell ⟨b, 1, none⟩ (.int .i64 x)).setCell ⟨b, 2, none⟩ (.bool g)) ∧
    Cs (((w.drewN n).setCell ⟨b, 1, none⟩ (.int .i64 x)).setCell ⟨b, 2, none⟩ (.bool g)) b [.string (sb k), .int .i64 x, .bool g, ptrV (ps false), ptrV (ps true)] := by
  obtain ⟨n1, n2, n3⟩ := bb_nodup hnd
  have h1 := (hc.drewN n).set' 1 (.int .i64 x) (by simp)
  have h2 := h1.set' 2 (.bool g) (by simp)
  refine ⟨⟨_, ⟨b, ps, bb, rfl, rfl, h2, fun s => (((hk s).drewN n).setCell _ _ (n2 s)).setCell _ _ (n2 s)⟩, hnd, fun x hx => .inl hx, ?_⟩, h2⟩
  exact (((Only.refl _ w).drewN n).setCell _ _ (fun _ => by simp)).setCell _ _ (fun _ => by simp)
end
set_option maxHeartbeats 3200000 in
/-- Where the new word begins with the node's. -/
theorem put_on (k : List UInt8) (v : Int) (h : Bool) (c : Bool → Tr) (q : List UInt8) (x0 : Int) (hkq : k <+: q) (hq : BitsL q) (hl : q.length ≤ 128)
    (ih : k.length < q.length → ∀ p bs w, TrM w (c (side q k.length)) p bs → bs.Nodup → Calls Tryd.prog 20 #[ptrV p, .string (sb q), .int .i64 x0] w (PutP w (putR (c (side q k.length)) q x0) bs))
    (p : Option Nat) (bs : List Nat) (w : World) (hm : TrM w (.node k v h c) p bs) (hnd : bs.Nodup) :
    Calls Tryd.prog 20 #[ptrV p, .string (sb q), .int .i64 x0] w (PutP w (if k.length < q.length then .node k v h (updC c (side q k.length) (putR (c (side q k.length)) q x0)) else .node k x0 true c) bs) := by
  obtain ⟨b, ps, bb, rfl, rfl, hc, hk⟩ := hm
  rw [ptrV_some]
  have hkl := hkq.length_le
  have hmax : maxLen = 9223372036854775807 := by decide
  have HCOM := Lib.hid (fun w => common_any k q w (by omega) (by omega))
  rw [alike_of_pre hkq] at HCOM
  have hsk := sb_size k
  have hsq := sb_size q
  have HC := Lib.hid hc
  have HK := Lib.hid hk
  have HND := Lib.hid hnd
  have c0 := hc.get 0 _
  have hb := hc.lt
  by_cases hlt : k.length < q.length
  · rw [if_pos hlt]
    have HSIDE := Lib.hid (fun w => side_any q k.length w hq hlt (by omega))
    have HIH := Lib.hid (ih hlt)
    obtain ⟨s, hs⟩ : ∃ s, side q k.length = s := ⟨_, rfl⟩
    rw [hs] at HSIDE HIH ⊢
    obtain ⟨K, hK⟩ : ∃ K, k.length = K := ⟨_, rfl⟩
    obtain ⟨Q, hQ⟩ : ∃ Q, q.length = Q := ⟨_, rfl⟩
    obtain ⟨T, hT⟩ : ∃ T, putR (c s) q x0 = T := ⟨_, rfl⟩
    rw [hT] at HIH ⊢
    rw [hK] at HCOM HSIDE hsk hlt hkl
    rw [hQ] at hsq hlt hl hkl
    obtain ⟨KS, hKS⟩ : ∃ KS, sb k = KS := ⟨_, rfl⟩
    obtain ⟨QS, hQS⟩ : ∃ QS, sb q = QS := ⟨_, rfl⟩
    rw [hKS] at HCOM hsk HC c0
    rw [hQS] at HCOM hsq HSIDE HIH ⊢
    have d1 : ¬ (K : Int) < K := by omega
    have d2 : (K : Int) < Q := by omega
    have HPUT : Hid (∀ (p' : Option Nat) (wx : World), PutW w T (bb s) p' wx → PutW w (.node k v h (updC c s T)) (b :: (bb false ++ bb true)) (some b) (wx.setCell ⟨b, offB s, none⟩ (ptrV p'))) := Lib.hid (fun p' wx hp => (kid_put (by rw [hKS]; exact HC.out) HK.out HND.out hp).1)
    have HCS : Hid (∀ (p' : Option Nat) (wx : World), PutW w T (bb s) p' wx → Cs wx b [.string KS, .int .i64 v, .bool h, ptrV (ps false), ptrV (ps true)]) := Lib.hid (fun p' wx hp => HC.out |> fun hc => by rw [← hKS] at hc ⊢; exact kid_cs hc HND.out hp)
    have HCALL : Hid (∀ n, Calls Tryd.prog 20 #[ptrV (ps s), .string QS, .int .i64 x0] (w.drewN n) fun e w' => ∃ p', e = .returned (ptrV p') ∧ PutW w T (bb s) p' w') :=
      Lib.hid (fun n => (HIH.out (ps s) (bb s) (w.drewN n) ((HK.out s).drewN n) ((bb_nodup HND.out).1 s)).mono (fun e w' hp => by
        obtain ⟨p', h1, h2⟩ := hp.w
        exact ⟨p', h1, h2.drewN⟩))
    have HCX : Hid (∀ (v' : Value) (wx : World), ((∃ n, wx = w.drewN n) ∨ ∃ p', v' = ptrV p' ∧ PutW w T (bb s) p' wx) → Cs wx b [.string KS, .int .i64 v, .bool h, ptrV (ps false), ptrV (ps true)]) := Lib.hid (fun v' wx h => by
      rcases h with ⟨n, rfl⟩ | ⟨p', -, hp⟩
      · exact HC.out.drewN n
      · exact HCS.out p' wx hp)
    clear hK hQ hT hKS hQS hs hkl hlt hl hq hkq ih hk hnd hc HIH HK HND hmax
    cases s with
    | true =>
      simp only [if_true] at HSIDE
      go_enter Tryd.func20, Tryd.ntmps20
      go_upto_region 11 with (first
        | (go_at_call 26; refine (HCOM.out _).mono ?_; rintro e w1 ⟨rfl, n, rfl⟩; have c0 := (HC.out.drewN n).get 0 _; have hb := (HC.out.drewN n).lt)
        | (go_at_call 23; refine (HSIDE.out _).mono ?_; rintro e w1 ⟨rfl, rfl⟩))
      refine wp_region_expR tri_follows (fun x => by simp [putsF, Act.put]; rfl) (CallSt 10 14 (fun wx => ∃ n, wx = w.drewN n) (fun v wx => ∃ p', v = ptrV p' ∧ PutW w T (bb true) p' wx) (fun wx => PutW w (.node k v h (updC c true T)) (b :: (bb false ++ bb true)) (some b) wx))
        [isX (.pointer (some ⟨b, 0, none⟩)), isX (.int .i64 1), isX (.pointer (some ⟨b, 0, none⟩)), isX (.int .i64 1), isX (.pointer (some ⟨b, 0, none⟩)), isX (.pointer (some ⟨b, 3, none⟩)), isX (.pointer (some ⟨b, 4, none⟩)), isX (ptrV (ps true)), isX (.string QS), isX (.int .i64 x0), anyX, isX (.pointer (some ⟨b, 0, none⟩)), isX (.pointer (some ⟨b, 3, none⟩)), isX (.pointer (some ⟨b, 4, none⟩)), anyX]
        [10, 14] (by kernel_rfl) (by kernel_rfl) (by kernel_rfl) rfl ?_ (CallSt.start ⟨n + 1, rfl⟩) ?_ ?_ ?_
      · repeat (first | exact trivial | refine ⟨by first | exact isX_stays _ | exact anyX_stays, ?_⟩)
      · refine ⟨?_, ?_, ?_, ?_, ?_, ?_, ?_, ?_, ?_, ?_, skipped rfl, ?_, ?_, ?_, skipped rfl, trivial⟩
        all_goals
          intro _ d x wx hR hdi hsrc hd
          refine ⟨fun _ => ?_, fun hX => by simp at hX⟩
          have hcx := HCX.out _ _ (hR.has hdi (by decide))
          have hR' := Lib.hid (fun v => hR.plain v hdi (by decide) (by decide))
          have c3 := hcx.get 3 _
          have c4 := hcx.get 4 _
          have cl := hcx.lt
          clear hR hcx
          simp [wordX, isX] at hd ⊢
          go_simp; exact nextXR _ rfl rfl (hR'.out _) (Below.refl _ _)
      · refine ⟨unskipped rfl, unskipped rfl, unskipped rfl, unskipped rfl, unskipped rfl, unskipped rfl, unskipped rfl, unskipped rfl, unskipped rfl, unskipped rfl, ?_, unskipped rfl, unskipped rfl, unskipped rfl, ?_, trivial⟩
        · intro _ d x wx hR hdi hcl hsrc hd
          refine ⟨fun _ => ?_, fun hX => by simp at hX⟩
          have d7 : d 7 = true := SrcX.reach (K := 10) hcl hsrc rfl 20 7 (by decide) (by kernel_rfl)
          have d8 : d 8 = true := SrcX.reach (K := 10) hcl hsrc rfl 20 8 (by decide) (by kernel_rfl)
          have d9 : d 9 = true := SrcX.reach (K := 10) hcl hsrc rfl 20 9 (by decide) (by kernel_rfl)
          simp only [DoneX] at hd
          obtain ⟨-, -, -, -, -, -, -, g7, g8, g9, -⟩ := hd
          have h7 : x 7 = ptrV (ps true) := g7 d7
          have h8 : x 8 = .string QS := g8 d8
          have h9 : x 9 = .int .i64 x0 := g9 d9
          obtain ⟨m, rfl⟩ := hR.pre hdi (by decide)
          have hR' := Lib.hid (fun v w' hm => hR.call (v := v) (w' := w') hdi (by decide) hm)
          try dsimp only
          rw [h7, h8, h9]
          clear h7 h8 h9 g7 g8 g9 hR d7 d8 d9
          go_simp
          go_at_call 20
          refine (HCALL.out m).mono ?_
          rintro e wy ⟨p', rfl, hp⟩
          exact nextKR _ rfl trivial (hR'.out _ _ ⟨p', rfl, hp⟩) ⟨fun _ _ h => h, fun _ _ h => h, fun _ _ h => h, fun _ _ h => h, fun _ _ h => h, fun _ _ h => h, fun _ _ h => h, fun _ _ h => h, fun _ _ h => h, fun _ _ h => h, fun _ _ h => h, fun _ _ h => h, fun _ _ h => h, fun _ _ h => h, fun _ _ h => h, trivial⟩
        · intro _ d x wx hR hdi hcl hsrc hd
          refine ⟨fun _ => ?_, fun hX => by simp at hX⟩
          have hall : ∀ i, i < 14 → d i = true := fun i hi => SrcX.reach (K := 14) hcl hsrc rfl 20 i (by omega) (by revert i hi; decide +kernel)
          simp only [DoneX] at hd
          obtain ⟨-, -, -, -, -, -, -, -, -, -, -, -, -, g13, -⟩ := hd
          have h13 : x 13 = .pointer (some ⟨b, 4, none⟩)   := g13 (hall 13 (by decide))
          obtain ⟨p', h10, hp⟩ := hR.mid hdi (hall 10 (by decide))
          have hcx := HCS.out p' wx hp
          have HFIN := Lib.hid (HPUT.out p' wx hp)
          have c4 := hcx.get 4 _
          have f4 := hcx.froz 4 (by simp)
          have cl := hcx.lt
          have HALL := Lib.hid hall
          clear hcx hp hR hall
          try dsimp only
          rw [h13, h10]
          clear h13 h10 g13
          unfold ptrV at c4 HFIN ⊢
          go_simp
          exact nextKR undef rfl trivial (CallSt.store HALL.out undef HFIN.out) ⟨fun _ _ h => h, fun _ _ h => h, fun _ _ h => h, fun _ _ h => h, fun _ _ h => h, fun _ _ h => h, fun _ _ h => h, fun _ _ h => h, fun _ _ h => h, fun _ _ h => h, fun _ _ h => h, fun _ _ h => h, fun _ _ h => h, fun _ _ h => h, fun _ _ h => h, trivial⟩
      · intro y wy d hall hR hx
        have HF := Lib.hid (hR.fin (hall 14 (by decide)))
        clear hx hR hall
        go_wp2_with fail
        go_ret
        exact HF.out.p
    | false =>
      simp only [Bool.false_eq_true, if_false] at HSIDE
      go_enter Tryd.func20, Tryd.ntmps20
      go_upto_region 11 with (first
        | (go_at_call 26; refine (HCOM.out _).mono ?_; rintro e w1 ⟨rfl, n, rfl⟩; have c0 := (HC.out.drewN n).get 0 _; have hb := (HC.out.drewN n).lt)
        | (go_at_call 23; refine (HSIDE.out _).mono ?_; rintro e w1 ⟨rfl, rfl⟩))
      refine wp_region_expR tri_follows (fun x => by simp [putsF, Act.put]; rfl) (CallSt 10 14 (fun wx => ∃ n, wx = w.drewN n) (fun v wx => ∃ p', v = ptrV p' ∧ PutW w T (bb false) p' wx) (fun wx => PutW w (.node k v h (updC c false T)) (b :: (bb false ++ bb true)) (some b) wx))
        [isX (.pointer (some ⟨b, 0, none⟩)), isX (.int .i64 0), isX (.pointer (some ⟨b, 0, none⟩)), isX (.int .i64 0), isX (.pointer (some ⟨b, 0, none⟩)), isX (.pointer (some ⟨b, 3, none⟩)), isX (.pointer (some ⟨b, 3, none⟩)), isX (ptrV (ps false)), isX (.string QS), isX (.int .i64 x0), anyX, isX (.pointer (some ⟨b, 0, none⟩)), isX (.pointer (some ⟨b, 3, none⟩)), isX (.pointer (some ⟨b, 3, none⟩)), anyX]
        [10, 14] (by kernel_rfl) (by kernel_rfl) (by kernel_rfl) rfl ?_ (CallSt.start ⟨n + 1, rfl⟩) ?_ ?_ ?_
      · repeat (first | exact trivial | refine ⟨by first | exact isX_stays _ | exact anyX_stays, ?_⟩)
      · refine ⟨?_, ?_, ?_, ?_, ?_, ?_, ?_, ?_, ?_, ?_, skipped rfl, ?_, ?_, ?_, skipped rfl, trivial⟩
        all_goals
          intro _ d x wx hR hdi hsrc hd
          refine ⟨fun _ => ?_, fun hX => by simp at hX⟩
          have hcx := HCX.out _ _ (hR.has hdi (by decide))
          have hR' := Lib.hid (fun v => hR.plain v hdi (by decide) (by decide))
          have c3 := hcx.get 3 _
          have c4 := hcx.get 4 _
          have cl := hcx.lt
          clear hR hcx
          simp [wordX, isX] at hd ⊢
          go_simp; exact nextXR _ rfl rfl (hR'.out _) (Below.refl _ _)
      · refine ⟨unskipped rfl, unskipped rfl, unskipped rfl, unskipped rfl, unskipped rfl, unskipped rfl, unskipped rfl, unskipped rfl, unskipped rfl, unskipped rfl, ?_, unskipped rfl, unskipped rfl, unskipped rfl, ?_, trivial⟩
        · intro _ d x wx hR hdi hcl hsrc hd
          refine ⟨fun _ => ?_, fun hX => by simp at hX⟩
          have d7 : d 7 = true := SrcX.reach (K := 10) hcl hsrc rfl 20 7 (by decide) (by kernel_rfl)
          have d8 : d 8 = true := SrcX.reach (K := 10) hcl hsrc rfl 20 8 (by decide) (by kernel_rfl)
          have d9 : d 9 = true := SrcX.reach (K := 10) hcl hsrc rfl 20 9 (by decide) (by kernel_rfl)
          simp only [DoneX] at hd
          obtain ⟨-, -, -, -, -, -, -, g7, g8, g9, -⟩ := hd
          have h7 : x 7 = ptrV (ps false) := g7 d7
          have h8 : x 8 = .string QS := g8 d8
          have h9 : x 9 = .int .i64 x0 := g9 d9
          obtain ⟨m, rfl⟩ := hR.pre hdi (by decide)
          have hR' := Lib.hid (fun v w' hm => hR.call (v := v) (w' := w') hdi (by decide) hm)
          try dsimp only
          rw [h7, h8, h9]
          clear h7 h8 h9 g7 g8 g9 hR d7 d8 d9
          go_simp
          go_at_call 20
          refine (HCALL.out m).mono ?_
          rintro e wy ⟨p', rfl, hp⟩
          exact nextKR _ rfl trivial (hR'.out _ _ ⟨p', rfl, hp⟩) ⟨fun _ _ h => h, fun _ _ h => h, fun _ _ h => h, fun _ _ h => h, fun _ _ h => h, fun _ _ h => h, fun _ _ h => h, fun _ _ h => h, fun _ _ h => h, fun _ _ h => h, fun _ _ h => h, fun _ _ h => h, fun _ _ h => h, fun _ _ h => h, fun _ _ h => h, trivial⟩
        · intro _ d x wx hR hdi hcl hsrc hd
          refine ⟨fun _ => ?_, fun hX => by simp at hX⟩
          have hall : ∀ i, i < 14 → d i = true := fun i hi => SrcX.reach (K := 14) hcl hsrc rfl 20 i (by omega) (by revert i hi; decide +kernel)
          simp only [DoneX] at hd
          obtain ⟨-, -, -, -, -, -, -, -, -, -, -, -, -, g13, -⟩ := hd
          have h13 : x 13 = .pointer (some ⟨b, 3, none⟩)   := g13 (hall 13 (by decide))
          obtain ⟨p', h10, hp⟩ := hR.mid hdi (hall 10 (by decide))
          have hcx := HCS.out p' wx hp
          have HFIN := Lib.hid (HPUT.out p' wx hp)
          have c4 := hcx.get 3 _
          have f4 := hcx.froz 3 (by simp)
          have cl := hcx.lt
          have HALL := Lib.hid hall
          clear hcx hp hR hall
          try dsimp only
          rw [h13, h10]
          clear h13 h10 g13
          unfold ptrV at c4 HFIN ⊢
          go_simp
          exact nextKR undef rfl trivial (CallSt.store HALL.out undef HFIN.out) ⟨fun _ _ h => h, fun _ _ h => h, fun _ _ h => h, fun _ _ h => h, fun _ _ h => h, fun _ _ h => h, fun _ _ h => h, fun _ _ h => h, fun _ _ h => h, fun _ _ h => h, fun _ _ h => h, fun _ _ h => h, fun _ _ h => h, fun _ _ h => h, fun _ _ h => h, trivial⟩
      · intro y wy d hall hR hx
        have HF := Lib.hid (hR.fin (hall 14 (by decide)))
        clear hx hR hall
        go_wp2_with fail
        go_ret
        exact HF.out.p
  · rw [if_neg hlt]
    have hke : k = q := hkq.eq_of_length (by omega)
    subst hke
    have HFIN := Lib.hid (fun n => (own_put hc hk hnd n x0 true).1)
    obtain ⟨K, hK⟩ : ∃ K, k.length = K := ⟨_, rfl⟩
    rw [hK] at HCOM hsk
    obtain ⟨KS, hKS⟩ : ∃ KS, sb k = KS := ⟨_, rfl⟩
    rw [hKS] at HCOM hsk HC c0 ⊢
    have d1 : ¬ (K : Int) < K := by omega
    clear hK hKS hkl hlt hl hq hkq ih hk hnd hc HK HND hmax hsq
    go_enter Tryd.func20, Tryd.ntmps20
    go_wp2_with (go_at_call 26; refine (HCOM.out _).mono ?_; rintro e w1 ⟨rfl, n, rfl⟩; have c0 := (HC.out.drewN n).get 0 _; have c1 := (HC.out.drewN n).get 1 _; have c2 := (HC.out.drewN n).get 2 _; have f1 := (HC.out.drewN n).froz 1 (by simp); have f2 := (HC.out.drewN n).froz 2 (by simp); have hb := (HC.out.drewN n).lt)
    go_ret
    exact (HFIN.out n).p
end Go.Proofs.YtgfoahednmipkaaDoor
