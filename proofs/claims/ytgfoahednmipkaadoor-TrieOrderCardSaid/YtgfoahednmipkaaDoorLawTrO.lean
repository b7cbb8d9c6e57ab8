/- The walk of TrieOrder. -/
import Derived.Test.YtgfoahednmipkaaDoorTrN
namespace Go.Proofs.YtgfoahednmipkaaDoor
open Go.RowKit
set_option linter.unusedVariables false
set_option maxRecDepth 20000
attribute [local simp] putsF isV wordOf Deps Region.binds Region.wanted Act.put wantedX isB
/-- Two tries: of the first deeds, and of the last ones. -/
structure OrdS (w : World) (a b : Nat) (z : List Ints4T) (k n : Nat) (wr : World) (t u : Tr) (bs cs : List Nat) : Prop where
  ta : TrL w w.heap.size a bs t wr
  tb : TrL w w.heap.size b cs u wr
  ab : a ≠ b
  abs : a ∉ cs
  bbs : b ∉ bs
  bcs : ∀ x ∈ bs, x ∉ cs
  ha : ∀ q, (getR t q).isSome = true ↔ ∃ i, i < k ∧ q = keyZ z i
  hb : ∀ q, (getR u q).isSome = true ↔ ∃ i, i < k ∧ q = keyZ z (n - 1 - i)
def OrdE (w : World) (a b : Nat) (z : List Ints4T) (k n : Nat) (wr : World) : Prop := ∃ t u bs cs, OrdS w a b z k n wr t u bs cs
theorem OrdS.fewA {w wr : World} {a b k n : Nat} {z : List Ints4T} {t u : Tr} {bs cs : List Nat} (h : OrdS w a b z k n wr t u bs cs) (hi' : k ≤ z.length)
    (hok : ∀ a ∈ z, (Lit.int .u8 a.1).wf = true ∧ (Lit.int .u16 a.2.1).wf = true ∧ (Lit.int .u8 a.2.2.1).wf = true ∧ (Lit.int .i64 a.2.2.2).wf = true) : t.keys.length ≤ 917504 :=
  keys_few h.ta.ok h.ta.fit fun q hs => by
    obtain ⟨i, h2, rfl⟩ := (h.ha q).1 hs
    exact keyZ_key (by omega) hok
theorem OrdS.fewB {w wr : World} {a b k n : Nat} {z : List Ints4T} {t u : Tr} {bs cs : List Nat} (h : OrdS w a b z k n wr t u bs cs) (hi' : k ≤ n) (hn : n = z.length)
    (hok : ∀ a ∈ z, (Lit.int .u8 a.1).wf = true ∧ (Lit.int .u16 a.2.1).wf = true ∧ (Lit.int .u8 a.2.2.1).wf = true ∧ (Lit.int .i64 a.2.2.2).wf = true) : u.keys.length ≤ 917504 :=
  keys_few h.tb.ok h.tb.fit fun q hs => by
    obtain ⟨i, h2, rfl⟩ := (h.hb q).1 hs
    exact keyZ_key (by omega) hok
theorem OrdS.drewN {w wr : World} {a b k n : Nat} {z : List Ints4T} {t u : Tr} {bs cs : List Nat} (h : OrdS w a b z k n wr t u bs cs) (m : Nat) : OrdS w a b z k n (wr.drewN m) t u bs cs :=
  ⟨h.ta.below (below_drewN (Below.refl _ _) m), h.tb.below (below_drewN (Below.refl _ _) m), h.ab, h.abs, h.bbs, h.bcs, h.ha, h.hb⟩
theorem OrdS.below {w wr w' : World} {a b k n : Nat} {z : List Ints4T} {t u : Tr} {bs cs : List Nat} (h : OrdS w a b z k n wr t u bs cs) (hb : Below wr.heap.size wr w') : OrdS w a b z k n w' t u bs cs :=
  ⟨h.ta.below hb, h.tb.below hb, h.ab, h.abs, h.bbs, h.bcs, h.ha, h.hb⟩
/-- The first trie has one word more. -/
structure OrdM (w : World) (a b : Nat) (z : List Ints4T) (k n : Nat) (wr : World) (t u : Tr) (bs cs : List Nat) : Prop where
  ta : TrL w w.heap.size a bs t wr
  tb : TrL w w.heap.size b cs u wr
  ab : a ≠ b
  abs : a ∉ cs
  bbs : b ∉ bs
  bcs : ∀ x ∈ bs, x ∉ cs
  ha : ∀ q, (getR t q).isSome = true ↔ ∃ i, i < k + 1 ∧ q = keyZ z i
  hb : ∀ q, (getR u q).isSome = true ↔ ∃ i, i < k ∧ q = keyZ z (n - 1 - i)
def OrdME (w : World) (a b : Nat) (z : List Ints4T) (k n : Nat) (wr : World) : Prop := ∃ t u bs cs, OrdM w a b z k n wr t u bs cs
theorem OrdM.below {w wr w' : World} {a b k n : Nat} {z : List Ints4T} {t u : Tr} {bs cs : List Nat} (h : OrdM w a b z k n wr t u bs cs) (hb : Below wr.heap.size wr w') : OrdM w a b z k n w' t u bs cs :=
  ⟨h.ta.below hb, h.tb.below hb, h.ab, h.abs, h.bbs, h.bcs, h.ha, h.hb⟩
theorem OrdM.fewB {w wr : World} {a b k n : Nat} {z : List Ints4T} {t u : Tr} {bs cs : List Nat} (h : OrdM w a b z k n wr t u bs cs) (hi' : k ≤ n) (hn : n = z.length)
    (hok : ∀ a ∈ z, (Lit.int .u8 a.1).wf = true ∧ (Lit.int .u16 a.2.1).wf = true ∧ (Lit.int .u8 a.2.2.1).wf = true ∧ (Lit.int .i64 a.2.2.2).wf = true) : u.keys.length ≤ 917504 :=
  keys_few h.tb.ok h.tb.fit fun q hs => by
    obtain ⟨i, h2, rfl⟩ := (h.hb q).1 hs
    exact keyZ_key (by omega) hok
theorem OrdS.putA {w wr w' : World} {a b k n : Nat} {z : List Ints4T} {t u : Tr} {bs cs : List Nat} {x : Int} (h : OrdS w a b z k n wr t u bs cs) (hp : PutQ w w.heap.size a bs t (keyZ z k) x wr w') : OrdME w a b z k n w' := by
  obtain ⟨t', bs', h1, h2, -, ho, hbs⟩ := hp
  have hl := h.tb.lts
  have hlb := h.tb.lt
  refine ⟨t', u, bs', cs, h1, h.tb.only ho (fun e => ?_) (fun y hy e => ?_) (fun y e => ?_), h.ab, h.abs, fun e => ?_, fun y hy e => ?_, fun q => ?_, h.hb⟩
  · rcases e with e | e
    · exact h.ab e.symm
    · exact h.bbs e
  · rcases e with e | e
    · subst e; exact h.abs hy
    · exact h.bcs y e hy
  · rcases e with e | e
    · have := h.ta.base; omega
    · exact h.ta.own y e
  · rcases hbs b e with e | e
    · exact h.bbs e
    · omega
  · rcases hbs y hy with e2 | e2
    · exact h.bcs y e2 e
    · have := hl y e; omega
  · rw [h2]
    constructor
    · intro hs
      split at hs
      · rename_i e; exact ⟨k, by omega, e⟩
      · obtain ⟨i, h4, h5⟩ := (h.ha q).1 hs
        exact ⟨i, by omega, h5⟩
    · rintro ⟨i, h4, h5⟩
      split
      · rfl
      · rename_i e
        have : i ≠ k := fun e2 => e (by rw [h5, e2])
        exact (h.ha q).2 ⟨i, by omega, h5⟩
theorem OrdM.putB {w wr w' : World} {a b k n : Nat} {z : List Ints4T} {t u : Tr} {bs cs : List Nat} {x : Int} (h : OrdM w a b z k n wr t u bs cs) (hp : PutQ w w.heap.size b cs u (keyZ z (n - 1 - k)) x wr w') : OrdE w a b z (k + 1) n w' := by
  obtain ⟨u', cs', h1, h2, -, ho, hbs⟩ := hp
  have hl := h.ta.lts
  have hlb := h.ta.lt
  refine ⟨t, u', bs, cs', h.ta.only ho (fun e => ?_) (fun y hy e => ?_) (fun y e => ?_), h1, h.ab, fun e => ?_, h.bbs, fun y hy e => ?_, h.ha, fun q => ?_⟩
  · rcases e with e | e
    · exact h.ab e
    · exact h.abs e
  · rcases e with e | e
    · subst e; exact h.bbs hy
    · exact h.bcs y hy e
  · rcases e with e | e
    · have := h.tb.base; omega
    · exact h.tb.own y e
  · rcases hbs a e with e | e
    · exact h.abs e
    · omega
  · rcases hbs y e with e2 | e2
    · exact h.bcs y hy e2
    · have := hl y hy; omega
  · rw [h2]
    constructor
    · intro hs
      split at hs
      · rename_i e; exact ⟨k, by omega, e⟩
      · obtain ⟨i, h4, h5⟩ := (h.hb q).1 hs
        exact ⟨i, by omega, h5⟩
    · rintro ⟨i, h4, h5⟩
      split
      · rfl
      · rename_i e
        have : i ≠ k := fun e2 => e (by rw [h5, e2])
        exact (h.hb q).2 ⟨i, by omega, h5⟩
/-- Both have the same words in the end. -/
theorem OrdS.same {w wr : World} {a b n : Nat} {z : List Ints4T} {t u : Tr} {bs cs : List Nat} (h : OrdS w a b z n n wr t u bs cs) : ∀ q, (getR t q).isSome = (getR u q).isSome := fun q => by
  rw [Bool.eq_iff_iff, h.ha, h.hb]
  constructor
  · rintro ⟨i, h1, h2⟩; exact ⟨n - 1 - i, by omega, by rw [h2]; congr 1; omega⟩
  · rintro ⟨i, h1, h2⟩; exact ⟨n - 1 - i, by omega, h2⟩
theorem same_has {t u : Tr} (ht : t.Ok []) (hu : u.Ok []) (ft : t.Fit) (fu : u.Fit) (h : ∀ q, (getR t q).isSome = (getR u q).isSome) (q : List UInt8) : (∃ x, t.Has q x) ↔ ∃ x, u.Has q x := by
  rw [← keys_mem, ← keys_mem, keys_get ht ft, keys_get hu fu, h]
theorem same_keys {t u : Tr} (ht : t.Ok []) (hu : u.Ok []) (ft : t.Fit) (fu : u.Fit) (h : ∀ q, (getR t q).isSome = (getR u q).isSome) : t.keys.length = u.keys.length :=
  len_of_mem (keys_nodup ht) (keys_nodup hu) fun q => by rw [keys_get ht ft, keys_get hu fu, h]
/-- How long the longest word is, by which words there are. -/
theorem same_long {t u : Tr} (ht : t.Ok []) (hu : u.Ok []) (ft : t.Fit) (fu : u.Fit) (h : ∀ q, (getR t q).isSome = (getR u q).isSome) {q : List UInt8} (hm : mayL q = true) :
    ((if mayL q then longR t q none else none) = none ∧ (if mayL q then longR u q none else none) = none) ∨ ∃ n x y, (if mayL q then longR t q none else none) = some (n, x) ∧ (if mayL q then longR u q none else none) = some (n, y) := by
  rw [if_pos hm, if_pos hm]
  have hg : ∀ m, (∃ x, t.Has (q.take m) x) ↔ ∃ x, u.Has (q.take m) x := fun m => same_has ht hu ft fu h _
  rcases long_spec (q := q) (b := none) ht with ⟨n, x, e1, e2, e3, e4⟩ | ⟨e1, e2⟩
  · obtain ⟨x', hx'⟩ := (hg n).1 ⟨x, e3⟩
    rcases long_spec (q := q) (b := none) hu with ⟨k, y, f1, f2, f3, f4⟩ | ⟨f1, f2⟩
    · obtain ⟨y', hy'⟩ := (hg k).2 ⟨y, f3⟩
      have h1 := f4 n x' e2 hx'
      have h2 := e4 k y' f2 hy'
      have : k = n := by omega
      subst this
      exact .inr ⟨k, x, y, e1, f1⟩
    · exact absurd hx' (f2 n x' e2)
  · rcases long_spec (q := q) (b := none) hu with ⟨k, y, f1, f2, f3, f4⟩ | ⟨f1, f2⟩
    · obtain ⟨y', hy'⟩ := (hg k).2 ⟨y, f3⟩
      exact absurd hy' (e2 k y' f2)
    · exact .inl ⟨e1, f1⟩
set_option maxHeartbeats 6400000 in
theorem trieOrder_walk (w : World) (A : Option Addr) (n c : Nat) (z : List Ints4T) (hS : Ints4 .u8 .u16 .u8 .i64 w A n c z) :
    Calls Tryd.prog 5 #[.slice A n c] w fun e w' => e = .returned (.bool true) ∧ Below w.heap.size w w' := by
  have hnm : n ≤ 9223372036854775807 := Nat.le_trans hS.le (Nat.le_trans hS.max (by decide))
  have HS := Lib.hid hS
  clear hS
  go_enter Tryd.func5, Tryd.ntmps5
  go_wp2_with fail
  refine (awake16_any _).mono ?_
  rintro e w1 ⟨rfl, hb1⟩
  have HB1 := Lib.hid hb1
  clear hb1
  have h0 : Hid (OrdE w w1.heap.size (w1.heap.size + 1) z 0 n ((w1.alloc (.cells #[.pointer none, .int .i64 0] 28)).alloc (.cells #[.pointer none, .int .i64 0] 28))) := Lib.hid (by
    have t1 := TrL.start w1 28 w _ HB1.out.size HB1.out
    have hz : (w1.alloc (.cells #[.pointer none, .int .i64 0] 28)).heap.size = w1.heap.size + 1 := by simp
    have t2 := TrL.start (w1.alloc (.cells #[.pointer none, .int .i64 0] 28)) 28 w w.heap.size (by rw [hz]; have := HB1.out.size; omega) t1.bel
    rw [hz] at t2
    have hn : ∀ q, getR .nil q = none := fun q => by unfold getR; split <;> rfl
    refine ⟨.nil, .nil, [], [], t1.below ((Below.refl _ _).alloc (Nat.le_refl _) _), t2, by omega, by simp, by simp, by simp, fun q => ?_, fun q => ?_⟩
    · rw [hn]; simp
    · rw [hn]; simp)
  go_wp2_with fail
  generalize ((w1.alloc (.cells #[.pointer none, .int .i64 0] 28)).alloc (.cells #[.pointer none, .int .i64 0] 28)) = w2 at *
  obtain ⟨a, ha⟩ : ∃ a, w1.heap.size = a := ⟨_, rfl⟩
  obtain ⟨b, hb⟩ : ∃ b, a + 1 = b := ⟨_, rfl⟩
  rw [ha] at h0 ⊢
  rw [hb] at h0 ⊢
  clear ha hb HB1
  go_loopw [23] (fun i wr => ∃ (k : Nat), k ≤ n ∧ i = .int .i64 k ∧ Hid (OrdE w a b z k n wr)) (fun i _ => n - (intOf i).toNat)
  case atStart => exact ⟨0, Nat.zero_le _, rfl, h0⟩
  case round =>
    obtain ⟨k, hk, rfl, HR⟩ := hrel
    clear h0
    by_cases hkn : k < n
    · have hkn' : (k : Int) < n := by omega
      have hk0 : ¬ (k : Int) < 0 := by omega
      obtain ⟨g0, off, hAe, hg0, hcells⟩ := HS.out.cells (by omega)
      subst hAe
      have hkz : k < z.length := by rw [HS.out.len]; exact hkn
      obtain ⟨t, u, bs, cs, hO⟩ := HR.out
      have hbr : Below w.heap.size w wr := hO.ta.bel
      obtain ⟨o1, o2, o3, o4⟩ := HS.out.ok _ (List.getElem_mem hkz)
      obtain ⟨d0, d1, d2, d3⟩ := hcells k _ (List.getElem?_eq_getElem hkz)
      obtain ⟨⟨p0, p1, p2, p3⟩, hp⟩ : ∃ p, z[k] = p := ⟨_, rfl⟩
      rw [hp] at o1 o2 o3 d0 d1 d2 d3
      simp only at o1 o2 o3 d0 d1 d2 d3
      obtain ⟨p0, rfl, hp0⟩ := u8_nat o1
      obtain ⟨p1, rfl, hp1⟩ := u16_nat o2
      obtain ⟨p2, rfl, hp2⟩ := u8_nat o3
      have HKY : Hid (keyZ z k = keyL p1 p2) := Lib.hid (keyZ_at hkz hp)
      have e0 := (hbr.cell (p := ⟨g0, off + k * 4, none⟩) hg0).trans d0
      have e1 := (hbr.cell (p := ⟨g0, off + k * 4 + 1, none⟩) hg0).trans d1
      have e2 := (hbr.cell (p := ⟨g0, off + k * 4 + 2, none⟩) hg0).trans d2
      have e3 := (hbr.cell (p := ⟨g0, off + k * 4 + 3, none⟩) hg0).trans d3
      obtain ⟨r, hr⟩ : ∃ r : Nat, (n : Int) - 1 - k = r := ⟨n - 1 - k, by omega⟩
      obtain ⟨n1, hn1⟩ : ∃ n1 : Nat, (n : Int) - 1 = n1 := ⟨n - 1, by omega⟩
      have hrn : r = n - 1 - k := by omega
      have hr' : (n1 : Int) - k = r := by omega
      have hrl : (r : Int) < n := by omega
      have hkzb : r < z.length := by rw [HS.out.len]; omega
      obtain ⟨o1b, o2b, o3b, o4b⟩ := HS.out.ok _ (List.getElem_mem hkzb)
      obtain ⟨d0b, d1b, d2b, d3b⟩ := hcells r _ (List.getElem?_eq_getElem hkzb)
      obtain ⟨⟨p0b, p1b, p2b, p3b⟩, hpb⟩ : ∃ p, z[r] = p := ⟨_, rfl⟩
      rw [hpb] at o1b o2b o3b d0b d1b d2b d3b
      simp only at o1b o2b o3b d0b d1b d2b d3b
      obtain ⟨p0b, rfl, hp0b⟩ := u8_nat o1b
      obtain ⟨p1b, rfl, hp1b⟩ := u16_nat o2b
      obtain ⟨p2b, rfl, hp2b⟩ := u8_nat o3b
      have HKYb : Hid (keyZ z r = keyL p1b p2b) := Lib.hid (keyZ_at hkzb hpb)
      have e0b := (hbr.cell (p := ⟨g0, off + r * 4, none⟩) hg0).trans d0b
      have e1b := (hbr.cell (p := ⟨g0, off + r * 4 + 1, none⟩) hg0).trans d1b
      have e2b := (hbr.cell (p := ⟨g0, off + r * 4 + 2, none⟩) hg0).trans d2b
      have e3b := (hbr.cell (p := ⟨g0, off + r * 4 + 3, none⟩) hg0).trans d3b
      have hgr : g0 < wr.heap.size := Nat.lt_of_lt_of_le hg0 hbr.size
      have hfa := hO.fewA (by rw [HS.out.len]; omega) HS.out.ok
      have HO := Lib.hid hO
      have HPUT := Lib.hid (fun m => (hO.drewN m).ta.putAny (keyL p1 p2) 7 (keyL_may p1 p2) (Nat.le_trans hfa (by decide)))
      have HGW : Hid (g0 < w.heap.size) := Lib.hid hg0
      have E1B : Hid (w.cell? ⟨g0, off + r * 4, none⟩ = some (.int .u8 (p0b : Nat)) ∧ w.cell? ⟨g0, off + r * 4 + 1, none⟩ = some (.int .u16 (p1b : Nat)) ∧ w.cell? ⟨g0, off + r * 4 + 2, none⟩ = some (.int .u8 (p2b : Nat)) ∧ w.cell? ⟨g0, off + r * 4 + 3, none⟩ = some (.int .i64 p3b)) := Lib.hid ⟨d0b, d1b, d2b, d3b⟩
      have HRN := Lib.hid hrn
      clear hcells hkz o1 o2 o3 o4 d0 d1 d2 d3 hp hkzb o1b o2b o3b o4b d0b d1b d2b d3b hpb e0b e1b e2b e3b hO hfa HR hg0 hr hrn e0 e3
      go_upto_region 7 with fail
      refine wp_region_store tri_follows (fun x => by simp [putsF, Act.put]; rfl) (fun v => ∃ m, v = wr.drewN m) (fun v => OrdME w a b z k n v) (fun _ _ => True)
        [isV (.pointer (some ⟨a, 0, none⟩)), isV (.slice (some ⟨g0, off, none⟩) n c), isV (.int .i64 k), isV (.pointer (some ⟨g0, off + k * 4, none⟩)), isV (.pointer (some ⟨g0, off + k * 4 + 1, none⟩)), isV (.int .u16 p1), isV (.slice (some ⟨g0, off, none⟩) n c), isV (.int .i64 k), isV (.pointer (some ⟨g0, off + k * 4, none⟩)), isV (.pointer (some ⟨g0, off + k * 4 + 2, none⟩)), isV (.int .u8 p2), isV (.string (sb (keyL p1 p2))), fun _ _ => True]
        12 [] (by kernel_rfl) (by kernel_rfl) (by kernel_rfl) rfl (by kernel_rfl) (by kernel_rfl) ?_ (fun _ => trivial) ⟨1, rfl⟩ ?_ ?_ ?_ ?_
      · repeat (first | exact trivial | refine ⟨isV_stayX _ _, ?_⟩ | refine ⟨fun _ _ _ _ _ => trivial, ?_⟩)
      · refine ⟨?_, ?_, ?_, ?_, ?_, ?_, ?_, ?_, ?_, ?_, ?_, ?_, skipped rfl, trivial⟩
        all_goals
          intro _ x wq hR hd
          refine ⟨fun _ => ?_, fun hX => by simp at hX⟩
          obtain ⟨m, rfl⟩ := hR
          simp at hd ⊢
        · go_simp; exact next_of _ rfl rfl ⟨m, rfl⟩ trivial
        · go_simp; exact next_of _ rfl rfl ⟨m, rfl⟩ trivial
        · go_simp; exact next_of _ rfl rfl ⟨m, rfl⟩ trivial
        · obtain ⟨hd1, hd2⟩ := hd
          go_simp; exact next_of _ rfl rfl ⟨m, rfl⟩ trivial
        · go_simp; exact next_of _ rfl rfl ⟨m, rfl⟩ trivial
        · go_simp; exact next_of _ rfl rfl ⟨m, rfl⟩ trivial
        · go_simp; exact next_of _ rfl rfl ⟨m, rfl⟩ trivial
        · go_simp; exact next_of _ rfl rfl ⟨m, rfl⟩ trivial
        · obtain ⟨hd1, hd2⟩ := hd
          go_simp; exact next_of _ rfl rfl ⟨m, rfl⟩ trivial
        · go_simp; exact next_of _ rfl rfl ⟨m, rfl⟩ trivial
        · go_simp; exact next_of _ rfl rfl ⟨m, rfl⟩ trivial
        · obtain ⟨hd1, hd2⟩ := hd
          go_simp
          go_at_call 10
          refine (key16_any p1 p2 hp1 hp2 _).mono ?_
          rintro e w2 ⟨rfl, rfl⟩
          exact next_of _ rfl rfl ⟨m, rfl⟩ trivial
      · repeat (first | exact trivial | refine ⟨skipped rfl, ?_⟩)
      · intro x wq hR hx o ho
        obtain ⟨m, rfl⟩ := hR
        simp [AllWordsIf] at hx
        obtain ⟨h0, -, -, -, -, -, -, -, -, -, -, h11⟩ := hx
        obtain rfl := Option.some.inj ho
        rw [h0, h11]
        clear h0 h11
        go_simp
        go_at_call 12
        refine (HPUT.out m).mono ?_
        rintro e w3 ⟨rfl, hput⟩
        exact next_of _ rfl trivial ((HO.out.drewN m).putA (by rw [HKY.out]; exact hput)) trivial
      · intro x wq hR hx
        obtain ⟨t2, u2, bs2, cs2, hM⟩ := hR
        have hbq := hM.ta.bel
        obtain ⟨f0, f1, f2, f3⟩ := E1B.out
        have e0 := (hbq.cell (p := ⟨g0, off + r * 4, none⟩) HGW.out).trans f0
        have e1b := (hbq.cell (p := ⟨g0, off + r * 4 + 1, none⟩) HGW.out).trans f1
        have e2b := (hbq.cell (p := ⟨g0, off + r * 4 + 2, none⟩) HGW.out).trans f2
        have e3 := (hbq.cell (p := ⟨g0, off + r * 4 + 3, none⟩) HGW.out).trans f3
        have hgq : g0 < wq.heap.size := Nat.lt_of_lt_of_le HGW.out hbq.size
        have HCA : Hid (Cs (wq.alloc (.cells #[.int .u8 p0b, .int .u16 p1b, .int .u8 p2b, .int .i64 p3b] 32)) wq.heap.size [.int .u8 p0b, .int .u16 p1b, .int .u8 p2b, .int .i64 p3b]) := Lib.hid (Cs.new wq _ _ _)
        have HM := Lib.hid (hM.below ((Below.refl wq.heap.size wq).alloc (Nat.le_refl _) (.cells #[.int .u8 p0b, .int .u16 p1b, .int .u8 p2b, .int .i64 p3b] 32)))
        have hfb := hM.fewB hk HS.out.len.symm HS.out.ok
        have HPB := Lib.hid (HM.out.tb.putAny (keyL p1b p2b) 7 (keyL_may p1b p2b) (Nat.le_trans hfb (by decide)))
        clear f0 f1 f2 f3 hbq hM hfb hx e1 e2 hgr HPUT HO
        go_wp2_with fail
        generalize (wq.alloc (.cells #[.int .u8 p0b, .int .u16 p1b, .int .u8 p2b, .int .i64 p3b] 32)) = wx at *
        refine (key16_any p1b p2b hp1b hp2b _).mono ?_
        rintro e w3 ⟨rfl, rfl⟩
        go_wp2_with fail
        refine HPB.out.mono ?_
        rintro e w4 ⟨rfl, hput⟩
        have HNEW : Hid (OrdE w a b z (k + 1) n w4) := Lib.hid (HM.out.putB (by rw [← HRN.out, HKYb.out]; exact hput))
        clear hput HPB HM HCA
        go_wp2_with fail
        go_roundw
        case rel => exact ⟨k + 1, by omega, by go_num, HNEW⟩
        case measure => simp [intOf]; omega
    · obtain rfl : k = n := by omega
      have hkn' : ¬ (k : Int) < k := by omega
      obtain ⟨t, u, bs, cs, hO⟩ := HR.out
      have HO := Lib.hid hO
      have hsm := hO.same
      have HSAME := Lib.hid hsm
      have hk1 := same_keys hO.ta.ok hO.tb.ok hO.ta.fit hO.tb.fit hsm
      have hk2 := nodes_same hO.ta.ok hO.tb.ok (same_has hO.ta.ok hO.tb.ok hO.ta.fit hO.tb.fit hsm)
      have HFA := Lib.hid (hO.fewA (by rw [HS.out.len]; omega) HS.out.ok)
      have HFB := Lib.hid (hO.fewB (Nat.le_refl _) HS.out.len.symm HS.out.ok)
      have HLA := Lib.hid hO.ta.len
      have HLB := Lib.hid hO.tb.len
      obtain ⟨K, hK⟩ : ∃ K, u.keys.length = K := ⟨_, rfl⟩
      obtain ⟨N, hN⟩ : ∃ N, u.nodes = N := ⟨_, rfl⟩
      have HNA := Lib.hid (hO.ta.nodesAny HFA.out)
      have HNB := Lib.hid (fun m => (hO.drewN m).tb.nodesAny HFB.out)
      rw [hk1, hK] at HLA
      rw [hK] at HLB
      rw [hk2, hN] at HNA
      rw [hN] at HNB
      clear hk1 hk2 hK hN hsm hO HR
      have d8 : ((K : Int) != (K : Int)) = false := by simp
      have d9 : ((N : Int) != (N : Int)) = false := by simp
      go_wp2_with fail
      refine HLA.out.mono ?_
      rintro e w3 ⟨rfl, rfl⟩
      go_wp2_with fail
      refine HLB.out.mono ?_
      rintro e w4 ⟨rfl, rfl⟩
      go_wp2_with fail
      refine HNA.out.mono ?_
      rintro e w5 ⟨rfl, m, rfl⟩
      go_wp2_with fail
      refine (HNB.out m).mono ?_
      rintro e w6 ⟨rfl, m2, rfl⟩
      have HO2 := Lib.hid ((HO.out.drewN m).drewN m2)
      clear HO HNA HNB HLA HLB d8 d9
      go_wp2_with fail
      try rw [← World.drewN_drewN]
      generalize (wr.drewN m).drewN m2 = w7 at *
      go_loopw [69] (fun i wr => ∃ (j : Nat), j ≤ k ∧ i = .int .i64 j ∧ Hid (OrdS w a b z k k wr t u bs cs)) (fun i _ => k - (intOf i).toNat)
      case atStart => exact ⟨0, Nat.zero_le _, rfl, HO2⟩
      case round =>
        obtain ⟨j, hj, rfl, HR⟩ := hrel
        clear HO2
        by_cases hjk : j < k
        · have hjk' : (j : Int) < k := by omega
          have hj0 : ¬ (j : Int) < 0 := by omega
          obtain ⟨g0, off, hAe, hg0, hcells⟩ := HS.out.cells (by omega)
          subst hAe
          have hkz : j < z.length := by rw [HS.out.len]; exact hjk
          have hbr : Below w.heap.size w wr := HR.out.ta.bel
          obtain ⟨o1, o2, o3, o4⟩ := HS.out.ok _ (List.getElem_mem hkz)
          obtain ⟨d0, d1, d2, d3⟩ := hcells j _ (List.getElem?_eq_getElem hkz)
          obtain ⟨⟨p0, p1, p2, p3⟩, hp⟩ : ∃ p, z[j] = p := ⟨_, rfl⟩
          rw [hp] at o1 o2 o3 d0 d1 d2 d3
          simp only at o1 o2 o3 d0 d1 d2 d3
          obtain ⟨p0, rfl, hp0⟩ := u8_nat o1
          obtain ⟨p1, rfl, hp1⟩ := u16_nat o2
          obtain ⟨p2, rfl, hp2⟩ := u8_nat o3
          have HKY : Hid (keyZ z j = keyL p1 p2) := Lib.hid (keyZ_at hkz hp)
          have e0 := (hbr.cell (p := ⟨g0, off + j * 4, none⟩) hg0).trans d0
          have e1 := (hbr.cell (p := ⟨g0, off + j * 4 + 1, none⟩) hg0).trans d1
          have e2 := (hbr.cell (p := ⟨g0, off + j * 4 + 2, none⟩) hg0).trans d2
          have e3 := (hbr.cell (p := ⟨g0, off + j * 4 + 3, none⟩) hg0).trans d3
          have hgr : g0 < wr.heap.size := Nat.lt_of_lt_of_le hg0 hbr.size
          have HCA : Hid (Cs (wr.alloc (.cells #[.int .u8 p0, .int .u16 p1, .int .u8 p2, .int .i64 p3] 32)) wr.heap.size [.int .u8 p0, .int .u16 p1, .int .u8 p2, .int .i64 p3]) := Lib.hid (Cs.new wr _ _ _)
          have HM := Lib.hid (HR.out.below ((Below.refl wr.heap.size wr).alloc (Nat.le_refl _) (.cells #[.int .u8 p0, .int .u16 p1, .int .u8 p2, .int .i64 p3] 32)))
          have hml := keyL_may p1 13
          have hlen := keyL_len p1 13
          have HLEN : Hid ((keyL p1 13).length ≤ 9223372036854775807) := Lib.hid (by omega)
          have hsl := same_long HM.out.ta.ok HM.out.tb.ok HM.out.ta.fit HM.out.tb.fit HSAME.out hml
          clear hcells hkz o1 o2 o3 o4 d0 d1 d2 d3 hp hbr hg0 HR hml hlen
          rcases hsl with ⟨g1, g2⟩ | ⟨N1, x1, y1, g1, g2⟩
          · have G1 := Lib.hid g1
            have G2 := Lib.hid g2
            clear g1 g2
            go_wp2_with fail
            generalize (wr.alloc (.cells #[.int .u8 p0, .int .u16 p1, .int .u8 p2, .int .i64 p3] 32)) = wx at *
            refine (key16_any p1 13 hp1 (by decide) _).mono ?_
            rintro e w3 ⟨rfl, rfl⟩
            go_wp2_with fail
            refine (HM.out.ta.longest (keyL p1 13) HLEN.out).mono ?_
            rintro e w4 ⟨rfl, hb4⟩
            have HM4 := Lib.hid (HM.out.below hb4)
            have HC4 := Lib.hid (HCA.out.below hb4)
            have c1 := HC4.out.get 1 _
            have cl := HC4.out.lt
            clear hb4 HM HCA e0 e1 e2 e3 hgr
            rw [G1.out]
            simp only [longV]
            go_wp2_with fail
            refine (key16_any p1 13 hp1 (by decide) _).mono ?_
            rintro e w5 ⟨rfl, rfl⟩
            go_wp2_with fail
            refine (HM4.out.tb.longest (keyL p1 13) HLEN.out).mono ?_
            rintro e w6 ⟨rfl, hb6⟩
            have HM6 := Lib.hid (HM4.out.below hb6)
            clear hb6 HM4 HC4 c1 cl
            rw [G2.out]
            simp only [longV]
            go_wp2_with fail
            go_roundw
            case rel => exact ⟨j + 1, by omega, by go_num, HM6⟩
            case measure => simp [intOf]; omega
          · have G1 := Lib.hid g1
            have G2 := Lib.hid g2
            clear g1 g2
            go_wp2_with fail
            generalize (wr.alloc (.cells #[.int .u8 p0, .int .u16 p1, .int .u8 p2, .int .i64 p3] 32)) = wx at *
            refine (key16_any p1 13 hp1 (by decide) _).mono ?_
            rintro e w3 ⟨rfl, rfl⟩
            go_wp2_with fail
            refine (HM.out.ta.longest (keyL p1 13) HLEN.out).mono ?_
            rintro e w4 ⟨rfl, hb4⟩
            have HM4 := Lib.hid (HM.out.below hb4)
            have HC4 := Lib.hid (HCA.out.below hb4)
            have c1 := HC4.out.get 1 _
            have cl := HC4.out.lt
            clear hb4 HM HCA e0 e1 e2 e3 hgr
            rw [G1.out]
            simp only [longV]
            go_wp2_with fail
            refine (key16_any p1 13 hp1 (by decide) _).mono ?_
            rintro e w5 ⟨rfl, rfl⟩
            go_wp2_with fail
            refine (HM4.out.tb.longest (keyL p1 13) HLEN.out).mono ?_
            rintro e w6 ⟨rfl, hb6⟩
            have HM6 := Lib.hid (HM4.out.below hb6)
            clear hb6 HM4 HC4 c1 cl
            rw [G2.out]
            simp only [longV]
            have d8 : ((N1 : Int) != (N1 : Int)) = false := by simp
            go_wp2_with fail
            go_roundw
            case rel => exact ⟨j + 1, by omega, by go_num, HM6⟩
            case measure => simp [intOf]; omega
        · obtain rfl : j = k := by omega
          have HB : Hid (Below w.heap.size w wr) := Lib.hid HR.out.ta.bel
          clear HR hjk
          go_wp2_with fail
          go_ret
          exact ⟨rfl, HB.out⟩
end Go.Proofs.YtgfoahednmipkaaDoor
