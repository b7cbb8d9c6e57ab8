/- pending.Match in general. -/
import Derived.Test.YtlmhmkpoaebokaaPendG
import Derived.Outline
namespace Go.Proofs.Ytlmhmkpoaebokaa
open Go.RowKit
set_option linter.unusedVariables false
set_option linter.unusedSimpArgs false
set_option maxRecDepth 20000
theorem pickE_congr {p q : Nat → Bool} {es : List EntT} (h : ∀ i, i < es.length → p i = q i) : pickE p es = pickE q es := by
  unfold pickE
  congr 1
  refine List.filter_congr fun x hx => ?_
  have := List.mem_zipIdx hx
  exact h _ (by have := this.2.1; omega)
theorem zip_above (l : List EntT) : ∀ (k m : Nat), m < k → (l.zipIdx k).filter (fun x => x.2 == m) = [] ∧ ((l.zipIdx k).filter (fun x => !(x.2 == m))).map (·.1) = l := by
  induction l with
  | nil => intro k m _; exact ⟨rfl, rfl⟩
  | cons a l ih =>
    intro k m h
    obtain ⟨h1, h2⟩ := ih (k + 1) m (by omega)
    have hf : (k == m) = false := by rw [beq_eq_false_iff_ne]; omega
    rw [List.zipIdx_cons, List.filter_cons, List.filter_cons]
    simp only [hf]
    exact ⟨h1, by simp only [Bool.false_eq_true, Bool.not_false, if_true, List.map_cons, h2]⟩
theorem zip_at (l : List EntT) : ∀ (k a : Nat), ((l.zipIdx k).filter (fun x => x.2 == k + a)).map (·.1) = l[a]?.toList ∧ ((l.zipIdx k).filter (fun x => !(x.2 == k + a))).map (·.1) = l.eraseIdx a := by
  induction l with
  | nil => intro k a; simp
  | cons x l ih =>
    intro k a
    rw [List.zipIdx_cons, List.filter_cons, List.filter_cons]
    cases a with
    | zero =>
      obtain ⟨h1, h2⟩ := zip_above l (k + 1) k (by omega)
      simp only [Nat.add_zero, BEq.rfl, if_true, Bool.not_true, Bool.false_eq_true, if_false, List.map_cons, h1, List.map_nil]
      exact ⟨by simp, by rw [h2]; rfl⟩
    | succ a =>
      obtain ⟨h1, h2⟩ := ih (k + 1) a
      have hf : (k == k + (a + 1)) = false := by rw [beq_eq_false_iff_ne]; omega
      rw [show k + 1 + a = k + (a + 1) by omega] at h1 h2
      simp only [hf, Bool.false_eq_true, if_false, Bool.not_false, if_true, List.map_cons, h1, h2]
      exact ⟨by simp, by simp⟩
/-- The place's entry is the first one that is hit. -/
def firstE (q : EntT → Bool) (es : List EntT) (i : Nat) : Bool := !((es.take i).any q) && atE q es i
theorem firstE_is (q : EntT → Bool) (es : List EntT) (a : Nat) (ha : a < es.length) (h1 : q es[a] = true) (h2 : ∀ i (hi : i < es.length), i < a → q es[i] = false) : ∀ i, i < es.length → firstE q es i = (i == a) := by
  intro i hi
  have hat : atE q es i = q es[i] := by unfold atE; rw [List.getElem?_eq_getElem hi]
  unfold firstE
  rw [hat]
  rcases Nat.lt_trichotomy i a with h | h | h
  · rw [h2 i hi h, Bool.and_false, beq_eq_false_iff_ne.2 (by omega)]
  · subst h
    rw [h1, Bool.and_true, BEq.rfl, Bool.not_eq_true']
    rw [List.any_eq_false]
    intro x hx
    obtain ⟨j, hj, rfl⟩ := List.getElem_of_mem hx
    rw [List.length_take] at hj
    rw [List.getElem_take, h2 j (by omega) (by omega)]
    simp
  · have : (es.take i).any q = true := by
      rw [List.any_eq_true]
      refine ⟨es[a], ?_, h1⟩
      rw [List.mem_iff_getElem]
      exact ⟨a, by rw [List.length_take]; omega, by rw [List.getElem_take]⟩
    rw [this, beq_eq_false_iff_ne.2 (by omega)]; rfl
theorem pick_first (q : EntT → Bool) (es : List EntT) (a : Nat) (ha : a < es.length) (h1 : q es[a] = true) (h2 : ∀ i (hi : i < es.length), i < a → q es[i] = false) : pickE (firstE q es) es = [es[a]] ∧ pickE (fun i => !firstE q es i) es = es.eraseIdx a := by
  have hf := firstE_is q es a ha h1 h2
  obtain ⟨z1, z2⟩ := zip_at es 0 a
  rw [Nat.zero_add] at z1 z2
  constructor
  · rw [pickE_congr hf]; unfold pickE; rw [z1, List.getElem?_eq_getElem ha]; rfl
  · rw [pickE_congr (q := fun i => !(i == a)) (fun i hi => by rw [hf i hi])]; unfold pickE; exact z2
theorem results_cell3 {fn : Func} {p u v : Tmp} {ty : TypeId} (h : fn.results = #[.cell p ty, .tmp u, .tmp v]) (tmps : Array Value) (P : Program) (w : World) (b o : Nat) (cs : List Value) (d : TypeDesc) (hp : tmps.getD p undef = .pointer (some ⟨b, o, none⟩)) (hc : w.rangeAt b o cs)
    (hu : P.underlying ty = some d) (hd : d.isRow = true) (hi : (P.info? ty).map (·.size) = some cs.length) : (results fn tmps).run P w = .ok (.tuple #[.agg cs.toArray, tmps.getD u undef, tmps.getD v undef]) w := by
  have hp2 : tmps[p]?.getD undef = .pointer (some ⟨b, o, none⟩) := by rw [← hp, Array.getD_eq_getD_getElem?]
  simp only [results, h]
  simp [Sem.run_bind, Result.andThen, hp2, asAddr, run_loadVar_mid w b o ty cs d hc hu hd hi]
/-- Match's answer. -/
def MatchR (id : Int) (qn : ByteArray) (qt : Int) (es : List EntT) (w : World) (r : Ending) (w' : World) : Prop :=
  ((∀ e ∈ es, hitE id qn qt e = false) ∧ r = .returned (.tuple #[entA (e26 0), .slice none 0 0, .bool false]) ∧ Below w.heap.size w w') ∨
  (∃ a, ∃ ha : a < es.length, hitE id qn qt es[a] = true ∧ (∀ i (hi : i < es.length), i < a → hitE id qn qt es[i] = false) ∧ ∃ v, r = .returned (.tuple #[entA es[a], v, .bool true]) ∧ OBM 19 w.heap.size w v (es.eraseIdx a).length (flatE (es.eraseIdx a)) w')
theorem first_hit (q : EntT → Bool) : ∀ (es : List EntT), es.any q = true → ∃ a, ∃ ha : a < es.length, q es[a] = true ∧ ∀ i (hi : i < es.length), i < a → q es[i] = false
  | [], h => by simp at h
  | x :: es, h => by
    cases hx : q x with
    | true => exact ⟨0, by simp, hx, fun i hi hlt => by omega⟩
    | false =>
      rw [List.any_cons, hx, Bool.false_or] at h
      obtain ⟨a, ha, h1, h2⟩ := first_hit q es h
      refine ⟨a + 1, by simpa using ha, by simpa using h1, fun i hi hlt => ?_⟩
      cases i with
      | zero => simpa using hx
      | succ i => simpa using h2 i (by simpa using hi) (by omega)
set_option maxHeartbeats 6400000 in
theorem match_any (A : Option Addr) (n c : Nat) (es : List EntT) (id : Int) (qn : ByteArray) (qt : Int) (w : World) (h : EntsV w w.heap.size A n es) (hn : n ≤ 1000) :
    Calls Try.prog 29 #[.slice A n c, .int .u16 id, .agg #[.string qn, .int .u16 qt]] w (MatchR id qn qt es w) := by
  obtain ⟨AR, hAR⟩ : ∃ R, R = MatchR id qn qt es w := ⟨_, rfl⟩
  rw [← hAR]
  have HAR := Lib.hid hAR
  have hlen := h.len
  have HV := Lib.hid h
  have HL := Lib.hid hlen
  have HN := Lib.hid hn
  have HSP := Lib.hid (fun (w1 : World) (g0 g1 g3 g6 : Nat) => split_match g0 g1 g3 A n c es (firstE (hitE id qn qt) es) w.heap.size (fun k wx => Cs wx g0 [.bool ((es.take k).any (hitE id qn qt))] ∧ Cs wx g1 [.int .u16 id] ∧ Cs wx g3 [.string qn, .int .u16 qt] ∧ Cs wx g6 [.int .u16 0, .int .u16 0, .bool false, .int .i64 0, .bool false, .bool false, .bool false, .bool false, .int .i64 0, .string ⟨#[]⟩, .int .u16 0, .slice none 0 0, .slice none 0 0, .slice none 0 0, .int .i64 0, .string ⟨#[]⟩, .int .i64 0, .bool false, .int .i64 0]) w1)
  clear h hAR hlen hn
  have hC1 : Cs ((((w.alloc (.cells #[.int .u16 id] 22)).alloc (.cells #[.string qn, .int .u16 qt] 28)).alloc (.cells #[.int .u16 0, .int .u16 0, .bool false, .int .i64 0, .bool false, .bool false, .bool false, .bool false, .int .i64 0, .string ⟨#[]⟩, .int .u16 0, .slice none 0 0, .slice none 0 0, .slice none 0 0, .int .i64 0, .string ⟨#[]⟩, .int .i64 0, .bool false, .int .i64 0] 74)).alloc (.cells #[.bool false] 4)) w.heap.size [.int .u16 id] := (((Cs.new w #[.int .u16 id] 22 [.int .u16 id]).alloc _).alloc _).alloc _
  have hC3 : Cs ((((w.alloc (.cells #[.int .u16 id] 22)).alloc (.cells #[.string qn, .int .u16 qt] 28)).alloc (.cells #[.int .u16 0, .int .u16 0, .bool false, .int .i64 0, .bool false, .bool false, .bool false, .bool false, .int .i64 0, .string ⟨#[]⟩, .int .u16 0, .slice none 0 0, .slice none 0 0, .slice none 0 0, .int .i64 0, .string ⟨#[]⟩, .int .i64 0, .bool false, .int .i64 0] 74)).alloc (.cells #[.bool false] 4)) (w.heap.size + 1) [.string qn, .int .u16 qt] := (((Cs.new _ #[.string qn, .int .u16 qt] 28 [.string qn, .int .u16 qt]).at_ (w.heap.size + 1) (by simp)).alloc _).alloc _
  have hC6 : Cs ((((w.alloc (.cells #[.int .u16 id] 22)).alloc (.cells #[.string qn, .int .u16 qt] 28)).alloc (.cells #[.int .u16 0, .int .u16 0, .bool false, .int .i64 0, .bool false, .bool false, .bool false, .bool false, .int .i64 0, .string ⟨#[]⟩, .int .u16 0, .slice none 0 0, .slice none 0 0, .slice none 0 0, .int .i64 0, .string ⟨#[]⟩, .int .i64 0, .bool false, .int .i64 0] 74)).alloc (.cells #[.bool false] 4)) (w.heap.size + 1 + 1) [.int .u16 0, .int .u16 0, .bool false, .int .i64 0, .bool false, .bool false, .bool false, .bool false, .int .i64 0, .string ⟨#[]⟩, .int .u16 0, .slice none 0 0, .slice none 0 0, .slice none 0 0, .int .i64 0, .string ⟨#[]⟩, .int .i64 0, .bool false, .int .i64 0] := ((Cs.new _ #[.int .u16 0, .int .u16 0, .bool false, .int .i64 0, .bool false, .bool false, .bool false, .bool false, .int .i64 0, .string ⟨#[]⟩, .int .u16 0, .slice none 0 0, .slice none 0 0, .slice none 0 0, .int .i64 0, .string ⟨#[]⟩, .int .i64 0, .bool false, .int .i64 0] 74 [.int .u16 0, .int .u16 0, .bool false, .int .i64 0, .bool false, .bool false, .bool false, .bool false, .int .i64 0, .string ⟨#[]⟩, .int .u16 0, .slice none 0 0, .slice none 0 0, .slice none 0 0, .int .i64 0, .string ⟨#[]⟩, .int .i64 0, .bool false, .int .i64 0]).at_ (w.heap.size + 1 + 1) (by simp)).alloc _
  have hC0 : Cs ((((w.alloc (.cells #[.int .u16 id] 22)).alloc (.cells #[.string qn, .int .u16 qt] 28)).alloc (.cells #[.int .u16 0, .int .u16 0, .bool false, .int .i64 0, .bool false, .bool false, .bool false, .bool false, .int .i64 0, .string ⟨#[]⟩, .int .u16 0, .slice none 0 0, .slice none 0 0, .slice none 0 0, .int .i64 0, .string ⟨#[]⟩, .int .i64 0, .bool false, .int .i64 0] 74)).alloc (.cells #[.bool false] 4)) (w.heap.size + 1 + 1 + 1) [.bool false] := (Cs.new _ #[.bool false] 4 [.bool false]).at_ (w.heap.size + 1 + 1 + 1) (by simp)
  have hB : Below w.heap.size w ((((w.alloc (.cells #[.int .u16 id] 22)).alloc (.cells #[.string qn, .int .u16 qt] 28)).alloc (.cells #[.int .u16 0, .int .u16 0, .bool false, .int .i64 0, .bool false, .bool false, .bool false, .bool false, .int .i64 0, .string ⟨#[]⟩, .int .u16 0, .slice none 0 0, .slice none 0 0, .slice none 0 0, .int .i64 0, .string ⟨#[]⟩, .int .i64 0, .bool false, .int .i64 0] 74)).alloc (.cells #[.bool false] 4)) := ((((Below.refl w.heap.size w).alloc (Nat.le_refl _) _).alloc (by simp) _).alloc (by simp; omega) _).alloc (by simp; omega) _
  have HS0 := Lib.hid (show ((((w.alloc (.cells #[.int .u16 id] 22)).alloc (.cells #[.string qn, .int .u16 qt] 28)).alloc (.cells #[.int .u16 0, .int .u16 0, .bool false, .int .i64 0, .bool false, .bool false, .bool false, .bool false, .int .i64 0, .string ⟨#[]⟩, .int .u16 0, .slice none 0 0, .slice none 0 0, .slice none 0 0, .int .i64 0, .string ⟨#[]⟩, .int .i64 0, .bool false, .int .i64 0] 74)).alloc (.cells #[.bool false] 4)).heap.size = w.heap.size + 4 by simp)
  have H0 := Lib.hid (And.intro hC1 (And.intro hC3 (And.intro hC6 (And.intro hC0 hB))))
  clear hC1 hC3 hC6 hC0 hB
  go_enter Try.func29, Try.ntmps29
  go_upto_region 2 with fail
  generalize (((w.alloc (.cells #[.int .u16 id] 22)).alloc (.cells #[.string qn, .int .u16 qt] 28)).alloc (.cells #[.int .u16 0, .int .u16 0, .bool false, .int .i64 0, .bool false, .bool false, .bool false, .bool false, .int .i64 0, .string ⟨#[]⟩, .int .u16 0, .slice none 0 0, .slice none 0 0, .slice none 0 0, .int .i64 0, .string ⟨#[]⟩, .int .i64 0, .bool false, .int .i64 0] 74)).alloc (.cells #[.bool false] 4) = w1 at *
  obtain ⟨g0, hg0⟩ : ∃ g, g = w.heap.size + 1 + 1 + 1 := ⟨_, rfl⟩
  obtain ⟨g6, hg6⟩ : ∃ g, g = w.heap.size + 1 + 1 := ⟨_, rfl⟩
  obtain ⟨g3, hg3⟩ : ∃ g, g = w.heap.size + 1 := ⟨_, rfl⟩
  obtain ⟨g1, hg1⟩ : ∃ g, g = w.heap.size := ⟨_, rfl⟩
  obtain ⟨hC1, hC3, hC6, hC0, hB⟩ := H0.out
  rw [← hg0] at hC0 ⊢
  rw [← hg6] at hC6 ⊢
  rw [← hg3] at hC3 ⊢
  rw [← hg1] at hC1 ⊢
  have HGS := Lib.hid (show g1 = w.heap.size ∧ g3 = w.heap.size + 1 ∧ g6 = w.heap.size + 2 ∧ g0 = w.heap.size + 3 by omega)
  have HC := Lib.hid (And.intro hC0 (And.intro hC1 (And.intro hC3 hC6)))
  have HC6 := Lib.hid hC6
  have HB := Lib.hid (show Below w.heap.size w w1 by rw [← hg1]; exact hg1 ▸ hB)
  clear H0 hC1 hC3 hC6 hC0 hB hg0 hg6 hg3 hg1
  go_wp2_with fail
  refine (HSP.out w1 g0 g1 g3 g6 (HV.out.at_.below HB.out) HL.out (by have := HN.out; omega) HV.out.low (by have := HS0.out; omega) ⟨by simpa using HC.out.1, HC.out.2⟩ (fun k wa wb ha hb => ⟨hb.cs (by have := HS0.out; have := HGS.out; omega) ha.1, hb.cs (by have := HS0.out; have := HGS.out; omega) ha.2.1, hb.cs (by have := HS0.out; have := HGS.out; omega) ha.2.2.1, hb.cs (by have := HS0.out; have := HGS.out; omega) ha.2.2.2⟩) ?_).mono ?_
  · intro k x wx hx hI hbx hsx
    refine (match1_any x g0 g1 g3 ((es.take k).any (hitE id qn qt)) id qn qt wx hI.1 hI.2.1 hI.2.2.1).mono ?_
    rintro r wy ⟨rfl, wz, hbz, rfl⟩
    have hs0 := HS0.out
    have hgs := HGS.out
    have hat : atE (hitE id qn qt) es k = hitE id qn qt x := by unfold atE; rw [hx]
    have hnext : (es.take (k + 1)).any (hitE id qn qt) = ((es.take k).any (hitE id qn qt) || hitE id qn qt x) := by rw [List.take_add_one, hx]; simp
    obtain ⟨i0, i1, i3, i6⟩ := hI
    have j0 := i0.below hbz
    have j1 := i1.below hbz
    have j3 := i3.below hbz
    have j6 := i6.below hbz
    refine ⟨by unfold firstE; rw [hat], ?_⟩
    rw [hnext]
    cases hh : (!(es.take k).any (hitE id qn qt) && hitE id qn qt x) with
    | true =>
      simp only [Bool.and_eq_true, Bool.not_eq_true'] at hh
      rw [if_pos rfl, hh.1, hh.2]
      refine ⟨⟨j0.set' 0 (.bool true) (by simp), j1.other g0 0 _ (by omega), j3.other g0 0 _ (by omega), j6.other g0 0 _ (by omega)⟩, (hbz.mono (by omega)).setCell (by show _ ≤ g0; omega) _, ?_⟩
      refine ⟨by simpa using hbz.size, fun q h1 h2 => ?_⟩
      rw [Below.heap_setCell wz ⟨g0, 0, none⟩ _ q (by show q ≠ g0; omega)]
      exact hbz.block q h2
    | false =>
      rw [if_neg (by simp)]
      have : ((es.take k).any (hitE id qn qt) || hitE id qn qt x) = (es.take k).any (hitE id qn qt) := by
        cases h1 : (es.take k).any (hitE id qn qt) with
        | true => rfl
        | false => rw [h1] at hh; simpa using hh
      rw [this]
      exact ⟨⟨j0, j1, j3, j6⟩, hbz.mono (by omega), Mid.of_below hbz⟩
  rintro r w2 ⟨v1, v2, rfl, ho1, ho2, hw1, hw2, hd, hI⟩
  have hkn : es.take n = es := List.take_of_length_le (by rw [HL.out]; omega)
  rw [hkn] at hI
  have hs0 := HS0.out
  have hgs := HGS.out
  have HB2 := Lib.hid (HB.out.trans ho1.bel)
  cases han : es.any (hitE id qn qt) with
  | false =>
    rw [han] at hI
    have c0 := hI.1.get 0 _
    have HAN := Lib.hid han
    have HTH := Lib.hid (hI.2.2.2.there 19 rfl)
    have HM := Lib.hid (hI.2.2.2.mid [.int .u16 0, .int .u16 0, .bool false, .int .i64 0, .bool false, .bool false, .bool false, .bool false, .int .i64 0, .string ⟨#[]⟩, .int .u16 0, .slice none 0 0, .slice none 0 0, .slice none 0 0, .int .i64 0, .string ⟨#[]⟩, .int .i64 0, .bool false, .int .i64 0] rfl)
    have HBM := Lib.hid (below_setCells' (B := w.heap.size) (g := g6) (by omega) [.int .u16 0, .int .u16 0, .bool false, .int .i64 0, .bool false, .bool false, .bool false, .bool false, .int .i64 0, .string ⟨#[]⟩, .int .u16 0, .slice none 0 0, .slice none 0 0, .slice none 0 0, .int .i64 0, .string ⟨#[]⟩, .int .i64 0, .bool false, .int .i64 0] 0 HB2.out)
    clear ho1 ho2 hw1 hw2 hd hI hkn hs0 hgs han
    go_wp2_with (first | refine wpList_store_mid rfl 74 _ _ rfl g6 0 #[.int .u16 0, .int .u16 0, .bool false, .int .i64 0, .bool false, .bool false, .bool false, .bool false, .int .i64 0, .string ⟨#[]⟩, .int .u16 0, .slice none 0 0, .slice none 0 0, .slice none 0 0, .int .i64 0, .string ⟨#[]⟩, .int .i64 0, .bool false, .int .i64 0] rfl rfl HTH.out (by kernel_rfl) (by simp [Value.oneCell']) ?_)
    refine bodyPost_ret (v := .tuple #[.agg #[.int .u16 0, .int .u16 0, .bool false, .int .i64 0, .bool false, .bool false, .bool false, .bool false, .int .i64 0, .string ⟨#[]⟩, .int .u16 0, .slice none 0 0, .slice none 0 0, .slice none 0 0, .int .i64 0, .string ⟨#[]⟩, .int .i64 0, .bool false, .int .i64 0], .slice none 0 0, .bool false]) (results_cell3 Try.results29 _ _ _ g6 0 _ _ rfl HM.out.range Try.underlying74 rfl (by kernel_rfl)) rfl ?_
    rw [HAR.out]
    refine .inl ⟨fun e he => ?_, rfl, HBM.out⟩
    have := HAN.out
    rw [List.any_eq_false] at this
    simpa using this e he
  | true =>
    obtain ⟨a, ha, h1, h2⟩ := first_hit _ es han
    obtain ⟨p1, p2⟩ := pick_first _ es a ha h1 h2
    rw [han] at hI
    have c0 := hI.1.get 0 _
    rw [p1] at ho1
    rw [p2] at ho2
    have HX := Lib.hid (show ∀ AR', AR' = MatchR id qn qt es w → ∀ v w', OBM 19 w.heap.size w v (es.eraseIdx a).length (flatE (es.eraseIdx a)) w' → AR' (.returned (.tuple #[entA es[a], v, .bool true])) w' by
      rintro _ rfl v w' h
      exact .inr ⟨a, ha, h1, h2, v, rfl, h⟩)
    have HTH := Lib.hid (hI.2.2.2.there 19 rfl)
    have ho2 := ho2.out (Nat.le_refl _) HB.out
    clear han h1 h2 p1 p2 hkn
    generalize es.eraseIdx a = rest at *
    generalize es[a] = e at *
    obtain ⟨e0, e1, e2, e3, e4, e5⟩ := e
    unfold entA entCells at HX
    simp only at HX
    obtain ⟨V1, C1, rfl, hs1, hs2, hs3⟩ := ho1.slice3
    simp only [List.length_cons, List.length_nil, Nat.zero_add] at ho1 hs1 hs3 ⊢
    rcases hs3 with ⟨-, h, -⟩ | ⟨gv, rfl, hgv1, hgv2⟩
    · omega
    have hR1 : w2.rangeAt gv 0 [.int .u16 e0, .int .u16 0, .bool false, .int .i64 0, .bool false, .bool false, .bool false, .bool false, .int .i64 0, .string e1, .int .u16 e2, .slice none 0 0, .slice none 0 0, .slice none 0 0, .int .i64 0, .string e3, .int .i64 e4, .bool false, .int .i64 e5] := fun j v hv => by rw [Nat.zero_add]; exact ho1.cell j v (by unfold flatE; simpa [entCells] using hv)
    have HR1 := Lib.hid hR1
    have HM := Lib.hid (hI.2.2.2.mid [.int .u16 e0, .int .u16 0, .bool false, .int .i64 0, .bool false, .bool false, .bool false, .bool false, .int .i64 0, .string e1, .int .u16 e2, .slice none 0 0, .slice none 0 0, .slice none 0 0, .int .i64 0, .string e3, .int .i64 e4, .bool false, .int .i64 e5] rfl)
    have hne : ∀ q, v2.ownBlock = some q → q ≠ g6 := fun q hq e => by have := hw2 q hq; omega
    have hO2 : OBM 19 w.heap.size w v2 rest.length (flatE rest) (w2.setCells g6 0 [.int .u16 e0, .int .u16 0, .bool false, .int .i64 0, .bool false, .bool false, .bool false, .bool false, .int .i64 0, .string e1, .int .u16 e2, .slice none 0 0, .slice none 0 0, .slice none 0 0, .int .i64 0, .string e3, .int .i64 e4, .bool false, .int .i64 e5]) := by
      obtain ⟨s1, s2⟩ := setCells_heap w2 g6 [.int .u16 e0, .int .u16 0, .bool false, .int .i64 0, .bool false, .bool false, .bool false, .bool false, .int .i64 0, .string e1, .int .u16 e2, .slice none 0 0, .slice none 0 0, .slice none 0 0, .int .i64 0, .string e3, .int .i64 e4, .bool false, .int .i64 e5] 0
      exact ho2.block (below_setCells' (by omega) _ 0 ho2.bel) (by rw [s1]; exact Nat.le_refl _) (fun q hq => s2 q (hne q hq))
    have HO2 := Lib.hid hO2
    clear ho1 ho2 hw1 hw2 hd hI hs0 hgs hs1 hs2 hgv1 hgv2 hR1 hne hO2
    go_wp2_with (first | refine wpList_store_mid rfl 74 _ _ rfl g6 0 #[.int .u16 e0, .int .u16 0, .bool false, .int .i64 0, .bool false, .bool false, .bool false, .bool false, .int .i64 0, .string e1, .int .u16 e2, .slice none 0 0, .slice none 0 0, .slice none 0 0, .int .i64 0, .string e3, .int .i64 e4, .bool false, .int .i64 e5] rfl rfl HTH.out (by kernel_rfl) (by simp [Value.oneCell']) ?_ | refine wpList_load_mid rfl 74 _ rfl gv 0 rfl _ _ HR1.out Try.underlying74 rfl (by kernel_rfl) ?_)
    refine bodyPost_ret (v := .tuple #[.agg #[.int .u16 e0, .int .u16 0, .bool false, .int .i64 0, .bool false, .bool false, .bool false, .bool false, .int .i64 0, .string e1, .int .u16 e2, .slice none 0 0, .slice none 0 0, .slice none 0 0, .int .i64 0, .string e3, .int .i64 e4, .bool false, .int .i64 e5], v2, .bool true]) (results_cell3 Try.results29 _ _ _ g6 0 _ _ rfl HM.out.range Try.underlying74 rfl (by kernel_rfl)) rfl ?_
    exact HX.out _ HAR.out _ _ HO2.out
end Go.Proofs.Ytlmhmkpoaebokaa
