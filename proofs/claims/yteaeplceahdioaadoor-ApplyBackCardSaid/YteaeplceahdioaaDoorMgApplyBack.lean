/- Texts that walks stand on, one behind the other. -/
import Derived.Test.YteaeplceahdioaaDoorMgSD
import Derived.Test.YteaeplceahdioaaDoorMgSB
import Derived.Test.YteaeplceahdioaaDoorMgSA
import Derived.Test.YteaeplceahdioaaDoorCard
import Derived.Test.YteaeplceahdioaaDoorRows
import Derived.Test.YteaeplceahdioaaDoorMgSC
import Derived.ChangeVars
import Derived.LaidLaws
import Derived.LaidHandle
import Derived.Stop.Joined
namespace Go.Proofs.YteaeplceahdioaaDoor
open Go.RowKit
set_option linter.unusedVariables false
set_option linter.unusedSimpArgs false
theorem find_unique {z : List RecT} {s : RecT} (hs : s ∈ z) (h6 : isSoaR s = true) (hu : ∀ q ∈ z, isSoaR q = true → q = s) : firstS z = some s := by
  unfold firstS
  cases h : z.find? isSoaR with
  | none => exact absurd h6 (List.find?_eq_none.1 h s hs)
  | some q => rw [hu q (List.mem_of_find?_eq_some h) (List.find?_some h)]
theorem rising_nodup {l : List RecT} (h : Rising l) : l.Nodup := List.Pairwise.imp (fun h => cmp_lt_ne h) h
theorem lessR_mem10 {z : List RecT} {r q : RecT} : q ∈ lessR z r ↔ q ∈ z ∧ q ≠ r := by
  unfold lessR
  rw [List.mem_filter]
  constructor
  · rintro ⟨h1, h2⟩
    exact ⟨h1, fun e => by subst e; rw [(eqB_iff q q).2 rfl] at h2; cases h2⟩
  · rintro ⟨h1, h2⟩
    refine ⟨h1, ?_⟩
    cases e : eqB q r with
    | false => rfl
    | true => exact absurd ((eqB_iff q r).1 e) h2
theorem insR_mem11 {z : List RecT} {r q : RecT} : q ∈ insR z r ↔ q ∈ z ∨ q = r := by
  constructor
  · intro h
    unfold insR at h
    rcases List.mem_append.1 h with h | h
    · exact .inl ((List.takeWhile_sublist _).mem h)
    · rcases List.mem_cons.1 h with h | h
      · exact .inr h
      · exact .inl ((List.dropWhile_sublist _).mem h)
  · rintro (h | rfl)
    · exact insR_keeps h
    · exact insR_has _ _
theorem delAll_mem : ∀ (l z : List RecT), Rising z → l.Nodup → (∀ r ∈ l, r ∈ z) → ∃ z', delAll l z = some z' ∧ Rising z' ∧ ∀ q, q ∈ z' ↔ q ∈ z ∧ q ∉ l
  | [], z, h, _, _ => ⟨z, rfl, h, fun q => by simp⟩
  | r :: l, z, h, hn, hm => by
    have hn := List.nodup_cons.1 hn
    obtain ⟨z', e, h1, h2⟩ := delAll_mem l (lessR z r) (lessR_rising h) hn.2 (fun q hq => lessR_mem10.2 ⟨hm q (by simp [hq]), fun e => hn.1 (by rw [← e]; exact hq)⟩)
    refine ⟨z', ?_, h1, fun q => ?_⟩
    · rw [delAll_cons, (hasB_iff _ _).2 (hm r (by simp)), if_pos rfl, e]
    · rw [h2, lessR_mem10, List.mem_cons]
      constructor
      · rintro ⟨⟨a, b⟩, c⟩; exact ⟨a, fun h => h.elim b c⟩
      · rintro ⟨a, b⟩; exact ⟨⟨a, fun h => b (.inl h)⟩, fun h => b (.inr h)⟩
theorem insAll_mem : ∀ (l z : List RecT), Rising z → l.Nodup → (∀ r ∈ l, r ∉ z) → ∃ z', insAll l z = some z' ∧ Rising z' ∧ ∀ q, q ∈ z' ↔ q ∈ z ∨ q ∈ l
  | [], z, h, _, _ => ⟨z, rfl, h, fun q => by simp⟩
  | r :: l, z, h, hn, hm => by
    have hn := List.nodup_cons.1 hn
    have hr := hm r (by simp)
    obtain ⟨z', e, h1, h2⟩ := insAll_mem l (insR z r) (insR_rising h hr) hn.2 (fun q hq hz => by
      rcases insR_mem11.1 hz with hz | hz
      · exact hm q (by simp [hq]) hz
      · exact hn.1 (by rw [← hz]; exact hq))
    refine ⟨z', ?_, h1, fun q => ?_⟩
    · rw [insAll_cons, hasB_false.2 hr, if_neg (by decide), e]
    · rw [h2, insR_mem11, List.mem_cons]
      constructor
      · rintro ((a | a) | a)
        · exact .inl a
        · exact .inr (.inl a)
        · exact .inr (.inr a)
      · rintro (a | a | a)
        · exact .inl (.inl a)
        · exact .inl (.inr a)
        · exact .inr a
/-- The records that are no SOA. -/
def nosoa (l : List RecT) : List RecT := l.filter fun r => !isSoaR r
theorem nosoa_mem {l : List RecT} {q : RecT} : q ∈ nosoa l ↔ q ∈ l ∧ isSoaR q = false := by
  unfold nosoa; rw [List.mem_filter]; simp
theorem nosoa_le (l : List RecT) : (nosoa l).length ≤ l.length := List.length_filter_le _ _
theorem nosoa_rising {l : List RecT} (h : Rising l) : Rising (nosoa l) := List.Pairwise.sublist List.filter_sublist h
theorem nosoa_yes {l : List RecT} {k : Nat} {r : RecT} (h : l[k]? = some r) (hs : isSoaR r = true) : nosoa (l.take (k + 1)) = nosoa (l.take k) := by
  unfold nosoa; rw [List.take_add_one, h, List.filter_append]; simp [hs]
theorem nosoa_no {l : List RecT} {k : Nat} {r : RecT} (h : l[k]? = some r) (hs : isSoaR r = false) : nosoa (l.take (k + 1)) = nosoa (l.take k) ++ [r] := by
  unfold nosoa; rw [List.take_add_one, h, List.filter_append]; simp [hs]
theorem delta_leads {a b : List RecT} {s1 s2 : RecT} (ha : Rising a) (hb : Rising b) (h1 : s1 ∈ a) (h2 : s2 ∈ b) (t1 : isSoaR s1 = true) (t2 : isSoaR s2 = true)
    (u1 : ∀ q ∈ a, isSoaR q = true → q = s1) (u2 : ∀ q ∈ b, isSoaR q = true → q = s2) (hne : s1 ≠ s2) : deltaR a s1 s2 (nosoa (woR a b)) (nosoa (woR b a)) = .inr b := by
  have n1 : s1 ∉ b := fun h => hne (u2 s1 h t1)
  have n2 : s2 ∉ a := fun h => hne (u1 s2 h t2).symm
  unfold deltaR
  rw [find_unique h1 t1 u1]
  simp only [eqB_refl, if_true]
  obtain ⟨z1, e1, r1, m1⟩ := delAll_mem (s1 :: nosoa (woR a b)) a ha
    (List.nodup_cons.2 ⟨(fun h => by rw [nosoa_mem, t1] at h; exact absurd h.2 (by decide)), rising_nodup (nosoa_rising (woR_rising ha))⟩)
    (fun r hr => by
      rcases List.mem_cons.1 hr with rfl | hr
      · exact h1
      · exact (woR_mem.1 (nosoa_mem.1 hr).1).1)
  rw [e1]
  obtain ⟨z2, e2, r2, m2⟩ := insAll_mem (nosoa (woR b a) ++ [s2]) z1 r1
    (List.nodup_append.2 ⟨rising_nodup (nosoa_rising (woR_rising hb)), by simp, fun x hx y hy e => by
      simp at hy; subst hy e
      rw [nosoa_mem, t2] at hx; cases hx.2⟩)
    (fun r hr hz => by
      have hz := ((m1 r).1 hz).1
      rcases List.mem_append.1 hr with hr | hr
      · exact (woR_mem.1 (nosoa_mem.1 hr).1).2 hz
      · simp at hr; subst hr; exact n2 hz)
  simp only [e2]
  congr 1
  refine rising_ext r2 hb (fun q => ?_)
  rw [m2, m1, List.mem_append, List.mem_singleton, nosoa_mem, woR_mem, List.mem_cons, nosoa_mem, woR_mem]
  constructor
  · rintro (⟨qa, hn⟩ | ⟨⟨qb, -⟩, -⟩ | rfl)
    · by_cases hq : q ∈ b
      · exact hq
      · exfalso
        cases hs : isSoaR q with
        | true => exact hn (.inl (u1 q qa hs))
        | false => exact hn (.inr ⟨⟨qa, hq⟩, hs⟩)
    · exact qb
    · exact h2
  · intro qb
    cases hs : isSoaR q with
    | true => exact .inr (.inr (u2 q qb hs))
    | false =>
      by_cases qa : q ∈ a
      · refine .inl ⟨qa, ?_⟩
        rintro (rfl | ⟨⟨-, h⟩, -⟩)
        · rw [t1] at hs; cases hs
        · exact h qb
      · exact .inr (.inl ⟨⟨qb, qa⟩, rfl⟩)
theorem unders_nosoa (o : ByteArray) (ds : List ActT) (most : Nat) : ∀ q ∈ undersOf o false ds most, isSoaR q = false := by
  intro q hq
  unfold undersOf at hq
  obtain ⟨a, -, rfl⟩ := List.mem_map.1 hq
  unfold underR isSoaR
  split
  · rfl
  · rename_i h
    simpa using h
theorem zoneR_soa (o : ByteArray) (n : Nat) (ds : List ActT) (most : Nat) : soaR o n ∈ zoneR o n ds most ∧ ∀ q ∈ zoneR o n ds most, isSoaR q = true → q = soaR o n := by
  unfold zoneR
  refine ⟨by rw [sortedR_mem]; simp, fun q hq hs => ?_⟩
  rw [sortedR_mem, List.mem_append, List.mem_singleton] at hq
  rcases hq with h | h
  · rw [unders_nosoa o ds most q h] at hs; cases hs
  · exact h
theorem back_there (o : ByteArray) (ds ds2 : List ActT) (most : Nat) :
    deltaR (zoneR o 1 ds most) (soaR o 1) (soaR o 2) (nosoa (woR (zoneR o 1 ds most) (zoneR o 2 ds2 most))) (nosoa (woR (zoneR o 2 ds2 most) (zoneR o 1 ds most))) = .inr (zoneR o 2 ds2 most) ∧
    deltaR (zoneR o 2 ds2 most) (soaR o 2) (soaR o 1) (nosoa (woR (zoneR o 2 ds2 most) (zoneR o 1 ds most))) (nosoa (woR (zoneR o 1 ds most) (zoneR o 2 ds2 most))) = .inr (zoneR o 1 ds most) := by
  have h1 := zoneR_soa o 1 ds most
  have h2 := zoneR_soa o 2 ds2 most
  have hne : soaR o 1 ≠ soaR o 2 := fun e => soaD_ne (by unfold soaR at e; injection e with _ e; injection e with _ e; injection e)
  exact ⟨delta_leads (zoneR_rising _ _ _ _) (zoneR_rising _ _ _ _) h1.1 h2.1 rfl rfl h1.2 h2.2 hne, delta_leads (zoneR_rising _ _ _ _) (zoneR_rising _ _ _ _) h2.1 h1.1 rfl rfl h2.2 h1.2 (fun e => hne e.symm)⟩
end Go.Proofs.YteaeplceahdioaaDoor
namespace Go.Proofs.YteaeplceahdioaaDoor
open Go.RowKit
set_option linter.unusedVariables false
set_option linter.unusedSimpArgs false
theorem OBM.setOther2 {sz B n : Nat} {W w : World} {v : Value} {l : List Value} (h : OBM sz B W v n l w) (g j : Nat) (u : Value) (hg : B ≤ g) (hne : v.ownBlock ≠ some g) : OBM sz B W v n l (w.setCell ⟨g, j, none⟩ u) :=
  h.block (h.bel.setCell hg u) (by simp) (fun k hk => Below.heap_setCell _ _ _ _ (fun e => hne (by rw [hk]; exact congrArg some e)))
structure TwoS (wS wM : World) (B1 B2 : Nat) (f1 f2 : Value → List Value) (b1 b2 a1 : Value) (l1 : List RecT) (a2 : Value) (l2 : List RecT) (v : World) : Prop where
  bel : Below wS.heap.size wS v
  size : wM.heap.size ≤ v.heap.size
  keep : ∀ k, k < wM.heap.size → k ≠ B1 → k ≠ B2 → v.heap[k]? = wM.heap[k]?
  box1 : Cs v B1 (f1 b1)
  box2 : Cs v B2 (f2 b2)
  o1 : OBM 4 wS.heap.size wS a1 l1.length (flatR l1) v
  o2 : OBM 4 wS.heap.size wS a2 l2.length (flatR l2) v
  p1 : ∀ k, a1.ownBlock = some k → wM.heap.size ≤ k ∧ a2.ownBlock ≠ some k
  p2 : ∀ k, a2.ownBlock = some k → wM.heap.size ≤ k
/-- Where the boxes lie. -/
structure TwoB (wS wM : World) (B1 B2 : Nat) : Prop where
  s1 : wS.heap.size ≤ B1
  s2 : wS.heap.size ≤ B2
  m1 : B1 < wM.heap.size
  m2 : B2 < wM.heap.size
  ne : B1 ≠ B2
section
variable {wS wM : World} {B1 B2 : Nat} {f1 f2 : Value → List Value} {b1 b2 a1 a2 : Value} {l1 l2 : List RecT} {v v' : World}
theorem TwoS.goes (h : TwoS wS wM B1 B2 f1 f2 b1 b2 a1 l1 a2 l2 v) (hb : Below v.heap.size v v') : TwoS wS wM B1 B2 f1 f2 b1 b2 a1 l1 a2 l2 v' :=
  ⟨below_trans h.bel h.bel.size hb, Nat.le_trans h.size hb.size, fun k hk h1 h2 => (hb.block k (Nat.lt_of_lt_of_le hk h.size)).trans (h.keep k hk h1 h2), h.box1.below hb, h.box2.below hb, h.o1.keep hb (Nat.le_refl _), h.o2.keep hb (Nat.le_refl _), h.p1, h.p2⟩
theorem TwoS.app1 (h : TwoS wS wM B1 B2 f1 f2 b1 b2 a1 l1 a2 l2 v) (hB : TwoB wS wM B1 B2) {a' : Value} {r : RecT} (q1 : OBM 4 wS.heap.size wS a' (l1.length + 1) (flatR l1 ++ recCells r) v') (q2 : v.heap.size ≤ v'.heap.size)
    (q3 : ∀ k, k < v.heap.size → some k ≠ a1.ownBlock → v'.heap[k]? = v.heap[k]?) (q4 : a'.ownBlock = a1.ownBlock ∨ a'.ownBlock = some v.heap.size) : TwoS wS wM B1 B2 f1 f2 b1 b2 a' (l1 ++ [r]) a2 l2 v' := by
  have hn : ∀ k, k < wM.heap.size → some k ≠ a1.ownBlock := fun k hk e => by have := (h.p1 k e.symm).1; omega
  refine ⟨q1.bel, Nat.le_trans h.size q2, fun k hk h1 h2 => (q3 k (Nat.lt_of_lt_of_le hk h.size) (hn k hk)).trans (h.keep k hk h1 h2), h.box1.block (q3 B1 h.box1.lt (hn B1 hB.m1)) q2, h.box2.block (q3 B2 h.box2.lt (hn B2 hB.m2)) q2, ?_, h.o2.block q1.bel q2 (fun k hk => q3 k (h.o2.lt k hk).2 (fun e => (h.p1 k e.symm).2 hk)), fun k hk => ?_, h.p2⟩
  · rw [List.length_append, flatR_append]; simpa [flatR] using q1
  · rcases q4 with q4 | q4
    · exact h.p1 k (q4.symm.trans hk)
    · rw [q4] at hk
      injection hk with hk
      subst hk
      exact ⟨h.size, fun e => by have := (h.o2.lt _ e).2; omega⟩
theorem TwoS.app2 (h : TwoS wS wM B1 B2 f1 f2 b1 b2 a1 l1 a2 l2 v) (hB : TwoB wS wM B1 B2) {a' : Value} {r : RecT} (q1 : OBM 4 wS.heap.size wS a' (l2.length + 1) (flatR l2 ++ recCells r) v') (q2 : v.heap.size ≤ v'.heap.size)
    (q3 : ∀ k, k < v.heap.size → some k ≠ a2.ownBlock → v'.heap[k]? = v.heap[k]?) (q4 : a'.ownBlock = a2.ownBlock ∨ a'.ownBlock = some v.heap.size) : TwoS wS wM B1 B2 f1 f2 b1 b2 a1 l1 a' (l2 ++ [r]) v' := by
  have hn : ∀ k, k < wM.heap.size → some k ≠ a2.ownBlock := fun k hk e => by have := h.p2 k e.symm; omega
  refine ⟨q1.bel, Nat.le_trans h.size q2, fun k hk h1 h2 => (q3 k (Nat.lt_of_lt_of_le hk h.size) (hn k hk)).trans (h.keep k hk h1 h2), h.box1.block (q3 B1 h.box1.lt (hn B1 hB.m1)) q2, h.box2.block (q3 B2 h.box2.lt (hn B2 hB.m2)) q2, h.o1.block q1.bel q2 (fun k hk => q3 k (h.o1.lt k hk).2 (fun e => (h.p1 k hk).2 e.symm)), ?_, fun k hk => ⟨(h.p1 k hk).1, ?_⟩, fun k hk => ?_⟩
  · rw [List.length_append, flatR_append]; simpa [flatR] using q1
  · rcases q4 with q4 | q4
    · rw [q4]; exact (h.p1 k hk).2
    · rw [q4]; intro e; injection e with e; have := (h.o1.lt k hk).2; omega
  · rcases q4 with q4 | q4
    · exact h.p2 k (q4.symm.trans hk)
    · rw [q4] at hk
      injection hk with hk
      subst hk
      exact h.size
theorem TwoS.sto1 (h : TwoS wS wM B1 B2 f1 f2 b1 b2 a1 l1 a2 l2 v) (hB : TwoB wS wM B1 B2) (j : Nat) (u : Value) (hj : j < (f1 b1).length) (hf : (f1 b1).set j u = f1 u) : TwoS wS wM B1 B2 f1 f2 u b2 a1 l1 a2 l2 (v.setCell ⟨B1, j, none⟩ u) := by
  refine ⟨h.bel.setCell hB.s1 u, by simpa using h.size, fun k hk h1 h2 => (Below.heap_setCell _ _ _ _ h1).trans (h.keep k hk h1 h2), by rw [← hf]; exact h.box1.set' j u hj, h.box2.other B1 j u hB.ne, h.o1.setOther2 B1 j u hB.s1 (fun e => ?_), h.o2.setOther2 B1 j u hB.s1 (fun e => ?_), h.p1, h.p2⟩
  · have := (h.p1 _ e).1; have := hB.m1; omega
  · have := h.p2 _ e; have := hB.m1; omega
theorem TwoS.sto2 (h : TwoS wS wM B1 B2 f1 f2 b1 b2 a1 l1 a2 l2 v) (hB : TwoB wS wM B1 B2) (j : Nat) (u : Value) (hj : j < (f2 b2).length) (hf : (f2 b2).set j u = f2 u) : TwoS wS wM B1 B2 f1 f2 b1 u a1 l1 a2 l2 (v.setCell ⟨B2, j, none⟩ u) := by
  refine ⟨h.bel.setCell hB.s2 u, by simpa using h.size, fun k hk h1 h2 => (Below.heap_setCell _ _ _ _ h2).trans (h.keep k hk h1 h2), h.box1.other B2 j u hB.ne.symm, by rw [← hf]; exact h.box2.set' j u hj, h.o1.setOther2 B2 j u hB.s2 (fun e => ?_), h.o2.setOther2 B2 j u hB.s2 (fun e => ?_), h.p1, h.p2⟩
  · have := (h.p1 _ e).1; have := hB.m2; omega
  · have := h.p2 _ e; have := hB.m2; omega
end
/-- In the midst of the drawn region: appended by 4 and 9, stored by 11 and 13; the record's box lies at BA. -/
structure TwoR (wS wM : World) (B1 B2 BA N0 : Nat) (f1 f2 : Value → List Value) (v1 : Value) (l1 : List RecT) (v2 : Value) (l2 : List RecT) (r : RecT) (d : Nat → Bool) (x : Nat → Value) (w : World) : Prop where
  st : TwoS wS wM B1 B2 f1 f2 (if d 11 = true then x 4 else v1) (if d 13 = true then x 9 else v2) (if d 4 = true then x 4 else v1) (if d 4 = true then l1 ++ [r] else l1) (if d 9 = true then x 9 else v2) (if d 9 = true then l2 ++ [r] else l2) w
  rb : Cs w BA [.string r.1, .int .u16 r.2.1, .int .u32 r.2.2.1, .string r.2.2.2]
  n1 : (if d 4 = true then x 4 else v1).ownBlock ≠ some BA
  n2 : (if d 9 = true then x 9 else v2).ownBlock ≠ some BA
  sz : N0 ≤ w.heap.size
section
variable {wS wM : World} {B1 B2 BA N0 : Nat} {f1 f2 : Value → List Value} {v1 v2 : Value} {l1 l2 : List RecT} {r : RecT} {d : Nat → Bool} {x : Nat → Value} {w w' : World}
theorem TwoR.next (h : TwoR wS wM B1 B2 BA N0 f1 f2 v1 l1 v2 l2 r d x w) {i : Nat} {v : Value} (hi : 4 ≠ i ∧ 9 ≠ i ∧ 11 ≠ i ∧ 13 ≠ i) (hb : Below w.heap.size w w') : TwoR wS wM B1 B2 BA N0 f1 f2 v1 l1 v2 l2 r (setD d i) (fun j => if j = i then v else x j) w' := by
  have e4 : setD d i 4 = d 4 := setD_ne d hi.1
  have e9 : setD d i 9 = d 9 := setD_ne d hi.2.1
  have e11 : setD d i 11 = d 11 := setD_ne d hi.2.2.1
  have e13 : setD d i 13 = d 13 := setD_ne d hi.2.2.2
  have x4 : (if 4 = i then v else x 4) = x 4 := if_neg hi.1
  have x9 : (if 9 = i then v else x 9) = x 9 := if_neg hi.2.1
  refine ⟨?_, h.rb.below hb, ?_, ?_, Nat.le_trans h.sz hb.size⟩
  · simp only [e4, e9, e11, e13, x4, x9]; exact h.st.goes hb
  · simp only [e4, x4]; exact h.n1
  · simp only [e9, x9]; exact h.n2
/-- Ahead of the first append. -/
theorem TwoR.s0 (h : TwoR wS wM B1 B2 BA N0 f1 f2 v1 l1 v2 l2 r d x w) (d4 : d 4 = false) (d9 : d 9 = false) (d11 : d 11 = false) (d13 : d 13 = false) : TwoS wS wM B1 B2 f1 f2 v1 v2 v1 l1 v2 l2 w ∧ v1.ownBlock ≠ some BA ∧ v2.ownBlock ≠ some BA := by
  have a := h.st; have b := h.n1; have c := h.n2
  rw [d4, d9, d11, d13] at a; rw [d4] at b; rw [d9] at c
  exact ⟨a, b, c⟩
theorem TwoR.s4 (h : TwoR wS wM B1 B2 BA N0 f1 f2 v1 l1 v2 l2 r d x w) (d4 : d 4 = true) (d9 : d 9 = false) (d11 : d 11 = false) (d13 : d 13 = false) : TwoS wS wM B1 B2 f1 f2 v1 v2 (x 4) (l1 ++ [r]) v2 l2 w ∧ (x 4).ownBlock ≠ some BA ∧ v2.ownBlock ≠ some BA := by
  have a := h.st; have b := h.n1; have c := h.n2
  rw [d4, d9, d11, d13] at a; rw [d4] at b; rw [d9] at c
  exact ⟨a, b, c⟩
theorem TwoR.s9 (h : TwoR wS wM B1 B2 BA N0 f1 f2 v1 l1 v2 l2 r d x w) (d4 : d 4 = true) (d9 : d 9 = true) (d11 : d 11 = false) (d13 : d 13 = false) : TwoS wS wM B1 B2 f1 f2 v1 v2 (x 4) (l1 ++ [r]) (x 9) (l2 ++ [r]) w ∧ (x 4).ownBlock ≠ some BA ∧ (x 9).ownBlock ≠ some BA := by
  have a := h.st; have b := h.n1; have c := h.n2
  rw [d4, d9, d11, d13] at a; rw [d4] at b; rw [d9] at c
  exact ⟨a, b, c⟩
theorem TwoR.s11 (h : TwoR wS wM B1 B2 BA N0 f1 f2 v1 l1 v2 l2 r d x w) (d4 : d 4 = true) (d9 : d 9 = true) (d11 : d 11 = true) (d13 : d 13 = false) : TwoS wS wM B1 B2 f1 f2 (x 4) v2 (x 4) (l1 ++ [r]) (x 9) (l2 ++ [r]) w ∧ (x 4).ownBlock ≠ some BA ∧ (x 9).ownBlock ≠ some BA := by
  have a := h.st; have b := h.n1; have c := h.n2
  rw [d4, d9, d11, d13] at a; rw [d4] at b; rw [d9] at c
  exact ⟨a, b, c⟩
theorem TwoR.s13 (h : TwoR wS wM B1 B2 BA N0 f1 f2 v1 l1 v2 l2 r d x w) (d4 : d 4 = true) (d9 : d 9 = true) (d11 : d 11 = true) (d13 : d 13 = true) : TwoS wS wM B1 B2 f1 f2 (x 4) (x 9) (x 4) (l1 ++ [r]) (x 9) (l2 ++ [r]) w := by
  have a := h.st
  rw [d4, d9, d11, d13] at a
  exact a
theorem TwoR.start (h : TwoS wS wM B1 B2 f1 f2 v1 v2 v1 l1 v2 l2 w) (hr : Cs w BA [.string r.1, .int .u16 r.2.1, .int .u32 r.2.2.1, .string r.2.2.2]) (h1 : v1.ownBlock ≠ some BA) (h2 : v2.ownBlock ≠ some BA) (hs : N0 ≤ w.heap.size) : TwoR wS wM B1 B2 BA N0 f1 f2 v1 l1 v2 l2 r (fun _ => false) x w := ⟨h, hr, h1, h2, hs⟩
/-- Behind operation 4. -/
theorem TwoR.do4 (h : TwoR wS wM B1 B2 BA N0 f1 f2 v1 l1 v2 l2 r d x w) (hB : TwoB wS wM B1 B2) (d4 : d 4 = false) (d9 : d 9 = false) (d11 : d 11 = false) (d13 : d 13 = false) {a' : Value} (q1 : OBM 4 wS.heap.size wS a' (l1.length + 1) (flatR l1 ++ recCells r) w') (q2 : w.heap.size ≤ w'.heap.size)
    (q3 : ∀ k, k < w.heap.size → some k ≠ v1.ownBlock → w'.heap[k]? = w.heap[k]?) (q4 : a'.ownBlock = v1.ownBlock ∨ a'.ownBlock = some w.heap.size) : TwoR wS wM B1 B2 BA N0 f1 f2 v1 l1 v2 l2 r (setD d 4) (fun j => if j = 4 then a' else x j) w' := by
  obtain ⟨hs, hn1, hn2⟩ := h.s0 d4 d9 d11 d13
  have e4 : setD d 4 4 = true := setD_self d 4
  have e9 : setD d 4 9 = false := (setD_ne d (by decide)).trans d9
  have e11 : setD d 4 11 = false := (setD_ne d (by decide)).trans d11
  have e13 : setD d 4 13 = false := (setD_ne d (by decide)).trans d13
  refine ⟨?_, h.rb.block (q3 BA h.rb.lt (fun e => hn1 e.symm)) q2, ?_, ?_, Nat.le_trans h.sz q2⟩
  · rw [e4, e9, e11, e13]; exact hs.app1 hB q1 q2 q3 q4
  · rw [e4]
    show a'.ownBlock ≠ some BA
    rcases q4 with q4 | q4
    · rw [q4]; exact hn1
    · rw [q4]; intro e; injection e with e; have := h.rb.lt; omega
  · rw [e9]; exact hn2
/-- Behind operation 9. -/
theorem TwoR.do9 (h : TwoR wS wM B1 B2 BA N0 f1 f2 v1 l1 v2 l2 r d x w) (hB : TwoB wS wM B1 B2) (d4 : d 4 = true) (d9 : d 9 = false) (d11 : d 11 = false) (d13 : d 13 = false) {a' : Value} (q1 : OBM 4 wS.heap.size wS a' (l2.length + 1) (flatR l2 ++ recCells r) w') (q2 : w.heap.size ≤ w'.heap.size)
    (q3 : ∀ k, k < w.heap.size → some k ≠ v2.ownBlock → w'.heap[k]? = w.heap[k]?) (q4 : a'.ownBlock = v2.ownBlock ∨ a'.ownBlock = some w.heap.size) : TwoR wS wM B1 B2 BA N0 f1 f2 v1 l1 v2 l2 r (setD d 9) (fun j => if j = 9 then a' else x j) w' := by
  obtain ⟨hs, hn1, hn2⟩ := h.s4 d4 d9 d11 d13
  have e4 : setD d 9 4 = true := (setD_ne d (by decide)).trans d4
  have e9 : setD d 9 9 = true := setD_self d 9
  have e11 : setD d 9 11 = false := (setD_ne d (by decide)).trans d11
  have e13 : setD d 9 13 = false := (setD_ne d (by decide)).trans d13
  refine ⟨?_, h.rb.block (q3 BA h.rb.lt (fun e => hn2 e.symm)) q2, ?_, ?_, Nat.le_trans h.sz q2⟩
  · rw [e4, e9, e11, e13]; exact hs.app2 hB q1 q2 q3 q4
  · rw [e4]; exact hn1
  · rw [e9]
    show a'.ownBlock ≠ some BA
    rcases q4 with q4 | q4
    · rw [q4]; exact hn2
    · rw [q4]; intro e; injection e with e; have := h.rb.lt; omega
theorem TwoR.do11 (h : TwoR wS wM B1 B2 BA N0 f1 f2 v1 l1 v2 l2 r d x w) (hB : TwoB wS wM B1 B2) (hA : B1 ≠ BA) (d4 : d 4 = true) (d9 : d 9 = true) (d11 : d 11 = false) (d13 : d 13 = false) (j : Nat) (hj : j < (f1 v1).length) (hf : (f1 v1).set j (x 4) = f1 (x 4)) {u : Value} :
    TwoR wS wM B1 B2 BA N0 f1 f2 v1 l1 v2 l2 r (setD d 11) (fun j => if j = 11 then u else x j) (w.setCell ⟨B1, j, none⟩ (x 4)) := by
  obtain ⟨hs, hn1, hn2⟩ := h.s9 d4 d9 d11 d13
  have e4 : setD d 11 4 = true := (setD_ne d (by decide)).trans d4
  have e9 : setD d 11 9 = true := (setD_ne d (by decide)).trans d9
  have e11 : setD d 11 11 = true := setD_self d 11
  have e13 : setD d 11 13 = false := (setD_ne d (by decide)).trans d13
  refine ⟨?_, h.rb.other B1 j _ hA, ?_, ?_, by simpa using h.sz⟩
  · rw [e4, e9, e11, e13]; exact hs.sto1 hB j (x 4) hj hf
  · rw [e4]; exact hn1
  · rw [e9]; exact hn2
theorem TwoR.do13 (h : TwoR wS wM B1 B2 BA N0 f1 f2 v1 l1 v2 l2 r d x w) (hB : TwoB wS wM B1 B2) (hA : B2 ≠ BA) (d4 : d 4 = true) (d9 : d 9 = true) (d11 : d 11 = true) (d13 : d 13 = false) (j : Nat) (hj : j < (f2 v2).length) (hf : (f2 v2).set j (x 9) = f2 (x 9)) {u : Value} :
    TwoR wS wM B1 B2 BA N0 f1 f2 v1 l1 v2 l2 r (setD d 13) (fun j => if j = 13 then u else x j) (w.setCell ⟨B2, j, none⟩ (x 9)) := by
  obtain ⟨hs, hn1, hn2⟩ := h.s11 d4 d9 d11 d13
  have e4 : setD d 13 4 = true := (setD_ne d (by decide)).trans d4
  have e9 : setD d 13 9 = true := (setD_ne d (by decide)).trans d9
  have e11 : setD d 13 11 = true := (setD_ne d (by decide)).trans d11
  have e13 : setD d 13 13 = true := setD_self d 13
  refine ⟨?_, h.rb.other B2 j _ hA, ?_, ?_, by simpa using h.sz⟩
  · rw [e4, e9, e11, e13]; exact hs.sto2 hB j (x 9) hj hf
  · rw [e4]; exact hn1
  · rw [e9]; exact hn2
end
def anyX : WordX := fun _ _ _ => True
theorem anyX_stays : StaysX anyX := fun _ _ _ _ _ _ _ _ => trivial
/-- A slice of n elements over a block of these cells, which lies above B. -/
def litC (B n : Nat) (vs : List Value) : Value → World → Prop := fun v w => ∃ g, v = .slice (some ⟨g, 0, none⟩) n n ∧ B ≤ g ∧ Cs w g vs
theorem litC_stays (B n : Nat) (vs : List Value) : ∀ v w w', litC B n vs v w → Goes w w' → litC B n vs v w' := by
  rintro v w w' ⟨g, rfl, hB, h⟩ hb
  exact ⟨g, rfl, hB, h.below hb⟩
theorem until_mono11 {k : Nat} {p : Value → World → Prop} {d : Nat → Bool} {K : Nat} {v : Value} {w : World} (h : until_ k p d v w) : until_ k p (setD d K) v w := fun hk => h (setD_false hk)
/-- A delta's cells, by its gone records; by its new ones. -/
def dF2 (o D1 D2 : ByteArray) (vn : Value) : Value → List Value := fun v => [.string o, .int .u16 6, .int .u32 9, .string D1, .string o, .int .u16 6, .int .u32 9, .string D2, v, vn]
def dF3 (o D1 D2 : ByteArray) (vg : Value) : Value → List Value := fun v => [.string o, .int .u16 6, .int .u32 9, .string D1, .string o, .int .u16 6, .int .u32 9, .string D2, vg, v]
end Go.Proofs.YteaeplceahdioaaDoor
namespace Go.Proofs.YteaeplceahdioaaDoor
open Go.RowKit
set_option linter.unusedVariables false
set_option linter.unusedSimpArgs false
set_option maxRecDepth 20000
attribute [local simp] putsF isV wordOf Deps Region.binds Region.wanted Act.put wantedX isB
theorem notyet {ops : Array Oper} {d : Nat → Bool} (hcl : ClosedX ops d) {i j : Nat} (hr : reachX ops 20 i j = true) (h : d i = false) : d j = false := by
  cases e : d j with
  | false => rfl
  | true => have := hcl.reach 20 i j hr e; rw [h] at this; cases this
theorem recs_keep {w w' : World} {A : Option Addr} {rs : List RecT} {P : Nat → Prop} (h : Recs w A rs) (hk : ∀ k, k < w.heap.size → ¬ P k → w'.heap[k]? = w.heap[k]?) (hs : w.heap.size ≤ w'.heap.size) (hP : ∀ b off, A = some ⟨b, off, none⟩ → rs ≠ [] → ¬ P b) : Recs w' A rs := by
  intro i r hr
  obtain ⟨b, off, hA, hb, h0, h1, h2, h3⟩ := h i r hr
  have hne : rs ≠ [] := fun e => by rw [e] at hr; simp at hr
  have hbk := hk b hb (hP b off hA hne)
  refine ⟨b, off, hA, Nat.lt_of_lt_of_le hb hs, ?_, ?_, ?_, ?_⟩
  · rw [World.cell?_of_block (w := w) hbk]; exact h0
  · rw [World.cell?_of_block (w := w) hbk]; exact h1
  · rw [World.cell?_of_block (w := w) hbk]; exact h2
  · rw [World.cell?_of_block (w := w) hbk]; exact h3
theorem OBM.rowR2 {B n c : Nat} {W w : World} {A : Option Addr} {l : List RecT} (h : OBM 4 B W (.slice A n c) n (flatR l) w) (hn : l.length = n) : RowROk w (A, n, c, l) := by
  obtain ⟨A', c', e, h1, h2, h3⟩ := h.slice
  injection e with ea eb ec
  subst ea ec
  exact ⟨h.sl, fun e => (h3 e).1, hn⟩
set_option maxHeartbeats 6400000 in
theorem applyBack_walk (w : World) (hE : Etype w) (z : Int) (hz : (Lit.int .u8 z).wf = true) (A : Option Addr) (n c : Nat) (ds : List ActT) (hV : Acts5 w A n c ds) (A2 : Option Addr) (n2 c2 : Nat) (ds2 : List ActT) (hV2 : Acts5 w A2 n2 c2 ds2) :
    Calls Tryd.prog 7 #[.int .u8 z, .slice A n c, .slice A2 n2 c2] w fun e w' => e = .returned (.bool true) ∧ Below w.heap.size w w' := by
  have hz8 := u8_wf hz
  obtain ⟨on, rfl⟩ : ∃ on : Nat, z = on := ⟨z.toNat, by omega⟩
  obtain ⟨i0, hi, hz0, hz1, hz2⟩ := info_parts4 rec_info
  have OG := Lib.hid (fun w => origin_any on (by omega) w)
  have hob : (originB on).size ≤ maxLen := Nat.le_trans (originB_small on) (by decide)
  generalize originB on = o at *
  have hbk := back_there o ds ds2 15
  obtain ⟨a, ha⟩ : ∃ a, a = zoneR o 1 ds 15 := ⟨_, rfl⟩
  obtain ⟨b, hb⟩ : ∃ b, b = zoneR o 2 ds2 15 := ⟨_, rfl⟩
  have ZA : Hid (∀ wx, Below w.heap.size w wx → Calls Tryd.prog 18 #[.string o, .int .u32 1, .slice A n c, .int .i64 15] wx fun e w' => ∃ v, e = .returned v ∧ OBM 4 wx.heap.size wx v a.length (flatR a) w') := Lib.hid (fun wx hbx => by rw [ha]; exact zone10_any o 1 (by omega) A n c 15 ds wx (hV.at_.below hbx) hV.most (by decide) hob)
  have ZB : Hid (∀ wx, Below w.heap.size w wx → Calls Tryd.prog 18 #[.string o, .int .u32 2, .slice A2 n2 c2, .int .i64 15] wx fun e w' => ∃ v, e = .returned v ∧ OBM 4 wx.heap.size wx v b.length (flatR b) w') := Lib.hid (fun wx hbx => by rw [hb]; exact zone10_any o 2 (by omega) A2 n2 c2 15 ds2 wx (hV2.at_.below hbx) hV2.most (by decide) hob)
  have SO1 : Hid (∀ w, Calls Tryd.prog 12 #[.string o, .int .u32 1] w fun e w' => e = .returned (.agg #[.string o, .int .u16 6, .int .u32 9, .string (soaD 1)]) ∧ Below w.heap.size w w') := Lib.hid (fun w => soa9_any o 1 (by omega) w)
  have SO2 : Hid (∀ w, Calls Tryd.prog 12 #[.string o, .int .u32 2] w fun e w' => e = .returned (.agg #[.string o, .int .u16 6, .int .u32 9, .string (soaD 2)]) ∧ Below w.heap.size w w') := Lib.hid (fun w => soa9_any o 2 (by omega) w)
  unfold soaR at hbk
  generalize soaD 1 = D1 at *
  generalize soaD 2 = D2 at *
  have hal : a.length ≤ 16 := by rw [ha]; exact zoneR_len _ _ _ _
  have hbl : b.length ≤ 16 := by rw [hb]; exact zoneR_len _ _ _ _
  have HRA : Hid (Rising a) := Lib.hid (by rw [ha]; exact zoneR_rising _ _ _ _)
  have HRB : Hid (Rising b) := Lib.hid (by rw [hb]; exact zoneR_rising _ _ _ _)
  rw [← ha, ← hb] at hbk
  have HBK := Lib.hid hbk
  have HET := Lib.hid hE
  clear ha hb hob hz hV hV2 hz8 hE hbk
  go_enter Tryd.func7, Tryd.ntmps7
  go_wp2_with fail
  refine (awake10_any _ HET.out).mono ?_
  rintro e w1 ⟨rfl, hb1⟩
  have HB1 := Lib.hid hb1
  clear hb1
  go_wp2_with fail
  refine (OG.out _).mono ?_
  rintro e w2 ⟨rfl, hb2⟩
  have HB2 := Lib.hid (below_trans HB1.out HB1.out.size hb2)
  clear hb2 OG
  go_wp2_with fail
  refine (ZA.out _ HB2.out).mono ?_
  rintro e w3 ⟨va, rfl, hoa⟩
  have HB3 := Lib.hid (below_trans HB2.out HB2.out.size hoa.bel)
  have HOA := Lib.hid hoa
  obtain ⟨AA, CA, rfl, ha1, ha2, -⟩ := hoa.slice
  clear hoa ZA
  go_wp2_with fail
  refine (ZB.out _ HB3.out).mono ?_
  rintro e w4 ⟨vb, rfl, hob⟩
  have HB4 := Lib.hid (below_trans HB3.out HB3.out.size hob.bel)
  obtain ⟨AB, CB, rfl, hb1, hb2, -⟩ := hob.slice
  have HOB := Lib.hid hob
  have HOA4 := Lib.hid (HOA.out.keep hob.bel (Nat.le_refl _))
  obtain ⟨la, hla⟩ : ∃ la, la = a.length := ⟨_, rfl⟩
  obtain ⟨lb, hlb⟩ : ∃ lb, lb = b.length := ⟨_, rfl⟩
  rw [← hla] at hal ha1
  rw [← hlb] at hbl hb1
  rw [← hla, ← hlb]
  have HLA := Lib.hid hla
  have HLB := Lib.hid hlb
  clear hob HOA hla hlb ZB
  go_wp2_with fail
  refine (SO1.out _).mono ?_
  rintro e w5 ⟨rfl, hb5⟩
  have HB5 := Lib.hid hb5
  clear hb5
  go_wp2_with fail
  refine (SO2.out _).mono ?_
  rintro e w6 ⟨rfl, hb6⟩
  have HB6 := Lib.hid (below_trans HB5.out HB5.out.size hb6)
  clear hb6
  go_wp2_with fail
  refine (SO2.out _).mono ?_
  rintro e w7 ⟨rfl, hb7⟩
  have HB7 := Lib.hid (below_trans HB6.out HB6.out.size hb7)
  clear hb7
  go_wp2_with fail
  refine (SO1.out _).mono ?_
  rintro e w8 ⟨rfl, hb8⟩
  have HB8 := Lib.hid (below_trans HB7.out HB7.out.size hb8)
  clear hb8 SO1 SO2 HB5 HB6 HB7
  go_upto_region 6 with fail
  obtain ⟨B1, hB1⟩ : ∃ B, B = w8.heap.size := ⟨_, rfl⟩
  obtain ⟨B2, hB2⟩ : ∃ B, B = w8.heap.size + 1 := ⟨_, rfl⟩
  obtain ⟨wb, hwb⟩ : ∃ wb, wb = ((w8.alloc (.cells #[.string o, .int .u16 6, .int .u32 9, .string D1, .string o, .int .u16 6, .int .u32 9, .string D2, .slice none 0 0, .slice none 0 0] 48)).alloc (.cells #[.string o, .int .u16 6, .int .u32 9, .string D2, .string o, .int .u16 6, .int .u32 9, .string D1, .slice none 0 0, .slice none 0 0] 48)) := ⟨_, rfl⟩
  have hbb : Below w8.heap.size w8 wb := by rw [hwb]; exact ((Below.refl w8.heap.size w8).alloc (Nat.le_refl _) _).alloc (by simp) _
  have hc1 : Cs wb B1 (dF2 o D1 D2 (.slice none 0 0) (.slice none 0 0)) := by rw [hwb, hB1]; exact (Cs.new w8 _ _ _).alloc _
  have hc2 : Cs wb B2 (dF3 o D2 D1 (.slice none 0 0) (.slice none 0 0)) := by rw [hwb, hB2]; exact (Cs.new (w8.alloc (.cells #[.string o, .int .u16 6, .int .u32 9, .string D1, .string o, .int .u16 6, .int .u32 9, .string D2, .slice none 0 0, .slice none 0 0] 48)) _ _ _).at_ _ (by simp)
  have HBB := Lib.hid hbb
  have HC1 := Lib.hid hc1
  have HC2 := Lib.hid hc2
  have HB1E := Lib.hid hB1
  have HB2E := Lib.hid hB2
  rw [← hwb, ← hB2, ← hB1]
  have HRA8 : Hid (Recs w8 AA a) := Lib.hid ((HOA4.out.recs rfl).below HB8.out)
  have HZA8 : Hid (ZoneAt w8 (.slice AA la CA) a) := Lib.hid (by
    have h := HOA4.out.zone.below HB8.out
    rw [← HLA.out] at h
    exact h)
  have HRB8 : Hid (Recs w8 AB b) := Lib.hid ((HOB.out.recs rfl).below HB8.out)
  have HBS := Lib.hid (below_trans HB4.out HB4.out.size HB8.out)
  have BT := Lib.hid (between_any AA AB la CA lb CB a b wb (HRA8.out.below hbb) HLA.out.symm (by omega) (HRB8.out.below hbb) HLB.out.symm (by omega))
  clear hwb hB1 hB2 hbb hc1 hc2
  go_wp2_with fail
  refine BT.out.mono ?_
  rintro e w9 ⟨vg, vf, rfl, hog, hof, -⟩
  obtain ⟨G, hG⟩ : ∃ G, G = woR a b := ⟨_, rfl⟩
  obtain ⟨F, hF⟩ : ∃ F, F = woR b a := ⟨_, rfl⟩
  have hbk := HBK.out
  rw [← hG, ← hF] at hbk
  rw [← hG] at hog
  rw [← hF] at hof
  have HBK := Lib.hid hbk
  have hGl : G.length ≤ 16 := by rw [hG]; have := woR_le a b; have := HLA.out; omega
  have hFl : F.length ≤ 16 := by rw [hF]; have := woR_le b a; have := HLB.out; omega
  obtain ⟨AG, CG, rfl, hg1, hg2, hg3⟩ := hog.slice3
  obtain ⟨AF, CF, rfl, hf1, hf2, hf3⟩ := hof.slice3
  have HBS9 : Hid (Below w8.heap.size w8 w9) := Lib.hid (below_trans HBB.out HBB.out.size hog.bel)
  have hlt1 := HC1.out.lt
  have hlt2 := HC2.out.lt
  have hsz := hog.bel.size
  have Hw9 : Hid (TwoB w8 w9 B1 B2) := Lib.hid ⟨by have := HB1E.out; omega, by have := HB2E.out; omega, by omega, by omega, by have := HB1E.out; have := HB2E.out; omega⟩
  have RECG : Hid (∀ wx, (∀ k, k < w9.heap.size → k ≠ B1 → k ≠ B2 → wx.heap[k]? = w9.heap[k]?) → w9.heap.size ≤ wx.heap.size → Recs wx AG G) := Lib.hid (fun wx hk hs => recs_keep (P := fun k => k = B1 ∨ k = B2) (hog.recs rfl) (fun k h1 h2 => hk k h1 (fun e => h2 (.inl e)) (fun e => h2 (.inr e))) hs (fun b off hA hne => by
    rcases hg3 with ⟨h0, -, -⟩ | ⟨g, h0, h1, h2⟩
    · rw [h0] at hA; cases hA
    · rw [h0] at hA; injection hA with hA; injection hA with hA; subst hA; omega))
  have RECF9 : Hid (∀ wx, (∀ k, k < w9.heap.size → k ≠ B1 → k ≠ B2 → wx.heap[k]? = w9.heap[k]?) → w9.heap.size ≤ wx.heap.size → Recs wx AF F) := Lib.hid (fun wx hk hs => recs_keep (P := fun k => k = B1 ∨ k = B2) (hof.recs rfl) (fun k h1 h2 => hk k h1 (fun e => h2 (.inl e)) (fun e => h2 (.inr e))) hs (fun b off hA hne => by
    rcases hf3 with ⟨h0, -, -⟩ | ⟨g, h0, h1, h2⟩
    · rw [h0] at hA; cases hA
    · rw [h0] at hA; injection hA with hA; injection hA with hA; subst hA; omega))
  have HFB : Hid (∀ b off, AF = some ⟨b, off, none⟩ → b ≠ B1 ∧ b ≠ B2) := Lib.hid (fun b off hA => by
    rcases hf3 with ⟨h0, -, -⟩ | ⟨g, h0, h1, h2⟩
    · rw [h0] at hA; cases hA
    · rw [h0] at hA; injection hA with hA; injection hA with hA; subst hA; omega)
  obtain ⟨lg, hlg⟩ : ∃ lg, lg = G.length := ⟨_, rfl⟩
  obtain ⟨lf, hlf⟩ : ∃ lf, lf = F.length := ⟨_, rfl⟩
  rw [← hlg] at hGl hg1
  rw [← hlf] at hFl hf1
  rw [← hlg, ← hlf]
  have HLG := Lib.hid hlg
  have HLF := Lib.hid hlf
  have HSTART : Hid (TwoS w8 w9 B1 B2 (dF2 o D1 D2 (.slice none 0 0)) (dF3 o D2 D1 (.slice none 0 0)) (.slice none 0 0) (.slice none 0 0) (.slice none 0 0) (nosoa (G.take 0)) (.slice none 0 0) (nosoa (G.take 0)) w9) := Lib.hid ⟨HBS9.out, Nat.le_refl _, fun _ _ _ _ => rfl, HC1.out.below hog.bel, HC2.out.below hog.bel, OBM.nil HBS9.out HBS9.out.size, OBM.nil HBS9.out HBS9.out.size, (fun k h => by cases h), (fun k h => by cases h)⟩
  obtain ⟨wS, hwS⟩ : ∃ v, v = w8 := ⟨_, rfl⟩
  rw [← hwS] at HSTART HZA8 HRA8 HRB8 HBS Hw9 HBS9
  clear hwS hog hof hG hF hbk hg1 hg2 hg3 hf1 hf2 hf3 hlt1 hlt2 hsz hlg hlf BT HC1 HC2 HOA4 HOB HB8 HBB HB1E HB2E
  go_wp2_with fail
  go_loopw [50] (fun i wr => ∃ (k : Nat) (W1 W2 : Value), k ≤ lg ∧ i = .int .i64 k ∧ Hid (TwoS wS w9 B1 B2 (dF2 o D1 D2 (.slice none 0 0)) (dF3 o D2 D1 (.slice none 0 0)) W1 W2 W1 (nosoa (G.take k)) W2 (nosoa (G.take k)) wr)) (fun i _ => lg - (intOf i).toNat)
  case atStart => exact ⟨0, _, _, Nat.zero_le _, rfl, HSTART⟩
  case round =>
    obtain ⟨k, W1, W2, hk, rfl, HT⟩ := hrel
    by_cases hlt : k < lg
    · have hlt' : (k : Int) < lg := by omega
      have hk0 : ¬ (k : Int) < 0 := by omega
      obtain ⟨r, hr⟩ : ∃ q, G[k]? = some q := ⟨_, List.getElem?_eq_getElem (by rw [← HLG.out]; exact hlt)⟩
      obtain ⟨g, off, rfl, hg, z0, z1, z2, z3⟩ := (RECG.out wr (fun q hq h1 h2 => HT.out.keep q hq h1 h2) HT.out.size) k _ hr
      obtain ⟨wa, hwa⟩ : ∃ wa, wa = wr.alloc (.cells #[.string r.1, .int .u16 r.2.1, .int .u32 r.2.2.1, .string r.2.2.2] 32) := ⟨_, rfl⟩
      obtain ⟨BA, hBA⟩ : ∃ B, B = wr.heap.size := ⟨_, rfl⟩
      have HCA : Hid (Cs wa BA [.string r.1, .int .u16 r.2.1, .int .u32 r.2.2.1, .string r.2.2.2]) := Lib.hid (by rw [hwa, hBA]; exact Cs.new wr _ _ _)
      have HTA : Hid (TwoS wS w9 B1 B2 (dF2 o D1 D2 (.slice none 0 0)) (dF3 o D2 D1 (.slice none 0 0)) W1 W2 W1 (nosoa (G.take k)) W2 (nosoa (G.take k)) wa) := Lib.hid (by rw [hwa]; exact HT.out.goes ((Below.refl _ _).alloc (Nat.le_refl _) _))
      have HBAW : Hid (BA = wr.heap.size) := Lib.hid hBA
      have hbm : B1 < BA ∧ B2 < BA := by have := HT.out.size; have := Hw9.out.m1; have := Hw9.out.m2; omega
      have HBM := Lib.hid hbm
      have HN1 : Hid (W1.ownBlock ≠ some BA) := Lib.hid (fun e => by have := (HT.out.o1.lt _ e).2; omega)
      have HN2 : Hid (W2.ownBlock ≠ some BA) := Lib.hid (fun e => by have := (HT.out.o2.lt _ e).2; omega)
      have HWA := Lib.hid hwa
      have HBA := Lib.hid hBA
      have HR := Lib.hid hr
      have hkl : (nosoa (G.take k)).length ≤ 100 := by
        have h2 := nosoa_le (G.take k)
        simp at h2; omega
      clear hwa hBA hr HT hbm
      go_upto_region 10 with fail
      rw [← HWA.out, ← HBA.out]
      have c0 := HCA.out.get 0 _
      have c1 := HCA.out.get 1 _
      have c2 := HCA.out.get 2 _
      have c3 := HCA.out.get 3 _
      have cl := HCA.out.lt
      clear z0 z1 z2 z3
      by_cases ht : r.2.1 = 6
      · have ht6 : (r.2.1 != 6) = false := by simp [ht]
        have HNX := Lib.hid (nosoa_yes HR.out (show isSoaR r = true by unfold isSoaR; simp [ht]))
        clear ht
        go_wp2_with fail
        go_roundw
        case rel => exact ⟨k + 1, _, _, by omega, by go_num, Lib.hid (by rw [HNX.out]; exact HTA.out)⟩
        case measure => simp [intOf]; omega
      · have ht6 : (r.2.1 != 6) = true := by simp [ht]
        have HNX := Lib.hid (nosoa_no HR.out (show isSoaR r = false by unfold isSoaR; simp [ht]))
        clear ht
        obtain ⟨K, hK⟩ : ∃ K, K = nosoa (G.take k) := ⟨_, rfl⟩
        rw [← hK] at HTA HNX hkl
        clear hK
        obtain ⟨A1, C1, hv1, -⟩ := HTA.out.o1.slice
        obtain ⟨A2, C2, hv2, -⟩ := HTA.out.o2.slice
        have HV1 := Lib.hid hv1
        have HV2 := Lib.hid hv2
        clear hv1 hv2
        go_upto_region 11 with fail
        refine wp_region_expR app_follows (fun x => by simp [putsF, Act.put]; rfl) (TwoR wS w9 B1 B2 BA wa.heap.size (dF2 o D1 D2 (.slice none 0 0)) (dF3 o D2 D1 (.slice none 0 0)) W1 K W2 K r)
          [isX (.pointer (some ⟨B1, 8, none⟩)), isX W1, isX (.agg #[.string r.1, .int .u16 r.2.1, .int .u32 r.2.2.1, .string r.2.2.2]), until_ 4 (litC wa.heap.size 1 [.string r.1, .int .u16 r.2.1, .int .u32 r.2.2.1, .string r.2.2.2]), anyX, isX (.pointer (some ⟨B2, 9, none⟩)), isX W2, isX (.agg #[.string r.1, .int .u16 r.2.1, .int .u32 r.2.2.1, .string r.2.2.2]), until_ 9 (litC wa.heap.size 1 [.string r.1, .int .u16 r.2.1, .int .u32 r.2.2.1, .string r.2.2.2]), anyX, isX (.pointer (some ⟨B1, 8, none⟩)), anyX, isX (.pointer (some ⟨B2, 9, none⟩)), anyX]
          [1, 4, 6, 9, 11, 13] (by kernel_rfl) (by kernel_rfl) (by kernel_rfl) rfl ?_ (TwoR.start (HTA.out.goes (Below.refl _ _).drew) (HCA.out.drewN 1) HN1.out HN2.out (Nat.le_refl _)) ?_ ?_ ?_
        · repeat (first | exact trivial | refine ⟨by first | exact isX_stays _ | exact anyX_stays | exact until_stays (litC_stays _ _ _), ?_⟩)
        · refine ⟨?_, skipped rfl, ?_, ?_, skipped rfl, ?_, skipped rfl, ?_, ?_, skipped rfl, ?_, skipped rfl, ?_, skipped rfl, trivial⟩
          all_goals
            intro _ d x wx hR hdi hsrc hd
            refine ⟨fun _ => ?_, fun hX => by simp at hX⟩
            simp [wordX, isX] at hd ⊢
            have c0 := hR.rb.get 0 _
            have c1 := hR.rb.get 1 _
            have c2 := hR.rb.get 2 _
            have c3 := hR.rb.get 3 _
            have cl := hR.rb.lt
          · go_simp; exact nextXR _ rfl rfl (hR.next (by decide) (Below.refl _ _)) (Below.refl _ _)
          · go_simp; exact nextXR _ rfl rfl (hR.next (by decide) (Below.refl _ _)) (Below.refl _ _)
          · have hv : x 2 = .agg #[.string r.1, .int .u16 r.2.1, .int .u32 r.2.2.1, .string r.2.2.2] := by first | exact hd | exact hd.1
            simp only [hv]
            clear hd hv
            go_simp
            exact nextXR _ rfl (until_of ⟨_, rfl, hR.sz, Cs.new _ _ _ _⟩) (hR.next (by decide) ((Below.refl wx.heap.size wx).alloc (Nat.le_refl _) _)) ((Below.refl wx.heap.size wx).alloc (Nat.le_refl _) _)
          · go_simp; exact nextXR _ rfl rfl (hR.next (by decide) (Below.refl _ _)) (Below.refl _ _)
          · go_simp; exact nextXR _ rfl rfl (hR.next (by decide) (Below.refl _ _)) (Below.refl _ _)
          · have hv : x 7 = .agg #[.string r.1, .int .u16 r.2.1, .int .u32 r.2.2.1, .string r.2.2.2] := by first | exact hd | exact hd.1
            simp only [hv]
            clear hd hv
            go_simp
            exact nextXR _ rfl (until_of ⟨_, rfl, hR.sz, Cs.new _ _ _ _⟩) (hR.next (by decide) ((Below.refl wx.heap.size wx).alloc (Nat.le_refl _) _)) ((Below.refl wx.heap.size wx).alloc (Nat.le_refl _) _)
          · go_simp; exact nextXR _ rfl rfl (hR.next (by decide) (Below.refl _ _)) (Below.refl _ _)
          · go_simp; exact nextXR _ rfl rfl (hR.next (by decide) (Below.refl _ _)) (Below.refl _ _)
        · refine ⟨unskipped rfl, ?_, unskipped rfl, unskipped rfl, ?_, unskipped rfl, ?_, unskipped rfl, unskipped rfl, ?_, unskipped rfl, ?_, unskipped rfl, ?_, trivial⟩
          · -- the first load
            intro _ d x wx hR hdi hcl hsrc hd
            refine ⟨fun _ => ?_, fun hX => by simp at hX⟩
            have d4 := notyet hcl (i := 1) (j := 4) (by kernel_rfl) hdi
            have d9 := notyet hcl (i := 1) (j := 9) (by kernel_rfl) hdi
            have d11 := notyet hcl (i := 1) (j := 11) (by kernel_rfl) hdi
            have d13 := notyet hcl (i := 1) (j := 13) (by kernel_rfl) hdi
            obtain ⟨hst, -, -⟩ := hR.s0 d4 d9 d11 d13
            have d0 : d 0 = true := SrcX.reach (K := 1) hcl hsrc rfl 20 0 (by decide) (by kernel_rfl)
            simp only [DoneX] at hd
            obtain ⟨h0, -⟩ := hd
            have hx0 : x 0 = .pointer (some ⟨B1, 8, none⟩) := h0 d0
            have k8 := hst.box1.get 8 _
            have kl := hst.box1.lt
            try dsimp only
            rw [hx0]
            clear h0 hx0
            go_simp
            refine nextKR _ rfl rfl (hR.next (by decide) (Below.refl _ _)) ?_
            exact ⟨fun _ _ h => h, fun _ _ h => h, fun _ _ h => h, fun _ _ h => until_mono11 h, fun _ _ h => h, fun _ _ h => h, fun _ _ h => h, fun _ _ h => h, fun _ _ h => until_mono11 h, fun _ _ h => h, fun _ _ h => h, fun _ _ h => h, fun _ _ h => h, fun _ _ h => h, trivial⟩
          · -- the first append
            intro _ d x wx hR hdi hcl hsrc hd
            refine ⟨fun _ => ?_, fun hX => by simp at hX⟩
            have d9 := notyet hcl (i := 4) (j := 9) (by kernel_rfl) hdi
            have d11 := notyet hcl (i := 4) (j := 11) (by kernel_rfl) hdi
            have d13 := notyet hcl (i := 4) (j := 13) (by kernel_rfl) hdi
            obtain ⟨hst, -, -⟩ := hR.s0 hdi d9 d11 d13
            have d1 : d 1 = true := SrcX.reach (K := 4) hcl hsrc rfl 20 1 (by decide) (by kernel_rfl)
            have d3 : d 3 = true := SrcX.reach (K := 4) hcl hsrc rfl 20 3 (by decide) (by kernel_rfl)
            simp only [DoneX] at hd
            obtain ⟨-, h1, -, h3, -⟩ := hd
            have hx1 : x 1 = W1 := h1 d1
            obtain ⟨g3, hx3, hg3, hc3⟩ : litC wa.heap.size 1 [.string r.1, .int .u16 r.2.1, .int .u32 r.2.2.1, .string r.2.2.2] (x 3) wx := h3 d3 hdi
            try dsimp only
            rw [hx1, hx3]
            refine oper_append_obm _ _ _ _ rfl 32 i0 _ 40 Tryd.underlying26 hi hz0 hz1 hz2 rfl hst.o1 rfl rfl
              (Src.ofSlice _ Tryd.underlying26 ⟨g3, 0, none⟩ 1 1 [.string r.1, .int .u16 r.2.1, .int .u32 r.2.2.1, .string r.2.2.2] rfl (fun j u hu => by rw [Addr.add_lit, Nat.zero_add]; exact hc3.get j u hu) (recCells_one r)) rfl (by unfold maxLen; omega) (by omega) ?_
            intro v' w' q1 q2 q3 q4
            refine nextKR v' rfl trivial (hR.do4 Hw9.out hdi d9 d11 d13 q1 q2 q3 q4) ?_
            exact ⟨fun _ _ h => h, fun _ _ h => h, fun _ _ h => h, fun _ _ _ => until_self, fun _ _ h => h, fun _ _ h => h, fun _ _ h => h, fun _ _ h => h, fun _ _ h hk => (by
              obtain ⟨g8, hx8, hg8, hc8⟩ := h (setD_false hk)
              exact ⟨g8, hx8, hg8, hc8.block (q3 g8 hc8.lt (fun e => by have := (HTA.out.o1.lt g8 e.symm).2; omega)) q2⟩), fun _ _ h => h, fun _ _ h => h, fun _ _ h => h, fun _ _ h => h, fun _ _ h => h, trivial⟩
          · -- the second load
            intro _ d x wx hR hdi hcl hsrc hd
            refine ⟨fun _ => ?_, fun hX => by simp at hX⟩
            have d9 := notyet hcl (i := 6) (j := 9) (by kernel_rfl) hdi
            have d11 := notyet hcl (i := 6) (j := 11) (by kernel_rfl) hdi
            have d13 := notyet hcl (i := 6) (j := 13) (by kernel_rfl) hdi
            have d5 : d 5 = true := SrcX.reach (K := 6) hcl hsrc rfl 20 5 (by decide) (by kernel_rfl)
            have hbx : Cs wx B2 ((dF3 o D2 D1 (.slice none 0 0)) W2) := by
              have h := hR.st.box2
              rw [d13] at h
              exact h
            simp only [DoneX] at hd
            obtain ⟨-, -, -, -, -, h5, -⟩ := hd
            have hx5 : x 5 = .pointer (some ⟨B2, 9, none⟩) := h5 d5
            have k8 := hbx.get 9 _
            have kl := hbx.lt
            try dsimp only
            rw [hx5]
            clear h5 hx5
            go_simp
            refine nextKR _ rfl rfl (hR.next (by decide) (Below.refl _ _)) ?_
            exact ⟨fun _ _ h => h, fun _ _ h => h, fun _ _ h => h, fun _ _ h => until_mono11 h, fun _ _ h => h, fun _ _ h => h, fun _ _ h => h, fun _ _ h => h, fun _ _ h => until_mono11 h, fun _ _ h => h, fun _ _ h => h, fun _ _ h => h, fun _ _ h => h, fun _ _ h => h, trivial⟩
          · -- the second append
            intro _ d x wx hR hdi hcl hsrc hd
            refine ⟨fun _ => ?_, fun hX => by simp at hX⟩
            have d11 := notyet hcl (i := 9) (j := 11) (by kernel_rfl) hdi
            have d13 := notyet hcl (i := 9) (j := 13) (by kernel_rfl) hdi
            have d4 : d 4 = true := SrcX.reach (K := 9) hcl hsrc rfl 20 4 (by decide) (by kernel_rfl)
            obtain ⟨hst, -, -⟩ := hR.s4 d4 hdi d11 d13
            have d6 : d 6 = true := SrcX.reach (K := 9) hcl hsrc rfl 20 6 (by decide) (by kernel_rfl)
            have d8 : d 8 = true := SrcX.reach (K := 9) hcl hsrc rfl 20 8 (by decide) (by kernel_rfl)
            simp only [DoneX] at hd
            obtain ⟨-, -, -, -, -, -, h6, -, h8, -⟩ := hd
            have hx6 : x 6 = W2 := h6 d6
            obtain ⟨g8, hx8, hg8, hc8⟩ : litC wa.heap.size 1 [.string r.1, .int .u16 r.2.1, .int .u32 r.2.2.1, .string r.2.2.2] (x 8) wx := h8 d8 hdi
            try dsimp only
            rw [hx6, hx8]
            refine oper_append_obm _ _ _ _ rfl 32 i0 _ 40 Tryd.underlying26 hi hz0 hz1 hz2 rfl hst.o2 rfl rfl
              (Src.ofSlice _ Tryd.underlying26 ⟨g8, 0, none⟩ 1 1 [.string r.1, .int .u16 r.2.1, .int .u32 r.2.2.1, .string r.2.2.2] rfl (fun j u hu => by rw [Addr.add_lit, Nat.zero_add]; exact hc8.get j u hu) (recCells_one r)) rfl (by unfold maxLen; omega) (by omega) ?_
            intro v' w' q1 q2 q3 q4
            refine nextKR v' rfl trivial (hR.do9 Hw9.out d4 hdi d11 d13 q1 q2 q3 q4) ?_
            exact ⟨fun _ _ h => h, fun _ _ h => h, fun _ _ h => h, fun _ _ _ => until_done d4, fun _ _ h => h, fun _ _ h => h, fun _ _ h => h, fun _ _ h => h, fun _ _ _ => until_self, fun _ _ h => h, fun _ _ h => h, fun _ _ h => h, fun _ _ h => h, fun _ _ h => h, trivial⟩
          · -- the first store
            intro _ d x wx hR hdi hcl hsrc hd
            refine ⟨fun _ => ?_, fun hX => by simp at hX⟩
            have d13 := notyet hcl (i := 11) (j := 13) (by kernel_rfl) hdi
            have d4 : d 4 = true := SrcX.reach (K := 11) hcl hsrc rfl 20 4 (by decide) (by kernel_rfl)
            have d9 : d 9 = true := SrcX.reach (K := 11) hcl hsrc rfl 20 9 (by decide) (by kernel_rfl)
            have d10 : d 10 = true := SrcX.reach (K := 11) hcl hsrc rfl 20 10 (by decide) (by kernel_rfl)
            obtain ⟨hst, -, -⟩ := hR.s9 d4 d9 hdi d13
            simp only [DoneX] at hd
            obtain ⟨-, -, -, -, -, -, -, -, -, -, h10, -⟩ := hd
            have hx10 : x 10 = .pointer (some ⟨B1, 8, none⟩) := h10 d10
            have hdo := hR.do11 (u := undef) Hw9.out (by have := HBM.out; omega) d4 d9 hdi d13 8 (by simp [dF2, dF3]) rfl
            obtain ⟨A4, C4, hx4, -⟩ := hst.o1.slice
            rw [show (K ++ [r]).length = K.length + 1 from by simp] at hx4
            have k8 := hst.box1.get 8 _
            have kf := hst.box1.froz 8 (by simp [dF2, dF3])
            have kl := hst.box1.lt
            rw [hx4] at hdo
            try dsimp only
            rw [hx10, hx4]
            clear h10 hx10
            go_simp
            refine nextKR undef rfl trivial hdo ?_
            exact ⟨fun _ _ h => h, fun _ _ h => h, fun _ _ h => h, fun _ _ _ => until_done d4, fun _ _ h => h, fun _ _ h => h, fun _ _ h => h, fun _ _ h => h, fun _ _ _ => until_done d9, fun _ _ h => h, fun _ _ h => h, fun _ _ h => h, fun _ _ h => h, fun _ _ h => h, trivial⟩
          · -- the second store
            intro _ d x wx hR hdi hcl hsrc hd
            refine ⟨fun _ => ?_, fun hX => by simp at hX⟩
            have d4 : d 4 = true := SrcX.reach (K := 13) hcl hsrc rfl 20 4 (by decide) (by kernel_rfl)
            have d9 : d 9 = true := SrcX.reach (K := 13) hcl hsrc rfl 20 9 (by decide) (by kernel_rfl)
            have d11 : d 11 = true := SrcX.reach (K := 13) hcl hsrc rfl 20 11 (by decide) (by kernel_rfl)
            have d12 : d 12 = true := SrcX.reach (K := 13) hcl hsrc rfl 20 12 (by decide) (by kernel_rfl)
            obtain ⟨hst, -, -⟩ := hR.s11 d4 d9 d11 hdi
            simp only [DoneX] at hd
            obtain ⟨-, -, -, -, -, -, -, -, -, -, -, -, h12, -⟩ := hd
            have hx12 : x 12 = .pointer (some ⟨B2, 9, none⟩) := h12 d12
            have hdo := hR.do13 (u := undef) Hw9.out (by have := HBM.out; omega) d4 d9 d11 hdi 9 (by simp [dF2, dF3]) rfl
            obtain ⟨A9, C9, hx9, -⟩ := hst.o2.slice
            rw [show (K ++ [r]).length = K.length + 1 from by simp] at hx9
            have k8 := hst.box2.get 9 _
            have kf := hst.box2.froz 9 (by simp [dF2, dF3])
            have kl := hst.box2.lt
            rw [hx9] at hdo
            try dsimp only
            rw [hx12, hx9]
            clear h12 hx12
            go_simp
            refine nextKR undef rfl trivial hdo ?_
            exact ⟨fun _ _ h => h, fun _ _ h => h, fun _ _ h => h, fun _ _ _ => until_done d4, fun _ _ h => h, fun _ _ h => h, fun _ _ h => h, fun _ _ h => h, fun _ _ _ => until_done d9, fun _ _ h => h, fun _ _ h => h, fun _ _ h => h, fun _ _ h => h, fun _ _ h => h, trivial⟩
        intro x wz d hall hR hx
        have HTZ : Hid (TwoS wS w9 B1 B2 (dF2 o D1 D2 (.slice none 0 0)) (dF3 o D2 D1 (.slice none 0 0)) (x 4) (x 9) (x 4) (K ++ [r]) (x 9) (K ++ [r]) wz) := Lib.hid (hR.s13 (hall 4 (by decide)) (hall 9 (by decide)) (hall 11 (by decide)) (hall 13 (by decide)))
        clear hx hR hall
        go_wp2_with fail
        go_roundw
        case rel => exact ⟨k + 1, _, _, by omega, by go_num, Lib.hid (by rw [HNX.out]; exact HTZ.out)⟩
        case measure => simp [intOf]; omega
    · obtain rfl : k = lg := by omega
      have hlt' : ¬ (k : Int) < k := by omega
      have HTL : Hid (TwoS wS w9 B1 B2 (dF2 o D1 D2 (.slice none 0 0)) (dF3 o D2 D1 (.slice none 0 0)) W1 W2 W1 (nosoa G) W2 (nosoa G) wr) := Lib.hid (by
        have h := HT.out
        rw [List.take_of_length_le (by rw [← HLG.out]; exact Nat.le_refl _)] at h
        exact h)
      clear HT
      obtain ⟨wN, hwN⟩ : ∃ v, v = wr := ⟨_, rfl⟩
      rw [← hwN] at HTL ⊢
      clear hwN
      obtain ⟨K1, hK1⟩ : ∃ K, K = nosoa G := ⟨_, rfl⟩
      have HBKK := Lib.hid HBK.out
      rw [← hK1] at HTL HBKK
      have HT1 := HTL
      have hK1l : K1.length ≤ 16 := by rw [hK1]; have := nosoa_le G; have := HLG.out; omega
      have HwN : Hid (TwoB wS wN B1 B2) := Lib.hid ⟨Hw9.out.s1, Hw9.out.s2, Nat.lt_of_lt_of_le Hw9.out.m1 HTL.out.size, Nat.lt_of_lt_of_le Hw9.out.m2 HTL.out.size, Hw9.out.ne⟩
      have RECF : Hid (∀ wx, (∀ k, k < wN.heap.size → k ≠ B1 → k ≠ B2 → wx.heap[k]? = wN.heap[k]?) → wN.heap.size ≤ wx.heap.size → Recs wx AF F) := Lib.hid (fun wx hk hs => recs_keep (P := fun k => k = B1 ∨ k = B2) (RECF9.out wN (fun q hq h1 h2 => HTL.out.keep q hq h1 h2) HTL.out.size) (fun k h1 h2 => hk k h1 (fun e => h2 (.inl e)) (fun e => h2 (.inr e))) hs (fun b off hA hne h => by
        have := HFB.out b off hA
        rcases h with h | h
        · exact this.1 h
        · exact this.2 h))
      have HSTART : Hid (TwoS wS wN B1 B2 (dF3 o D1 D2 W1) (dF2 o D2 D1 W2) (.slice none 0 0) (.slice none 0 0) (.slice none 0 0) (nosoa (F.take 0)) (.slice none 0 0) (nosoa (F.take 0)) wN) := Lib.hid ⟨HTL.out.bel, Nat.le_refl _, fun _ _ _ _ => rfl, HTL.out.box1, HTL.out.box2, OBM.nil HTL.out.bel HTL.out.bel.size, OBM.nil HTL.out.bel HTL.out.bel.size, (fun k h => by cases h), (fun k h => by cases h)⟩
      clear hK1 RECG RECF9 HFB
      go_wp2_with fail
      go_loopw [72] (fun i wr => ∃ (k : Nat) (v1 v2 : Value), k ≤ lf ∧ i = .int .i64 k ∧ Hid (TwoS wS wN B1 B2 (dF3 o D1 D2 W1) (dF2 o D2 D1 W2) v1 v2 v1 (nosoa (F.take k)) v2 (nosoa (F.take k)) wr)) (fun i _ => lf - (intOf i).toNat)
      case atStart => exact ⟨0, _, _, Nat.zero_le _, rfl, HSTART⟩
      case round =>
        obtain ⟨k, v1, v2, hk, rfl, HT⟩ := hrel
        by_cases hlt : k < lf
        · have hlt' : (k : Int) < lf := by omega
          have hk0 : ¬ (k : Int) < 0 := by omega
          obtain ⟨r, hr⟩ : ∃ q, F[k]? = some q := ⟨_, List.getElem?_eq_getElem (by rw [← HLF.out]; exact hlt)⟩
          obtain ⟨g, off, rfl, hg, z0, z1, z2, z3⟩ := (RECF.out wr (fun q hq h1 h2 => HT.out.keep q hq h1 h2) HT.out.size) k _ hr
          obtain ⟨wa, hwa⟩ : ∃ wa, wa = wr.alloc (.cells #[.string r.1, .int .u16 r.2.1, .int .u32 r.2.2.1, .string r.2.2.2] 32) := ⟨_, rfl⟩
          obtain ⟨BA, hBA⟩ : ∃ B, B = wr.heap.size := ⟨_, rfl⟩
          have HCA : Hid (Cs wa BA [.string r.1, .int .u16 r.2.1, .int .u32 r.2.2.1, .string r.2.2.2]) := Lib.hid (by rw [hwa, hBA]; exact Cs.new wr _ _ _)
          have HTA : Hid (TwoS wS wN B1 B2 (dF3 o D1 D2 W1) (dF2 o D2 D1 W2) v1 v2 v1 (nosoa (F.take k)) v2 (nosoa (F.take k)) wa) := Lib.hid (by rw [hwa]; exact HT.out.goes ((Below.refl _ _).alloc (Nat.le_refl _) _))
          have HBAW : Hid (BA = wr.heap.size) := Lib.hid hBA
          have hbm : B1 < BA ∧ B2 < BA := by have := HT.out.size; have := HwN.out.m1; have := HwN.out.m2; omega
          have HBM := Lib.hid hbm
          have HN1 : Hid (v1.ownBlock ≠ some BA) := Lib.hid (fun e => by have := (HT.out.o1.lt _ e).2; omega)
          have HN2 : Hid (v2.ownBlock ≠ some BA) := Lib.hid (fun e => by have := (HT.out.o2.lt _ e).2; omega)
          have HWA := Lib.hid hwa
          have HBA := Lib.hid hBA
          have HR := Lib.hid hr
          have hkl : (nosoa (F.take k)).length ≤ 100 := by
            have h2 := nosoa_le (F.take k)
            simp at h2; omega
          clear hwa hBA hr HT hbm
          go_upto_region 16 with fail
          rw [← HWA.out, ← HBA.out]
          have c0 := HCA.out.get 0 _
          have c1 := HCA.out.get 1 _
          have c2 := HCA.out.get 2 _
          have c3 := HCA.out.get 3 _
          have cl := HCA.out.lt
          clear z0 z1 z2 z3
          by_cases ht : r.2.1 = 6
          · have ht6 : (r.2.1 != 6) = false := by simp [ht]
            have HNX := Lib.hid (nosoa_yes HR.out (show isSoaR r = true by unfold isSoaR; simp [ht]))
            clear ht
            go_wp2_with fail
            go_roundw
            case rel => exact ⟨k + 1, _, _, by omega, by go_num, Lib.hid (by rw [HNX.out]; exact HTA.out)⟩
            case measure => simp [intOf]; omega
          · have ht6 : (r.2.1 != 6) = true := by simp [ht]
            have HNX := Lib.hid (nosoa_no HR.out (show isSoaR r = false by unfold isSoaR; simp [ht]))
            clear ht
            obtain ⟨K, hK⟩ : ∃ K, K = nosoa (F.take k) := ⟨_, rfl⟩
            rw [← hK] at HTA HNX hkl
            clear hK
            obtain ⟨A1, C1, hv1, -⟩ := HTA.out.o1.slice
            obtain ⟨A2, C2, hv2, -⟩ := HTA.out.o2.slice
            have HV1 := Lib.hid hv1
            have HV2 := Lib.hid hv2
            clear hv1 hv2
            go_upto_region 17 with fail
            refine wp_region_expR app_follows (fun x => by simp [putsF, Act.put]; rfl) (TwoR wS wN B1 B2 BA wa.heap.size (dF3 o D1 D2 W1) (dF2 o D2 D1 W2) v1 K v2 K r)
              [isX (.pointer (some ⟨B1, 9, none⟩)), isX v1, isX (.agg #[.string r.1, .int .u16 r.2.1, .int .u32 r.2.2.1, .string r.2.2.2]), until_ 4 (litC wa.heap.size 1 [.string r.1, .int .u16 r.2.1, .int .u32 r.2.2.1, .string r.2.2.2]), anyX, isX (.pointer (some ⟨B2, 8, none⟩)), isX v2, isX (.agg #[.string r.1, .int .u16 r.2.1, .int .u32 r.2.2.1, .string r.2.2.2]), until_ 9 (litC wa.heap.size 1 [.string r.1, .int .u16 r.2.1, .int .u32 r.2.2.1, .string r.2.2.2]), anyX, isX (.pointer (some ⟨B1, 9, none⟩)), anyX, isX (.pointer (some ⟨B2, 8, none⟩)), anyX]
              [1, 4, 6, 9, 11, 13] (by kernel_rfl) (by kernel_rfl) (by kernel_rfl) rfl ?_ (TwoR.start (HTA.out.goes (Below.refl _ _).drew) (HCA.out.drewN 1) HN1.out HN2.out (Nat.le_refl _)) ?_ ?_ ?_
            · repeat (first | exact trivial | refine ⟨by first | exact isX_stays _ | exact anyX_stays | exact until_stays (litC_stays _ _ _), ?_⟩)
            · refine ⟨?_, skipped rfl, ?_, ?_, skipped rfl, ?_, skipped rfl, ?_, ?_, skipped rfl, ?_, skipped rfl, ?_, skipped rfl, trivial⟩
              all_goals
                intro _ d x wx hR hdi hsrc hd
                refine ⟨fun _ => ?_, fun hX => by simp at hX⟩
                simp [wordX, isX] at hd ⊢
                have c0 := hR.rb.get 0 _
                have c1 := hR.rb.get 1 _
                have c2 := hR.rb.get 2 _
                have c3 := hR.rb.get 3 _
                have cl := hR.rb.lt
              · go_simp; exact nextXR _ rfl rfl (hR.next (by decide) (Below.refl _ _)) (Below.refl _ _)
              · go_simp; exact nextXR _ rfl rfl (hR.next (by decide) (Below.refl _ _)) (Below.refl _ _)
              · have hv : x 2 = .agg #[.string r.1, .int .u16 r.2.1, .int .u32 r.2.2.1, .string r.2.2.2] := by first | exact hd | exact hd.1
                simp only [hv]
                clear hd hv
                go_simp
                exact nextXR _ rfl (until_of ⟨_, rfl, hR.sz, Cs.new _ _ _ _⟩) (hR.next (by decide) ((Below.refl wx.heap.size wx).alloc (Nat.le_refl _) _)) ((Below.refl wx.heap.size wx).alloc (Nat.le_refl _) _)
              · go_simp; exact nextXR _ rfl rfl (hR.next (by decide) (Below.refl _ _)) (Below.refl _ _)
              · go_simp; exact nextXR _ rfl rfl (hR.next (by decide) (Below.refl _ _)) (Below.refl _ _)
              · have hv : x 7 = .agg #[.string r.1, .int .u16 r.2.1, .int .u32 r.2.2.1, .string r.2.2.2] := by first | exact hd | exact hd.1
                simp only [hv]
                clear hd hv
                go_simp
                exact nextXR _ rfl (until_of ⟨_, rfl, hR.sz, Cs.new _ _ _ _⟩) (hR.next (by decide) ((Below.refl wx.heap.size wx).alloc (Nat.le_refl _) _)) ((Below.refl wx.heap.size wx).alloc (Nat.le_refl _) _)
              · go_simp; exact nextXR _ rfl rfl (hR.next (by decide) (Below.refl _ _)) (Below.refl _ _)
              · go_simp; exact nextXR _ rfl rfl (hR.next (by decide) (Below.refl _ _)) (Below.refl _ _)
            · refine ⟨unskipped rfl, ?_, unskipped rfl, unskipped rfl, ?_, unskipped rfl, ?_, unskipped rfl, unskipped rfl, ?_, unskipped rfl, ?_, unskipped rfl, ?_, trivial⟩
              · -- the first load
                intro _ d x wx hR hdi hcl hsrc hd
                refine ⟨fun _ => ?_, fun hX => by simp at hX⟩
                have d4 := notyet hcl (i := 1) (j := 4) (by kernel_rfl) hdi
                have d9 := notyet hcl (i := 1) (j := 9) (by kernel_rfl) hdi
                have d11 := notyet hcl (i := 1) (j := 11) (by kernel_rfl) hdi
                have d13 := notyet hcl (i := 1) (j := 13) (by kernel_rfl) hdi
                obtain ⟨hst, -, -⟩ := hR.s0 d4 d9 d11 d13
                have d0 : d 0 = true := SrcX.reach (K := 1) hcl hsrc rfl 20 0 (by decide) (by kernel_rfl)
                simp only [DoneX] at hd
                obtain ⟨h0, -⟩ := hd
                have hx0 : x 0 = .pointer (some ⟨B1, 9, none⟩) := h0 d0
                have k8 := hst.box1.get 9 _
                have kl := hst.box1.lt
                try dsimp only
                rw [hx0]
                clear h0 hx0
                go_simp
                refine nextKR _ rfl rfl (hR.next (by decide) (Below.refl _ _)) ?_
                exact ⟨fun _ _ h => h, fun _ _ h => h, fun _ _ h => h, fun _ _ h => until_mono11 h, fun _ _ h => h, fun _ _ h => h, fun _ _ h => h, fun _ _ h => h, fun _ _ h => until_mono11 h, fun _ _ h => h, fun _ _ h => h, fun _ _ h => h, fun _ _ h => h, fun _ _ h => h, trivial⟩
              · -- the first append
                intro _ d x wx hR hdi hcl hsrc hd
                refine ⟨fun _ => ?_, fun hX => by simp at hX⟩
                have d9 := notyet hcl (i := 4) (j := 9) (by kernel_rfl) hdi
                have d11 := notyet hcl (i := 4) (j := 11) (by kernel_rfl) hdi
                have d13 := notyet hcl (i := 4) (j := 13) (by kernel_rfl) hdi
                obtain ⟨hst, -, -⟩ := hR.s0 hdi d9 d11 d13
                have d1 : d 1 = true := SrcX.reach (K := 4) hcl hsrc rfl 20 1 (by decide) (by kernel_rfl)
                have d3 : d 3 = true := SrcX.reach (K := 4) hcl hsrc rfl 20 3 (by decide) (by kernel_rfl)
                simp only [DoneX] at hd
                obtain ⟨-, h1, -, h3, -⟩ := hd
                have hx1 : x 1 = v1 := h1 d1
                obtain ⟨g3, hx3, hg3, hc3⟩ : litC wa.heap.size 1 [.string r.1, .int .u16 r.2.1, .int .u32 r.2.2.1, .string r.2.2.2] (x 3) wx := h3 d3 hdi
                try dsimp only
                rw [hx1, hx3]
                refine oper_append_obm _ _ _ _ rfl 32 i0 _ 40 Tryd.underlying26 hi hz0 hz1 hz2 rfl hst.o1 rfl rfl
                  (Src.ofSlice _ Tryd.underlying26 ⟨g3, 0, none⟩ 1 1 [.string r.1, .int .u16 r.2.1, .int .u32 r.2.2.1, .string r.2.2.2] rfl (fun j u hu => by rw [Addr.add_lit, Nat.zero_add]; exact hc3.get j u hu) (recCells_one r)) rfl (by unfold maxLen; omega) (by omega) ?_
                intro v' w' q1 q2 q3 q4
                refine nextKR v' rfl trivial (hR.do4 HwN.out hdi d9 d11 d13 q1 q2 q3 q4) ?_
                exact ⟨fun _ _ h => h, fun _ _ h => h, fun _ _ h => h, fun _ _ _ => until_self, fun _ _ h => h, fun _ _ h => h, fun _ _ h => h, fun _ _ h => h, fun _ _ h hk => (by
                  obtain ⟨g8, hx8, hg8, hc8⟩ := h (setD_false hk)
                  exact ⟨g8, hx8, hg8, hc8.block (q3 g8 hc8.lt (fun e => by have := (HTA.out.o1.lt g8 e.symm).2; omega)) q2⟩), fun _ _ h => h, fun _ _ h => h, fun _ _ h => h, fun _ _ h => h, fun _ _ h => h, trivial⟩
              · -- the second load
                intro _ d x wx hR hdi hcl hsrc hd
                refine ⟨fun _ => ?_, fun hX => by simp at hX⟩
                have d9 := notyet hcl (i := 6) (j := 9) (by kernel_rfl) hdi
                have d11 := notyet hcl (i := 6) (j := 11) (by kernel_rfl) hdi
                have d13 := notyet hcl (i := 6) (j := 13) (by kernel_rfl) hdi
                have d5 : d 5 = true := SrcX.reach (K := 6) hcl hsrc rfl 20 5 (by decide) (by kernel_rfl)
                have hbx : Cs wx B2 ((dF2 o D2 D1 W2) v2) := by
                  have h := hR.st.box2
                  rw [d13] at h
                  exact h
                simp only [DoneX] at hd
                obtain ⟨-, -, -, -, -, h5, -⟩ := hd
                have hx5 : x 5 = .pointer (some ⟨B2, 8, none⟩) := h5 d5
                have k8 := hbx.get 8 _
                have kl := hbx.lt
                try dsimp only
                rw [hx5]
                clear h5 hx5
                go_simp
                refine nextKR _ rfl rfl (hR.next (by decide) (Below.refl _ _)) ?_
                exact ⟨fun _ _ h => h, fun _ _ h => h, fun _ _ h => h, fun _ _ h => until_mono11 h, fun _ _ h => h, fun _ _ h => h, fun _ _ h => h, fun _ _ h => h, fun _ _ h => until_mono11 h, fun _ _ h => h, fun _ _ h => h, fun _ _ h => h, fun _ _ h => h, fun _ _ h => h, trivial⟩
              · -- the second append
                intro _ d x wx hR hdi hcl hsrc hd
                refine ⟨fun _ => ?_, fun hX => by simp at hX⟩
                have d11 := notyet hcl (i := 9) (j := 11) (by kernel_rfl) hdi
                have d13 := notyet hcl (i := 9) (j := 13) (by kernel_rfl) hdi
                have d4 : d 4 = true := SrcX.reach (K := 9) hcl hsrc rfl 20 4 (by decide) (by kernel_rfl)
                obtain ⟨hst, -, -⟩ := hR.s4 d4 hdi d11 d13
                have d6 : d 6 = true := SrcX.reach (K := 9) hcl hsrc rfl 20 6 (by decide) (by kernel_rfl)
                have d8 : d 8 = true := SrcX.reach (K := 9) hcl hsrc rfl 20 8 (by decide) (by kernel_rfl)
                simp only [DoneX] at hd
                obtain ⟨-, -, -, -, -, -, h6, -, h8, -⟩ := hd
                have hx6 : x 6 = v2 := h6 d6
                obtain ⟨g8, hx8, hg8, hc8⟩ : litC wa.heap.size 1 [.string r.1, .int .u16 r.2.1, .int .u32 r.2.2.1, .string r.2.2.2] (x 8) wx := h8 d8 hdi
                try dsimp only
                rw [hx6, hx8]
                refine oper_append_obm _ _ _ _ rfl 32 i0 _ 40 Tryd.underlying26 hi hz0 hz1 hz2 rfl hst.o2 rfl rfl
                  (Src.ofSlice _ Tryd.underlying26 ⟨g8, 0, none⟩ 1 1 [.string r.1, .int .u16 r.2.1, .int .u32 r.2.2.1, .string r.2.2.2] rfl (fun j u hu => by rw [Addr.add_lit, Nat.zero_add]; exact hc8.get j u hu) (recCells_one r)) rfl (by unfold maxLen; omega) (by omega) ?_
                intro v' w' q1 q2 q3 q4
                refine nextKR v' rfl trivial (hR.do9 HwN.out d4 hdi d11 d13 q1 q2 q3 q4) ?_
                exact ⟨fun _ _ h => h, fun _ _ h => h, fun _ _ h => h, fun _ _ _ => until_done d4, fun _ _ h => h, fun _ _ h => h, fun _ _ h => h, fun _ _ h => h, fun _ _ _ => until_self, fun _ _ h => h, fun _ _ h => h, fun _ _ h => h, fun _ _ h => h, fun _ _ h => h, trivial⟩
              · -- the first store
                intro _ d x wx hR hdi hcl hsrc hd
                refine ⟨fun _ => ?_, fun hX => by simp at hX⟩
                have d13 := notyet hcl (i := 11) (j := 13) (by kernel_rfl) hdi
                have d4 : d 4 = true := SrcX.reach (K := 11) hcl hsrc rfl 20 4 (by decide) (by kernel_rfl)
                have d9 : d 9 = true := SrcX.reach (K := 11) hcl hsrc rfl 20 9 (by decide) (by kernel_rfl)
                have d10 : d 10 = true := SrcX.reach (K := 11) hcl hsrc rfl 20 10 (by decide) (by kernel_rfl)
                obtain ⟨hst, -, -⟩ := hR.s9 d4 d9 hdi d13
                simp only [DoneX] at hd
                obtain ⟨-, -, -, -, -, -, -, -, -, -, h10, -⟩ := hd
                have hx10 : x 10 = .pointer (some ⟨B1, 9, none⟩) := h10 d10
                have hdo := hR.do11 (u := undef) HwN.out (by have := HBM.out; omega) d4 d9 hdi d13 9 (by simp [dF2, dF3]) rfl
                obtain ⟨A4, C4, hx4, -⟩ := hst.o1.slice
                rw [show (K ++ [r]).length = K.length + 1 from by simp] at hx4
                have k8 := hst.box1.get 9 _
                have kf := hst.box1.froz 9 (by simp [dF2, dF3])
                have kl := hst.box1.lt
                rw [hx4] at hdo
                try dsimp only
                rw [hx10, hx4]
                clear h10 hx10
                go_simp
                refine nextKR undef rfl trivial hdo ?_
                exact ⟨fun _ _ h => h, fun _ _ h => h, fun _ _ h => h, fun _ _ _ => until_done d4, fun _ _ h => h, fun _ _ h => h, fun _ _ h => h, fun _ _ h => h, fun _ _ _ => until_done d9, fun _ _ h => h, fun _ _ h => h, fun _ _ h => h, fun _ _ h => h, fun _ _ h => h, trivial⟩
              · -- the second store
                intro _ d x wx hR hdi hcl hsrc hd
                refine ⟨fun _ => ?_, fun hX => by simp at hX⟩
                have d4 : d 4 = true := SrcX.reach (K := 13) hcl hsrc rfl 20 4 (by decide) (by kernel_rfl)
                have d9 : d 9 = true := SrcX.reach (K := 13) hcl hsrc rfl 20 9 (by decide) (by kernel_rfl)
                have d11 : d 11 = true := SrcX.reach (K := 13) hcl hsrc rfl 20 11 (by decide) (by kernel_rfl)
                have d12 : d 12 = true := SrcX.reach (K := 13) hcl hsrc rfl 20 12 (by decide) (by kernel_rfl)
                obtain ⟨hst, -, -⟩ := hR.s11 d4 d9 d11 hdi
                simp only [DoneX] at hd
                obtain ⟨-, -, -, -, -, -, -, -, -, -, -, -, h12, -⟩ := hd
                have hx12 : x 12 = .pointer (some ⟨B2, 8, none⟩) := h12 d12
                have hdo := hR.do13 (u := undef) HwN.out (by have := HBM.out; omega) d4 d9 d11 hdi 8 (by simp [dF2, dF3]) rfl
                obtain ⟨A9, C9, hx9, -⟩ := hst.o2.slice
                rw [show (K ++ [r]).length = K.length + 1 from by simp] at hx9
                have k8 := hst.box2.get 8 _
                have kf := hst.box2.froz 8 (by simp [dF2, dF3])
                have kl := hst.box2.lt
                rw [hx9] at hdo
                try dsimp only
                rw [hx12, hx9]
                clear h12 hx12
                go_simp
                refine nextKR undef rfl trivial hdo ?_
                exact ⟨fun _ _ h => h, fun _ _ h => h, fun _ _ h => h, fun _ _ _ => until_done d4, fun _ _ h => h, fun _ _ h => h, fun _ _ h => h, fun _ _ h => h, fun _ _ _ => until_done d9, fun _ _ h => h, fun _ _ h => h, fun _ _ h => h, fun _ _ h => h, fun _ _ h => h, trivial⟩
            intro x wz d hall hR hx
            have HTZ : Hid (TwoS wS wN B1 B2 (dF3 o D1 D2 W1) (dF2 o D2 D1 W2) (x 4) (x 9) (x 4) (K ++ [r]) (x 9) (K ++ [r]) wz) := Lib.hid (hR.s13 (hall 4 (by decide)) (hall 9 (by decide)) (hall 11 (by decide)) (hall 13 (by decide)))
            clear hx hR hall
            go_wp2_with fail
            go_roundw
            case rel => exact ⟨k + 1, _, _, by omega, by go_num, Lib.hid (by rw [HNX.out]; exact HTZ.out)⟩
            case measure => simp [intOf]; omega
        · obtain rfl : k = lf := by omega
          have hlt' : ¬ (k : Int) < k := by omega
          have HTL : Hid (TwoS wS wN B1 B2 (dF3 o D1 D2 W1) (dF2 o D2 D1 W2) v1 v2 v1 (nosoa F) v2 (nosoa F) wr) := Lib.hid (by
            have h := HT.out
            rw [List.take_of_length_le (by rw [← HLF.out]; exact Nat.le_refl _)] at h
            exact h)
          clear HT
          obtain ⟨K2, hK2⟩ : ∃ K, K = nosoa F := ⟨_, rfl⟩
          rw [← hK2] at HTL HBKK
          have hK2l : K2.length ≤ 16 := by rw [hK2]; have := nosoa_le F; have := HLF.out; omega
          have O1 : OBM 4 wS.heap.size wS W1 K1.length (flatR K1) wr := HT1.out.o1.block HTL.out.bel HTL.out.size (fun k hk => HTL.out.keep k (HT1.out.o1.lt k hk).2 (fun e => by have := (HT1.out.p1 k hk).1; have := Hw9.out.m1; omega) (fun e => by have := (HT1.out.p1 k hk).1; have := Hw9.out.m2; omega))
          have O2 : OBM 4 wS.heap.size wS W2 K1.length (flatR K1) wr := HT1.out.o2.block HTL.out.bel HTL.out.size (fun k hk => HTL.out.keep k (HT1.out.o2.lt k hk).2 (fun e => by have := HT1.out.p2 k hk; have := Hw9.out.m1; omega) (fun e => by have := HT1.out.p2 k hk; have := Hw9.out.m2; omega))
          have O3 := HTL.out.o1
          have O4 := HTL.out.o2
          have X1 := HTL.out.box1
          have X2 := HTL.out.box2
          have HBELR := Lib.hid HTL.out.bel
          clear HTL HT1 HSTART hK2
          obtain ⟨P1, Q1, rfl, -⟩ := O1.slice
          obtain ⟨P2, Q2, rfl, -⟩ := O2.slice
          obtain ⟨P3, Q3, rfl, -⟩ := O3.slice
          obtain ⟨P4, Q4, rfl, -⟩ := O4.slice
          have R1 := O1.rowR2 rfl
          have R2 := O2.rowR2 rfl
          have R3 := O3.rowR2 rfl
          have R4 := O4.rowR2 rfl
          obtain ⟨k1, hk1⟩ : ∃ q, q = K1.length := ⟨_, rfl⟩
          obtain ⟨k2, hk2⟩ : ∃ q, q = K2.length := ⟨_, rfl⟩
          rw [← hk1] at R1 R2 X1 X2 hK1l
          rw [← hk2] at R3 R4 X1 X2 hK2l
          clear O1 O2 O3 O4 hk1 hk2
          have DEL1 := delta_any (.slice AA la CA) a (o, 6, 9, D1) (o, 6, 9, D2) P1 P3 k1 Q1 k2 Q3 K1 K2 wr (HZA8.out.below HBELR.out) (by rw [← HLA.out]; omega) HRA.out R1 (by omega) R3 (by omega)
          rw [HBKK.out.1] at DEL1
          have DEL1 : Hid (Calls Tryd.prog 19 #[.slice AA la CA, .agg #[.string o, .int .u16 6, .int .u32 9, .string D1, .string o, .int .u16 6, .int .u32 9, .string D2, .slice P1 k1 Q1, .slice P3 k2 Q3]] wr (DeltaA (.inr b) wr)) := Lib.hid DEL1
          have HR2 := Lib.hid R2
          have HR4 := Lib.hid R4
          have HX2 := Lib.hid X2
          have c0 := X1.get 0 _
          have c1 := X1.get 1 _
          have c2 := X1.get 2 _
          have c3 := X1.get 3 _
          have c4 := X1.get 4 _
          have c5 := X1.get 5 _
          have c6 := X1.get 6 _
          have c7 := X1.get 7 _
          have c8 := X1.get 8 _
          have c9 := X1.get 9 _
          have cl := X1.lt
          clear X1 X2 R1 R2 R3 R4
          go_wp2_with fail
          refine DEL1.out.mono ?_
          intro ex wx hD
          rcases hD with ⟨er, h1, -, -⟩ | ⟨zz, vx, h1, rfl, hox⟩
          · cases h1
          have : zz = b := by injection h1 with h1; exact h1.symm
          subst this
          obtain ⟨AX, CX, rfl, hx1, hx2, -⟩ := hox.slice
          rw [← HLB.out]
          have DEL2 := delta_any (.slice AX zz.length CX) zz (o, 6, 9, D2) (o, 6, 9, D1) P4 P2 k2 Q4 k1 Q2 K2 K1 wx hox.zone (by rw [← HLB.out]; omega) HRB.out (HR4.out.below hox.bel) (by omega) (HR2.out.below hox.bel) (by omega)
          rw [HBKK.out.2, ← HLB.out] at DEL2
          have DEL2 : Hid (Calls Tryd.prog 19 #[.slice AX lb CX, .agg #[.string o, .int .u16 6, .int .u32 9, .string D2, .string o, .int .u16 6, .int .u32 9, .string D1, .slice P4 k2 Q4, .slice P2 k1 Q2]] wx (DeltaA (.inr a) wx)) := Lib.hid DEL2
          have HBX := Lib.hid hox.bel
          have HRX := Lib.hid (hox.recs rfl)
          have X2 := HX2.out.below hox.bel
          have e0 := X2.get 0 _
          have e1 := X2.get 1 _
          have e2 := X2.get 2 _
          have e3 := X2.get 3 _
          have e4 := X2.get 4 _
          have e5 := X2.get 5 _
          have e6 := X2.get 6 _
          have e7 := X2.get 7 _
          have e8 := X2.get 8 _
          have e9 := X2.get 9 _
          have el := X2.lt
          clear c0 c1 c2 c3 c4 c5 c6 c7 c8 c9 cl X2 h1 hox hx1 hx2 DEL1 HX2
          go_wp2_with fail
          refine DEL2.out.mono ?_
          intro ey wy hD
          rcases hD with ⟨er, h1, -, -⟩ | ⟨z3, vy, h1, rfl, hoy⟩
          · cases h1
          have : z3 = a := by injection h1 with h1; exact h1.symm
          subst this
          obtain ⟨AY, CY, rfl, hy1, hy2, -⟩ := hoy.slice
          have HBRY := Lib.hid (below_trans HBX.out HBX.out.size hoy.bel)
          have HBY := Lib.hid (below_trans HBS.out HBS.out.size (below_trans HBELR.out HBELR.out.size HBRY.out))
          have SM1 := same_recs AX AB CX CB zz zz wy (HRX.out.below hoy.bel) (HRB8.out.below (below_trans HBELR.out HBELR.out.size HBRY.out)) (by rw [← HLB.out]; unfold maxLen; omega) (by rw [← HLB.out]; unfold maxLen; omega)
          rw [← HLB.out] at SM1
          simp only [decide_true] at SM1
          have SM1 := Lib.hid SM1
          have HRY := Lib.hid (hoy.recs rfl)
          rw [← HLA.out]
          clear h1 hoy hy1 hy2 e0 e1 e2 e3 e4 e5 e6 e7 e8 e9 el DEL2
          go_wp2_with fail
          refine SM1.out.mono ?_
          rintro e wz ⟨rfl, hbz⟩
          have SM2 := same_recs AY AA CY CA z3 z3 wz (HRY.out.below hbz) (HRA8.out.below (below_trans HBELR.out HBELR.out.size (below_trans HBRY.out HBRY.out.size hbz))) (by rw [← HLA.out]; unfold maxLen; omega) (by rw [← HLA.out]; unfold maxLen; omega)
          rw [← HLA.out] at SM2
          simp only [decide_true] at SM2
          have SM2 := Lib.hid SM2
          have HBZ := Lib.hid (below_trans HBY.out HBY.out.size hbz)
          clear hbz SM1
          go_wp2_with fail
          refine SM2.out.mono ?_
          rintro e wt ⟨rfl, hbt⟩
          have HBT := Lib.hid (below_trans HBZ.out HBZ.out.size hbt)
          clear hbt SM2
          go_wp2_with fail
          go_ret
          exact ⟨rfl, HBT.out⟩
end Go.Proofs.YteaeplceahdioaaDoor
namespace Go.Proofs.YteaeplceahdioaaDoor
open Go.ChangeShapes Go.WideShapes Go.RowKit
theorem laid_et : Tryd.prog.globalNamed "errors.errorType" = some 0 := by kernel_rfl
theorem laid_rt : (Tryd.prog.cutTypes.find? (·.1 == "internal/reflectlite.rtype")).map (·.2) = some 140 := by kernel_rfl
theorem laid_row : ((List.range 197).filter fun t => Tryd.prog.rowNamed t [101, 114, 114, 111, 114]) = [37] := by kernel_rfl
theorem laid_size : Tryd.prog.types.size = 197 := by kernel_rfl
/-- The rows' list. -/
abbrev laidE : List (String × DataW Unit) := [("errors.errorType", Rows.laid_errors_errorType)]
theorem etype_of_laid {W : World} (h : laidMetH Tryd.prog laidE W) : Etype W := by
  have h' : laidMet Tryd.prog [] W ∧ handlesMet Tryd.prog laidE W := h
  obtain ⟨name, u, ty, e1, e2, e3, e4, e5⟩ := h'.2 _ (List.mem_singleton.2 rfl)
  have en : name = [101, 114, 114, 111, 114] := (Option.some.inj e1).symm
  subst en
  obtain rfl := Option.some.inj (laid_rt.symm.trans e2)
  have hm : ty ∈ (List.range 197).filter fun t => Tryd.prog.rowNamed t [101, 114, 114, 111, 114] := List.mem_filter.2 ⟨List.mem_range.2 (by rw [← laid_size]; exact e3), e4⟩
  rw [laid_row] at hm
  obtain rfl := List.mem_singleton.1 hm
  have hh : typeHandle Tryd.prog 37 = .pointer (some ⟨1, 37, none⟩) := by kernel_rfl
  rw [hh] at e5
  have e6 := World.var?_cell laid_et e5 0
  unfold Etype
  simpa using e6
/-- The settled world, the variable's cell laid. -/
noncomputable def laidWorld (os : Os) : World :=
  let w0 := World.holding Tryd.prog os ⟨#[], #[], []⟩
  { w0 with heap := w0.heap.modify 0 fun
      | .cells _ t fz => .cells #[.iface 140 (.agg #[.pointer (some ⟨1, 37, none⟩)])] t fz
      | o => o }
theorem laidWorld_met (os : Os) (args : Array Value) : laidMetH Tryd.prog laidE ((laidWorld os).forCall (fun _ _ => 0) ⟨#[], args, []⟩).memory :=
  laidMetH_of_parts (laidMet_nil _ _) (by kernel_rfl)
end Go.Proofs.YteaeplceahdioaaDoor
