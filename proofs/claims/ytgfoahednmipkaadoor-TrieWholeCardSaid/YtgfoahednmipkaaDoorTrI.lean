/- The trie's own functions: Get, Put, Del, Len, Nodes. -/
import Derived.Test.YtgfoahednmipkaaDoorTrH
namespace Go.Proofs.YtgfoahednmipkaaDoor
open Go.RowKit
set_option linter.unusedVariables false
set_option maxRecDepth 20000
/-- A word's number. -/
def getO (q : List UInt8) : Option (Nat × Int) → Option Int
  | some (n, v) => if n = q.length then some v else none
  | none => none
def getR (t : Tr) (q : List UInt8) : Option Int := getO q (if mayL q then longR t q none else none)
theorem has_fit {t : Tr} : ∀ {q : List UInt8} {x : Int}, t.Fit → t.Has q x → mayL q = true := by
  induction t with
  | nil => intro q x _ h; exact absurd h (by simp [Tr.Has])
  | node k v h c ih =>
    intro q x hf hh
    obtain ⟨h1, h2, h3⟩ := hf
    rcases hh with ⟨_, rfl, _⟩ | ⟨s, hs⟩
    · exact (mayL_iff _).2 ⟨h1, h2⟩
    · exact ih s (h3 s) hs
theorem get_spec {t : Tr} {p q : List UInt8} {v : Int} (ho : t.Ok p) (hf : t.Fit) : getR t q = some v ↔ t.Has q v := by
  unfold getR getO
  constructor
  · intro h
    cases hm : mayL q with
    | false => rw [hm] at h; simp at h
    | true =>
      rw [hm] at h
      simp only [if_true] at h
      rcases long_spec (q := q) (b := none) ho with ⟨n, x, e1, e2, e3, e4⟩ | ⟨e1, e2⟩
      · rw [e1] at h
        simp only at h
        split at h
        · rename_i hn
          injection h with h
          subst h hn
          rw [List.take_length] at e3; exact e3
        · cases h
      · rw [e1] at h; cases h
  · intro h
    rw [has_fit hf h]
    simp only [if_true]
    rcases long_spec (q := q) (b := none) ho with ⟨n, x, e1, e2, e3, e4⟩ | ⟨e1, e2⟩
    · have hn : q.length ≤ n := e4 q.length v (Nat.le_refl _) (by rw [List.take_length]; exact h)
      have hn' : n = q.length := by omega
      subst hn'
      rw [List.take_length] at e3
      rw [e1]
      simp only [if_true]
      rw [Tr.has_inj ho e3 h]
    · exact absurd (by rw [List.take_length]; exact h) (e2 q.length v (Nat.le_refl _))
theorem get_none {t : Tr} {p q : List UInt8} (ho : t.Ok p) (hf : t.Fit) : getR t q = none ↔ ∀ v, ¬ t.Has q v := by
  constructor
  · intro h v hv
    rw [(get_spec ho hf).2 hv] at h; cases h
  · intro h
    cases hg : getR t q with
    | none => rfl
    | some v => exact absurd ((get_spec ho hf).1 hg) (h v)
theorem get_put {t : Tr} {q : List UInt8} {x : Int} (ho : t.Ok []) (hf : t.Fit) (hm : mayL q = true) (q' : List UInt8) : getR (putR t q x) q' = if q' = q then some x else getR t q' := by
  obtain ⟨hl, hb⟩ := (mayL_iff q).1 hm
  obtain ⟨h1, h2⟩ := put_spec (x := x) ho (List.nil_prefix) hb
  have hf' := fit_put x hb hl hf
  by_cases e : q' = q
  · rw [if_pos e]
    exact (get_spec h1 hf').2 ((h2 _ _).2 (.inl ⟨e, rfl⟩))
  · rw [if_neg e]
    cases hg : getR t q' with
    | none =>
      rw [get_none h1 hf']
      intro v hv
      rcases (h2 _ _).1 hv with ⟨e', _⟩ | ⟨_, e'⟩
      · exact e e'
      · exact (get_none ho hf).1 hg v e'
    | some v => exact (get_spec h1 hf').2 ((h2 _ _).2 (.inr ⟨e, (get_spec ho hf).1 hg⟩))
theorem get_del {t : Tr} {q : List UInt8} {x : Int} (ho : t.Ok []) (hf : t.Fit) (hx : getR t q = some x) (q' : List UInt8) : getR (delR t q) q' = if q' = q then none else getR t q' := by
  obtain ⟨h1, h2⟩ := del_spec ho ((get_spec ho hf).1 hx)
  have hf' : (delR t q).Fit := fit_del hf
  by_cases e : q' = q
  · rw [if_pos e, get_none h1 hf']
    intro v hv
    exact ((h2 _ _).1 hv).1 e
  · rw [if_neg e]
    cases hg : getR t q' with
    | none =>
      rw [get_none h1 hf']
      intro v hv
      exact (get_none ho hf).1 hg v ((h2 _ _).1 hv).2
    | some v => exact (get_spec h1 hf').2 ((h2 _ _).2 ⟨e, (get_spec ho hf).1 hg⟩)
theorem keys_get {t : Tr} {p q : List UInt8} (ho : t.Ok p) (hf : t.Fit) : q ∈ t.keys ↔ (getR t q).isSome = true := by
  rw [keys_mem]
  cases hg : getR t q with
  | none => simp; exact (get_none ho hf).1 hg
  | some v => simp; exact ⟨v, (get_spec ho hf).1 hg⟩
theorem keys_put {t : Tr} {q : List UInt8} {x : Int} (ho : t.Ok []) (hf : t.Fit) (hm : mayL q = true) : (putR t q x).keys.length = if (getR t q).isSome then t.keys.length else t.keys.length + 1 := by
  obtain ⟨hl, hb⟩ := (mayL_iff q).1 hm
  obtain ⟨h1, h2⟩ := put_spec (x := x) ho (List.nil_prefix) hb
  have hf' := fit_put x hb hl hf
  split
  · rename_i hs
    refine len_of_mem (keys_nodup h1) (keys_nodup ho) fun q' => ?_
    rw [keys_get h1 hf', keys_get ho hf, get_put ho hf hm]
    by_cases e : q' = q
    · subst e; simp [hs]
    · rw [if_neg e]
  · rename_i hs
    have : (putR t q x).keys.length = (q :: t.keys).length := by
      refine len_of_mem (keys_nodup h1) (List.nodup_cons.2 ⟨fun h => hs ((keys_get ho hf).1 h), keys_nodup ho⟩) fun q' => ?_
      rw [keys_get h1 hf', List.mem_cons, keys_get ho hf, get_put ho hf hm]
      by_cases e : q' = q
      · simp [e]
      · simp [e]
    simpa using this
theorem keys_del {t : Tr} {q : List UInt8} {x : Int} (ho : t.Ok []) (hf : t.Fit) (hx : getR t q = some x) : (delR t q).keys.length + 1 = t.keys.length := by
  obtain ⟨h1, h2⟩ := del_spec ho ((get_spec ho hf).1 hx)
  have hf' : (delR t q).Fit := fit_del hf
  have : (q :: (delR t q).keys).length = t.keys.length := by
    refine len_of_mem (List.nodup_cons.2 ⟨fun h => ?_, keys_nodup h1⟩) (keys_nodup ho) fun q' => ?_
    · rw [keys_get h1 hf', get_del ho hf hx, if_pos rfl] at h; cases h
    · rw [List.mem_cons, keys_get h1 hf', keys_get ho hf, get_del ho hf hx]
      by_cases e : q' = q
      · subst e; simp [hx]
      · simp [e]
  simpa using this
/-- A trie of the law's own: its blocks lie from B on; bs are its nodes' blocks. -/
structure TrL (W : World) (B a : Nat) (bs : List Nat) (t : Tr) (w : World) : Prop where
  ex : ∃ p, Cs w a [ptrV p, .int .i64 (t.keys.length : Nat)] ∧ TrM w t p bs
  nd : bs.Nodup
  apart : a ∉ bs
  own : ∀ x ∈ bs, B ≤ x
  ok : t.Ok []
  fit : t.Fit
  base : B ≤ a
  bel : Below B W w
section
variable {W w w' : World} {B a : Nat} {bs : List Nat} {t : Tr}
theorem TrL.below (h : TrL W B a bs t w) (hb : Below w.heap.size w w') : TrL W B a bs t w' := by
  obtain ⟨p, h1, h2⟩ := h.ex
  exact ⟨⟨p, h1.below hb, h2.below hb⟩, h.nd, h.apart, h.own, h.ok, h.fit, h.base, h.bel.trans (hb.mono (Nat.le_trans h.base (Nat.le_of_lt h1.lt)))⟩
theorem TrL.lt (h : TrL W B a bs t w) : a < w.heap.size := by obtain ⟨p, h1, h2⟩ := h.ex; exact h1.lt
theorem TrL.lts (h : TrL W B a bs t w) : ∀ x ∈ bs, x < w.heap.size := by obtain ⟨p, h1, h2⟩ := h.ex; exact h2.lt
/-- What others turn. -/
theorem TrL.only (h : TrL W B a bs t w) {S : Nat → Prop} (ho : Only S w w') (ha : ¬ S a) (hs : ∀ x ∈ bs, ¬ S x) (hB : ∀ x, S x → B ≤ x) : TrL W B a bs t w' := by
  obtain ⟨p, h1, h2⟩ := h.ex
  exact ⟨⟨p, ho.cs h1 ha, h2.only ho hs⟩, h.nd, h.apart, h.own, h.ok, h.fit, h.base, h.bel.trans (ho.below (Nat.le_trans h.base (Nat.le_of_lt h1.lt)) fun k hk e => by have := hB k e; omega)⟩
theorem TrL.start (w : World) (ty : TypeId) (W : World) (B : Nat) (hB : B ≤ w.heap.size) (hb : Below B W w) : TrL W B w.heap.size [] .nil (w.alloc (.cells #[.pointer none, .int .i64 0] ty)) :=
  ⟨⟨none, Cs.new w _ _ _, ⟨rfl, rfl⟩⟩, by simp, by simp, by simp, trivial, trivial, hB, hb.alloc hB _⟩
/-- The trie with another tree. -/
theorem TrL.next (h : TrL W B a bs t w) {t' : Tr} {p' : Option Nat} {bs' : List Nat} {w2 w3 : World} (hb : Below w.heap.size w w2) (h1 : TrM w' t' p' bs') (h2 : bs'.Nodup) (h3 : ∀ x ∈ bs', x ∈ bs ∨ w2.heap.size ≤ x) (h4 : Only (fun x => x ∈ bs) w2 w') (hok : t'.Ok []) (hfit : t'.Fit) (n : Value) (hn : n = .int .i64 (t'.keys.length : Nat))
    (hcs : Cs w3 a [ptrV p', n]) (hw : Only (fun x => x = a) w' w3) : TrL W B a bs' t' w3 ∧ Only (fun x => x = a ∨ x ∈ bs) w w3 ∧ ∀ x ∈ bs', x ∈ bs ∨ w.heap.size ≤ x := by
  subst hn
  have hlt := h.lt
  have ha : a ∉ bs' := fun e => by
    rcases h3 a e with e | e
    · exact h.apart e
    · have := hb.size; omega
  have hO : Only (fun x => x = a ∨ x ∈ bs) w w3 := ((Only.of_below _ hb).trans (h4.mono fun x _ e => Or.inr e) (fun x _ e => e)).trans hw (fun x _ e => .inl e)
  refine ⟨⟨⟨p', hcs, h1.only hw fun x hx e => ha (by rw [← e]; exact hx)⟩, h2, ha, fun x hx => ?_, hok, hfit, h.base, h.bel.trans (hO.below (Nat.le_trans h.base (Nat.le_of_lt hlt)) fun k hk e => ?_)⟩, hO, fun x hx => ?_⟩
  · rcases h3 x hx with e | e
    · exact h.own x e
    · have := hb.size; have := h.base; omega
  · rcases e with e | e
    · have := h.base; omega
    · have := h.own k e; omega
  · rcases h3 x hx with e | e
    · exact .inl e
    · have := hb.size; exact .inr (by omega)
set_option maxHeartbeats 1600000 in
theorem TrL.get (h : TrL W B a bs t w) (q : List UInt8) (hq : q.length ≤ 9223372036854775807) :
    Calls Tryd.prog 13 #[.pointer (some ⟨a, 0, none⟩), .string (sb q)] w fun e w' => e = .returned (.tuple #[.int .i64 ((getR t q).getD 0), .bool (getR t q).isSome]) ∧ Below w.heap.size w w' := by
  obtain ⟨p, h1, h2⟩ := h.ex
  have HL := Lib.hid (longest_any a t p bs _ w q h1 h2 h.fit hq)
  have hsq := sb_size q
  obtain ⟨o, ho⟩ : ∃ o, (if mayL q then longR t q none else none) = o := ⟨_, rfl⟩
  rw [ho] at HL
  have hg : getR t q = getO q o := by unfold getR; rw [ho]
  cases o with
  | none =>
    have hg' : getR t q = none := hg
    rw [hg']
    have HL2 : Hid (Calls Tryd.prog 16 #[.pointer (some ⟨a, 0, none⟩), .string (sb q)] w fun e w' => e = .returned (.tuple #[.int .i64 0, .int .i64 0, .bool false]) ∧ Below w.heap.size w w') := HL
    clear HL ho hg hg' h1 h2 h
    go_enter Tryd.func13, Tryd.ntmps13
    go_wp2_with fail
    refine HL2.out.mono ?_
    rintro e w1 ⟨rfl, hb1⟩
    have HB1 := Lib.hid hb1
    clear hb1
    go_wp2_with fail
    go_ret2
    exact ⟨rfl, HB1.out⟩
  | some nv =>
    obtain ⟨n, v⟩ := nv
    have HL2 : Hid (Calls Tryd.prog 16 #[.pointer (some ⟨a, 0, none⟩), .string (sb q)] w fun e w' => e = .returned (.tuple #[.int .i64 v, .int .i64 n, .bool true]) ∧ Below w.heap.size w w') := HL
    obtain ⟨Q, hQ⟩ : ∃ Q, q.length = Q := ⟨_, rfl⟩
    rw [hQ] at hsq
    by_cases hn : n = q.length
    · have hg' : getR t q = some v := by rw [hg]; simp only [getO, if_pos hn]
      rw [hg']
      have d1 : ((n : Int) == (Q : Int)) = true := by rw [hn, hQ]; simp
      have d2 : ((n : Int) != (Q : Int)) = false := by rw [hn, hQ]; simp
      clear HL ho hg hg' h1 h2 h hn hQ
      generalize sb q = QS at *
      go_enter Tryd.func13, Tryd.ntmps13
      go_wp2_with fail
      refine HL2.out.mono ?_
      rintro e w1 ⟨rfl, hb1⟩
      have HB1 := Lib.hid hb1
      clear hb1
      go_wp2_with fail
      go_ret2
      exact ⟨rfl, HB1.out⟩
    · have hg' : getR t q = none := by rw [hg]; simp only [getO, if_neg hn]
      rw [hg']
      have d1 : ((n : Int) == (Q : Int)) = false := by rw [← hQ]; simp; omega
      have d2 : ((n : Int) != (Q : Int)) = true := by rw [← hQ]; simp; omega
      clear HL ho hg hg' h1 h2 h hn hQ
      generalize sb q = QS at *
      go_enter Tryd.func13, Tryd.ntmps13
      go_wp2_with fail
      refine HL2.out.mono ?_
      rintro e w1 ⟨rfl, hb1⟩
      have HB1 := Lib.hid hb1
      clear hb1
      go_wp2_with fail
      go_ret2
      exact ⟨rfl, HB1.out⟩
theorem TrL.len (h : TrL W B a bs t w) : Calls Tryd.prog 14 #[.pointer (some ⟨a, 0, none⟩)] w fun e w' => e = .returned (.int .i64 (t.keys.length : Nat)) ∧ w = w' := by
  obtain ⟨p, h1, h2⟩ := h.ex
  have c1 := h1.get 1 _
  have cl := h1.lt
  generalize t.keys.length = n at *
  clear h h1 h2
  go_enter Tryd.func14, Tryd.ntmps14
  go_wp2
  go_ret
  exact ⟨rfl, rfl⟩
theorem TrL.nodes (h : TrL W B a bs t w) (hf : t.keys.length ≤ 1152921504606846976) : Calls Tryd.prog 15 #[.pointer (some ⟨a, 0, none⟩)] w fun e w' => e = .returned (.int .i64 (t.nodes : Nat)) ∧ ∃ n, w' = w.drewN n := by
  obtain ⟨p, h1, h2⟩ := h.ex
  have c0 := h1.get 0 _
  have cl := h1.lt
  have := (nodes_le h.ok).1
  have HC := Lib.hid (count_any t p bs w h2 (by omega))
  generalize t.nodes = n at *
  clear h h1 h2 this hf
  go_enter Tryd.func15, Tryd.ntmps15
  go_wp2_with fail
  refine HC.out.mono ?_
  rintro e w1 ⟨rfl, n, rfl⟩
  go_wp2
  go_ret
  exact ⟨rfl, _, rfl⟩
end
end Go.Proofs.YtgfoahednmipkaaDoor
