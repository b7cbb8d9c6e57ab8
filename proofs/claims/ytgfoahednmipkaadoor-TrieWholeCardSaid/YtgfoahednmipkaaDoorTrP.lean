/- Tries: what is read of them, what becomes of them. It speaks of no program. -/
import Derived.Test.YtgfoahednmipkaaDoorCs
namespace Go.Proofs.YtgfoahednmipkaaDoor
open Go.RowKit
set_option linter.unusedVariables false
inductive Tr where
  | nil : Tr
  | node (k : List UInt8) (v : Int) (h : Bool) (c : Bool → Tr) : Tr
def BitsL (k : List UInt8) : Prop := ∀ x ∈ k, x = 48 ∨ x = 49
def sign (s : Bool) : UInt8 := if s then 49 else 48
def side (q : List UInt8) (a : Nat) : Bool := q.getD a 0 == 49
def alike : List UInt8 → List UInt8 → Nat
  | a :: as, b :: bs => if a = b then alike as bs + 1 else 0
  | _, _ => 0
def updC (c : Bool → Tr) (s : Bool) (t : Tr) : Bool → Tr := fun i => if i = s then t else c i
theorem updC_same (c : Bool → Tr) (s : Bool) (t : Tr) : updC c s t s = t := by simp [updC]
theorem updC_other (c : Bool → Tr) (s i : Bool) (t : Tr) (h : i ≠ s) : updC c s t i = c i := by simp [updC, h]
def Tr.Has : Tr → List UInt8 → Int → Prop
  | .nil, _, _ => False
  | .node k v h c, q, x => (h = true ∧ q = k ∧ x = v) ∨ ∃ s, (c s).Has q x
def Tr.Ok : List UInt8 → Tr → Prop
  | _, .nil => True
  | p, .node k v h c => p <+: k ∧ BitsL k ∧ (h = false → v = 0) ∧ (∀ s, (c s).Ok (k ++ [sign s])) ∧ (h = true ∨ ∀ s, c s ≠ .nil)
theorem bits_pre {p q : List UInt8} (h : p <+: q) (hq : BitsL q) : BitsL p := fun x hx => hq x (h.subset hx)
theorem side_of_pre {k q : List UInt8} {s : Bool} (h : (k ++ [sign s]) <+: q) : k <+: q ∧ k.length < q.length ∧ side q k.length = s := by
  obtain ⟨r, rfl⟩ := h
  refine ⟨⟨[sign s] ++ r, by simp⟩, by simp, ?_⟩
  simp only [side, List.getD_eq_getElem?_getD, List.append_assoc]
  rw [List.getElem?_append_right (Nat.le_refl _)]
  cases s <;> simp [sign]
theorem pre_of_side {k q : List UInt8} (h : k <+: q) (hl : k.length < q.length) (hq : BitsL q) : (k ++ [sign (side q k.length)]) <+: q := by
  obtain ⟨r, rfl⟩ := h
  cases r with
  | nil => simp at hl
  | cons y r =>
    have hy := hq y (by simp)
    have e : side (k ++ y :: r) k.length = (y == 49) := by
      simp only [side, List.getD_eq_getElem?_getD]
      rw [List.getElem?_append_right (Nat.le_refl _)]; simp
    rw [e]
    refine ⟨r, ?_⟩
    rcases hy with rfl | rfl <;> simp [sign]
theorem Tr.has_pre {t : Tr} : ∀ {p q : List UInt8} {x : Int}, t.Ok p → t.Has q x → p <+: q ∧ BitsL q := by
  induction t with
  | nil => intro p q x _ h; exact absurd h (by simp [Tr.Has])
  | node k v h c ih =>
    intro p q x ho hh
    obtain ⟨h1, h2, -, h3, -⟩ := ho
    rcases hh with ⟨-, rfl, -⟩ | ⟨s, hs⟩
    · exact ⟨h1, h2⟩
    · obtain ⟨q1, q2⟩ := ih s (h3 s) hs
      exact ⟨h1.trans ((side_of_pre q1).1), q2⟩
theorem Tr.has_node {k : List UInt8} {v : Int} {h : Bool} {c : Bool → Tr} {q : List UInt8} {x : Int} (h3 : ∀ s, (c s).Ok (k ++ [sign s])) :
    (Tr.node k v h c).Has q x ↔ (h = true ∧ q = k ∧ x = v) ∨ (k <+: q ∧ k.length < q.length ∧ (c (side q k.length)).Has q x) := by
  constructor
  · rintro (h1 | ⟨s, hs⟩)
    · exact .inl h1
    · obtain ⟨q1, q2, q3⟩ := side_of_pre (Tr.has_pre (h3 s) hs).1
      exact .inr ⟨q1, q2, by rw [q3]; exact hs⟩
  · rintro (h1 | ⟨_, _, h1⟩)
    · exact .inl h1
    · exact .inr ⟨_, h1⟩
theorem Tr.has_inj {t : Tr} : ∀ {p q : List UInt8} {x y : Int}, t.Ok p → t.Has q x → t.Has q y → x = y := by
  induction t with
  | nil => intro p q x y _ h; exact absurd h (by simp [Tr.Has])
  | node k v h c ih =>
    intro p q x y ho h1 h2
    have h3 := ho.2.2.2.1
    rw [Tr.has_node h3] at h1 h2
    rcases h1 with ⟨_, e1, e2⟩ | ⟨a1, a2, a3⟩ <;> rcases h2 with ⟨_, e3, e4⟩ | ⟨b1, b2, b3⟩
    · rw [e2, e4]
    · subst e1; omega
    · subst e3; omega
    · exact ih _ (h3 _) a3 b3
/-- The longest word with which one begins: how long, and its number. -/
def longR : Tr → List UInt8 → Option (Nat × Int) → Option (Nat × Int)
  | .nil, _, b => b
  | .node k v h c, q, b => if k <+: q then (if k.length = q.length then (if h then some (k.length, v) else b) else longR (c (side q k.length)) q (if h then some (k.length, v) else b)) else b
theorem pre_take {k q : List UInt8} (h : k <+: q) : q.take k.length = k := by
  obtain ⟨r, rfl⟩ := h
  simp
theorem has_take {k q : List UInt8} {v : Int} {h : Bool} {c : Bool → Tr} {m : Nat} {x : Int} (h3 : ∀ s, (c s).Ok (k ++ [sign s])) (hm : m ≤ q.length) (hh : (Tr.node k v h c).Has (q.take m) x) :
    k <+: q ∧ ((m = k.length ∧ h = true ∧ x = v) ∨ (k.length < m ∧ (c (side q k.length)).Has (q.take m) x)) := by
  rw [Tr.has_node h3] at hh
  rcases hh with ⟨e1, e2, e3⟩ | ⟨a1, a2, a3⟩
  · refine ⟨by rw [← e2]; exact List.take_prefix _ _, .inl ⟨?_, e1, e3⟩⟩
    rw [← e2]; simp; omega
  · refine ⟨a1.trans (List.take_prefix _ _), .inr ?_⟩
    have h1 : k.length < m := by simp at a2; omega
    refine ⟨h1, ?_⟩
    have : side (q.take m) k.length = side q k.length := by
      simp only [side, List.getD_eq_getElem?_getD, List.getElem?_take, if_pos h1]
    rwa [this] at a3
theorem long_spec {t : Tr} : ∀ {p q : List UInt8} {b : Option (Nat × Int)}, t.Ok p →
    (∃ n v, longR t q b = some (n, v) ∧ n ≤ q.length ∧ t.Has (q.take n) v ∧ ∀ m x, m ≤ q.length → t.Has (q.take m) x → m ≤ n) ∨ (longR t q b = b ∧ ∀ m x, m ≤ q.length → ¬ t.Has (q.take m) x) := by
  induction t with
  | nil => intro p q b _; exact .inr ⟨rfl, fun _ _ _ h => by simp [Tr.Has] at h⟩
  | node k v h c ih =>
    intro p q b ho
    have h3 := ho.2.2.2.1
    simp only [longR]
    by_cases hk : k <+: q
    · rw [if_pos hk]
      have hkl := hk.length_le
      by_cases hl : k.length = q.length
      · rw [if_pos hl]
        cases h with
        | true =>
          rw [if_pos rfl]
          refine .inl ⟨_, _, rfl, hkl, .inl ⟨rfl, pre_take hk, rfl⟩, fun m x hm _ => by omega⟩
        | false =>
          refine .inr ⟨by simp, fun m x hm hh => ?_⟩
          obtain ⟨-, ⟨_, e, _⟩ | ⟨e, _⟩⟩ := has_take h3 hm hh
          · cases e
          · omega
      · rw [if_neg hl]
        rcases ih (side q k.length) (q := q) (b := if h then some (k.length, v) else b) (h3 _) with ⟨n, x, e1, e2, e3, e4⟩ | ⟨e1, e2⟩
        · refine .inl ⟨n, x, e1, e2, .inr ⟨_, e3⟩, fun m y hm hh => ?_⟩
          obtain ⟨-, ⟨e5, _, _⟩ | ⟨e5, e6⟩⟩ := has_take h3 hm hh
          · obtain ⟨-, q1, -⟩ := side_of_pre (Tr.has_pre (h3 _) e3).1
            simp at q1; omega
          · exact e4 m y hm e6
        · rw [e1]
          cases h with
          | true =>
            rw [if_pos rfl]
            refine .inl ⟨_, _, rfl, hkl, .inl ⟨rfl, pre_take hk, rfl⟩, fun m x hm hh => ?_⟩
            obtain ⟨-, ⟨e5, _, _⟩ | ⟨e5, e6⟩⟩ := has_take h3 hm hh
            · omega
            · exact absurd e6 (e2 m x hm)
          | false =>
            refine .inr ⟨by simp, fun m x hm hh => ?_⟩
            obtain ⟨-, ⟨_, e, _⟩ | ⟨e, e6⟩⟩ := has_take h3 hm hh
            · cases e
            · exact e2 m x hm e6
    · rw [if_neg hk]
      exact .inr ⟨rfl, fun m x hm hh => hk (has_take h3 hm hh).1⟩
theorem alike_le : ∀ a b : List UInt8, alike a b ≤ a.length ∧ alike a b ≤ b.length
  | [], _ => by simp [alike]
  | _ :: _, [] => by simp [alike]
  | a :: as, b :: bs => by
    have := alike_le as bs
    simp only [alike]; split <;> simp <;> omega
theorem alike_take : ∀ a b : List UInt8, a.take (alike a b) = b.take (alike a b)
  | [], _ => by simp [alike]
  | _ :: _, [] => by simp [alike]
  | a :: as, b :: bs => by
    simp only [alike]
    split
    · rename_i h; subst h; simp [alike_take as bs]
    · simp
theorem alike_ne : ∀ a b : List UInt8, alike a b < a.length → alike a b < b.length → a[alike a b]? ≠ b[alike a b]?
  | [], _ => by simp [alike]
  | _ :: _, [] => by simp [alike]
  | a :: as, b :: bs => by
    simp only [alike]
    split
    · rename_i h
      intro h1 h2
      simp only [List.length_cons] at h1 h2
      simpa using alike_ne as bs (by omega) (by omega)
    · rename_i h
      intro _ _ e
      simp at e; exact h e
theorem alike_pre {a b : List UInt8} (h : alike a b = a.length) : a <+: b := by
  have := alike_take a b
  rw [h, List.take_length] at this
  rw [this]; exact List.take_prefix _ _
theorem alike_of_pre {a b : List UInt8} (h : a <+: b) : alike a b = a.length := by
  obtain ⟨r, rfl⟩ := h
  induction a with
  | nil => simp [alike]
  | cons x a ih => simp [alike, ih]
theorem alike_ge {p a b : List UInt8} (h1 : p <+: a) (h2 : p <+: b) : p.length ≤ alike a b := by
  obtain ⟨r, rfl⟩ := h1
  obtain ⟨s, rfl⟩ := h2
  induction p with
  | nil => simp
  | cons x p ih => simp [alike]; exact ih
/-- A tree with a word's number. -/
def leafR (q : List UInt8) (x : Int) : Tr := .node q x true (fun _ => .nil)
def putR : Tr → List UInt8 → Int → Tr
  | .nil, q, x => leafR q x
  | .node k v h c, q, x =>
    if alike k q < k.length then
      (if alike k q < q.length then .node (q.take (alike k q)) 0 false (updC (updC (fun _ => .nil) (side k (alike k q)) (.node k v h c)) (side q (alike k q)) (leafR q x))
       else .node (q.take (alike k q)) x true (updC (fun _ => .nil) (side k (alike k q)) (.node k v h c)))
    else if k.length < q.length then .node k v h (updC c (side q k.length) (putR (c (side q k.length)) q x))
    else .node k x true c
theorem putR_ne (t : Tr) (q : List UInt8) (x : Int) : putR t q x ≠ .nil := by
  cases t with
  | nil => simp [putR, leafR]
  | node k v h c => simp only [putR]; split <;> (try split) <;> simp
theorem leaf_ok {p q : List UInt8} (x : Int) (hp : p <+: q) (hq : BitsL q) : (leafR q x).Ok p := ⟨hp, hq, by simp, fun _ => trivial, .inl rfl⟩
theorem leaf_has {q q' : List UInt8} {x y : Int} : (leafR q x).Has q' y ↔ q' = q ∧ y = x := by simp [leafR, Tr.Has]
theorem side_ne {a b : List UInt8} (ha : BitsL a) (hb : BitsL b) (h1 : alike a b < a.length) (h2 : alike a b < b.length) : side a (alike a b) ≠ side b (alike a b) := by
  have := alike_ne a b h1 h2
  rw [List.getElem?_eq_getElem h1, List.getElem?_eq_getElem h2] at this
  have x := ha _ (List.getElem_mem h1)
  have y := hb _ (List.getElem_mem h2)
  simp only [side, List.getD_eq_getElem?_getD, List.getElem?_eq_getElem h1, List.getElem?_eq_getElem h2, Option.getD_some]
  intro e
  rcases x with x | x <;> rcases y with y | y <;> rw [x, y] at this e <;> simp at this e
theorem take_pre_len {q : List UInt8} {n : Nat} (h : n ≤ q.length) : (q.take n).length = n := by simp; omega
theorem put_spec {t : Tr} : ∀ {p q : List UInt8} {x : Int}, t.Ok p → p <+: q → BitsL q →
    (putR t q x).Ok p ∧ ∀ q' y, (putR t q x).Has q' y ↔ (q' = q ∧ y = x) ∨ (q' ≠ q ∧ t.Has q' y) := by
  induction t with
  | nil =>
    intro p q x _ hp hq
    exact ⟨leaf_ok x hp hq, fun q' y => by simp only [putR, leaf_has, Tr.Has, and_false, or_false]⟩
  | node k v h c ih =>
    intro p q x ho hp hq
    have ho' := ho
    obtain ⟨h1, h2, h0, h3, h4⟩ := ho
    simp only [putR]
    have hal := alike_le k q
    by_cases ha : alike k q < k.length
    · rw [if_pos ha]
      have hnp : ¬ k <+: q := fun e => by rw [alike_of_pre e] at ha; omega
      have htk : q.take (alike k q) = k.take (alike k q) := (alike_take k q).symm
      have hpf : p <+: q.take (alike k q) := by
        have := alike_ge h1 hp
        exact List.prefix_take_iff.2 ⟨hp, this⟩
      have hln : (q.take (alike k q)).length = alike k q := take_pre_len hal.2
      have hkk : (q.take (alike k q) ++ [sign (side k (alike k q))]) <+: k := by
        have := pre_of_side (k := k.take (alike k q)) (q := k) (List.take_prefix _ _) (by rw [take_pre_len hal.1]; exact ha) h2
        rw [take_pre_len hal.1] at this
        rw [htk]; exact this
      have hokk : (Tr.node k v h c).Ok (q.take (alike k q) ++ [sign (side k (alike k q))]) := ⟨hkk, h2, h0, h3, h4⟩
      by_cases hb : alike k q < q.length
      · rw [if_pos hb]
        have hqq : (q.take (alike k q) ++ [sign (side q (alike k q))]) <+: q := by
          have := pre_of_side (k := q.take (alike k q)) (q := q) (List.take_prefix _ _) (by rw [hln]; exact hb) hq
          rw [hln] at this; exact this
        have hsn := side_ne h2 hq ha hb
        refine ⟨⟨hpf, bits_pre (List.take_prefix _ _) hq, fun _ => rfl, fun s => ?_, .inr fun s => ?_⟩, fun q' y => ?_⟩
        · by_cases e : s = side q (alike k q)
          · subst e; rw [updC_same]; exact leaf_ok x hqq hq
          · rw [updC_other _ _ _ _ e]
            have e' : s = side k (alike k q) := by
              cases s <;> cases hx : side q (alike k q) <;> cases hy : side k (alike k q) <;> simp_all
            subst e'; rw [updC_same]; exact hokk
        · by_cases e : s = side q (alike k q)
          · subst e; rw [updC_same]; simp [leafR]
          · rw [updC_other _ _ _ _ e]
            have e' : s = side k (alike k q) := by
              cases s <;> cases hx : side q (alike k q) <;> cases hy : side k (alike k q) <;> simp_all
            subst e'; rw [updC_same]; simp
        · constructor
          · rintro (⟨e, _⟩ | ⟨s, hs⟩)
            · cases e
            · by_cases e : s = side q (alike k q)
              · subst e; rw [updC_same, leaf_has] at hs; exact .inl hs
              · rw [updC_other _ _ _ _ e] at hs
                have e' : s = side k (alike k q) := by
                  cases s <;> cases hx : side q (alike k q) <;> cases hy : side k (alike k q) <;> simp_all
                subst e'; rw [updC_same] at hs
                refine .inr ⟨?_, hs⟩
                rintro rfl
                rw [Tr.has_node h3] at hs
                rcases hs with ⟨_, e2, _⟩ | ⟨e2, _⟩
                · exact hnp (by rw [e2]; exact List.prefix_refl _)
                · exact hnp e2
          · rintro (⟨rfl, rfl⟩ | ⟨_, hs⟩)
            · exact .inr ⟨side q' (alike k q'), by rw [updC_same, leaf_has]; exact ⟨rfl, rfl⟩⟩
            · exact .inr ⟨side k (alike k q), by rw [updC_other _ _ _ _ hsn, updC_same]; exact hs⟩
      · rw [if_neg hb]
        have hbq : q.take (alike k q) = q := List.take_of_length_le (by omega)
        rw [hbq] at hkk hokk hpf ⊢
        refine ⟨⟨hpf, hq, by simp, fun s => ?_, .inl rfl⟩, fun q' y => ?_⟩
        · by_cases e : s = side k (alike k q)
          · subst e; rw [updC_same]; exact hokk
          · rw [updC_other _ _ _ _ e]; trivial
        · constructor
          · rintro (⟨_, e⟩ | ⟨s, hs⟩)
            · exact .inl e
            · by_cases e : s = side k (alike k q)
              · subst e; rw [updC_same] at hs
                refine .inr ⟨?_, hs⟩
                rintro rfl
                rw [Tr.has_node h3] at hs
                rcases hs with ⟨_, e2, _⟩ | ⟨e2, _⟩
                · exact hnp (by rw [e2]; exact List.prefix_refl _)
                · exact hnp e2
              · rw [updC_other _ _ _ _ e] at hs; exact absurd hs (by simp [Tr.Has])
          · rintro (⟨rfl, rfl⟩ | ⟨_, hs⟩)
            · exact .inl ⟨rfl, rfl, rfl⟩
            · exact .inr ⟨side k (alike k q), by rw [updC_same]; exact hs⟩
    · rw [if_neg ha]
      have hkq : k <+: q := alike_pre (by omega)
      by_cases hl : k.length < q.length
      · rw [if_pos hl]
        obtain ⟨i1, i2⟩ := ih (side q k.length) (x := x) (h3 _) (pre_of_side hkq hl hq) hq
        have h3' : ∀ s, (updC c (side q k.length) (putR (c (side q k.length)) q x) s).Ok (k ++ [sign s]) := by
          intro s
          by_cases e : s = side q k.length
          · subst e; rw [updC_same]; exact i1
          · rw [updC_other _ _ _ _ e]; exact h3 s
        refine ⟨⟨h1, h2, h0, h3', ?_⟩, fun q' y => ?_⟩
        · rcases h4 with h4 | h4
          · exact .inl h4
          · refine .inr fun s => ?_
            by_cases e : s = side q k.length
            · subst e; rw [updC_same]; exact putR_ne _ _ _
            · rw [updC_other _ _ _ _ e]; exact h4 s
        · constructor
          · rintro (⟨e1, e2, e3⟩ | ⟨s, hs⟩)
            · exact .inr ⟨by rintro rfl; subst e2; omega, .inl ⟨e1, e2, e3⟩⟩
            · by_cases e : s = side q k.length
              · subst e; rw [updC_same, i2] at hs
                rcases hs with hs | ⟨e1, e2⟩
                · exact .inl hs
                · exact .inr ⟨e1, .inr ⟨_, e2⟩⟩
              · rw [updC_other _ _ _ _ e] at hs
                refine .inr ⟨?_, .inr ⟨s, hs⟩⟩
                rintro rfl
                exact e (side_of_pre (Tr.has_pre (h3 s) hs).1).2.2.symm
          · rintro (⟨rfl, rfl⟩ | ⟨e, hs⟩)
            · exact .inr ⟨side q' k.length, by rw [updC_same, i2]; exact .inl ⟨rfl, rfl⟩⟩
            · rcases hs with hs | ⟨s, hs⟩
              · exact .inl hs
              · refine .inr ⟨s, ?_⟩
                by_cases e1 : s = side q k.length
                · subst e1; rw [updC_same, i2]; exact .inr ⟨e, hs⟩
                · rw [updC_other _ _ _ _ e1]; exact hs
      · rw [if_neg hl]
        have hkl := hkq.length_le
        have hke : k = q := hkq.eq_of_length (by omega)
        subst hke
        refine ⟨⟨h1, h2, by simp, h3, .inl rfl⟩, fun q' y => ?_⟩
        constructor
        · rintro (⟨_, e2, e3⟩ | ⟨s, hs⟩)
          · exact .inl ⟨e2, e3⟩
          · refine .inr ⟨?_, .inr ⟨s, hs⟩⟩
            rintro rfl
            have := (side_of_pre (Tr.has_pre (h3 s) hs).1).2.1
            omega
        · rintro (⟨rfl, rfl⟩ | ⟨e, hs⟩)
          · exact .inl ⟨rfl, rfl, rfl⟩
          · rcases hs with ⟨_, e2, _⟩ | hs
            · exact absurd e2 e
            · exact .inr hs
def needR (k : List UInt8) (v : Int) (h : Bool) (c : Bool → Tr) : Tr :=
  match h, c false, c true with
  | false, .nil, t => t
  | false, t, .nil => t
  | _, _, _ => .node k v h c
def delR : Tr → List UInt8 → Tr
  | .nil, _ => .nil
  | .node k v h c, q => if k = q then needR k 0 false c else needR k v h (updC c (side q k.length) (delR (c (side q k.length)) q))
theorem need_spec {p k : List UInt8} {v : Int} {h : Bool} {c : Bool → Tr} (h1 : p <+: k) (h2 : BitsL k) (h0 : h = false → v = 0) (h3 : ∀ s, (c s).Ok (k ++ [sign s])) :
    (needR k v h c).Ok p ∧ ∀ q x, (needR k v h c).Has q x ↔ (Tr.node k v h c).Has q x := by
  have hw : ∀ s, (c s).Ok p := fun s => by
    have := h3 s
    cases hc : c s with
    | nil => trivial
    | node k' v' h' c' =>
      rw [hc] at this
      exact ⟨h1.trans (side_of_pre this.1).1, this.2⟩
  cases h with
  | true => exact ⟨by simp only [needR]; exact ⟨h1, h2, h0, h3, .inl rfl⟩, fun q x => by simp only [needR]⟩
  | false =>
    simp only [needR]
    cases hl : c false with
    | nil =>
      simp only
      refine ⟨hw true, fun q x => ?_⟩
      simp only [Tr.Has, Bool.exists_bool, hl, Bool.false_eq_true, false_and, false_or]
    | node k1 v1 g1 c1 =>
      cases hr : c true with
      | nil =>
        simp only
        refine ⟨hl ▸ hw false, fun q x => ?_⟩
        simp only [Tr.Has, Bool.exists_bool, hl, hr, Bool.false_eq_true, false_and, false_or, or_false]
      | node k2 v2 g2 c2 =>
        simp only
        refine ⟨⟨h1, h2, h0, h3, .inr fun s => ?_⟩, fun q x => by simp⟩
        cases s
        · rw [hl]; simp
        · rw [hr]; simp
theorem del_spec {t : Tr} : ∀ {p q : List UInt8} {x : Int}, t.Ok p → t.Has q x → (delR t q).Ok p ∧ ∀ q' y, (delR t q).Has q' y ↔ q' ≠ q ∧ t.Has q' y := by
  induction t with
  | nil => intro p q x _ h; exact absurd h (by simp [Tr.Has])
  | node k v h c ih =>
    intro p q x ho hh
    obtain ⟨h1, h2, h0, h3, h4⟩ := ho
    have hn := (Tr.has_node h3).1 hh
    simp only [delR]
    by_cases hk : k = q
    · subst hk
      rw [if_pos rfl]
      obtain ⟨i1, i2⟩ := need_spec (v := 0) (h := false) h1 h2 (fun _ => rfl) h3
      refine ⟨i1, fun q' y => ?_⟩
      rw [i2]
      constructor
      · rintro (⟨e, _⟩ | ⟨s, hs⟩)
        · cases e
        · refine ⟨?_, .inr ⟨s, hs⟩⟩
          rintro rfl
          have := (side_of_pre (Tr.has_pre (h3 s) hs).1).2.1
          omega
      · rintro ⟨e, ⟨_, e2, _⟩ | hs⟩
        · exact absurd e2 e
        · exact .inr hs
    · rw [if_neg hk]
      rcases hn with ⟨_, e, _⟩ | ⟨a1, a2, a3⟩
      · exact absurd e.symm hk
      obtain ⟨i1, i2⟩ := ih (side q k.length) (h3 _) a3
      have h3' : ∀ s, (updC c (side q k.length) (delR (c (side q k.length)) q) s).Ok (k ++ [sign s]) := by
        intro s
        by_cases e : s = side q k.length
        · subst e; rw [updC_same]; exact i1
        · rw [updC_other _ _ _ _ e]; exact h3 s
      obtain ⟨j1, j2⟩ := need_spec (v := v) (h := h) h1 h2 h0 h3'
      refine ⟨j1, fun q' y => ?_⟩
      rw [j2]
      constructor
      · rintro (⟨e1, e2, e3⟩ | ⟨s, hs⟩)
        · exact ⟨by rintro rfl; exact hk e2.symm, .inl ⟨e1, e2, e3⟩⟩
        · by_cases e : s = side q k.length
          · subst e; rw [updC_same, i2] at hs; exact ⟨hs.1, .inr ⟨_, hs.2⟩⟩
          · rw [updC_other _ _ _ _ e] at hs
            refine ⟨?_, .inr ⟨s, hs⟩⟩
            rintro rfl
            exact e (side_of_pre (Tr.has_pre (h3 s) hs).1).2.2.symm
      · rintro ⟨e, hs | ⟨s, hs⟩⟩
        · exact .inl hs
        · refine .inr ⟨s, ?_⟩
          by_cases e1 : s = side q k.length
          · subst e1; rw [updC_same, i2]; exact ⟨e, hs⟩
          · rw [updC_other _ _ _ _ e1]; exact hs
def Tr.nodes : Tr → Nat
  | .nil => 0
  | .node _ _ _ c => 1 + (c false).nodes + (c true).nodes
/-- The words, in order. -/
def Tr.keys : Tr → List (List UInt8)
  | .nil => []
  | .node k _ h c => (if h then [k] else []) ++ (c false).keys ++ (c true).keys
theorem keys_mem {t : Tr} {q : List UInt8} : q ∈ t.keys ↔ ∃ x, t.Has q x := by
  induction t with
  | nil => simp [Tr.keys, Tr.Has]
  | node k v h c ih =>
    simp only [Tr.keys, List.mem_append, ih, Tr.Has, Bool.exists_bool]
    constructor
    · rintro ((h1 | ⟨x, hx⟩) | ⟨x, hx⟩)
      · cases h with
        | true => simp at h1; exact ⟨v, .inl ⟨rfl, h1, rfl⟩⟩
        | false => simp at h1
      · exact ⟨x, .inr (.inl hx)⟩
      · exact ⟨x, .inr (.inr hx)⟩
    · rintro ⟨x, ⟨rfl, rfl, rfl⟩ | hx | hx⟩
      · exact .inl (.inl (by simp))
      · exact .inl (.inr ⟨x, hx⟩)
      · exact .inr ⟨x, hx⟩
theorem keys_nodup {t : Tr} : ∀ {p : List UInt8}, t.Ok p → t.keys.Nodup := by
  induction t with
  | nil => intro p _; simp [Tr.keys]
  | node k v h c ih =>
    intro p ho
    have h3 := ho.2.2.2.1
    have hx : ∀ s q, q ∈ (c s).keys → k.length < q.length ∧ side q k.length = s := fun s q hq => by
      obtain ⟨x, hx⟩ := keys_mem.1 hq
      exact (side_of_pre (Tr.has_pre (h3 s) hx).1).2
    simp only [Tr.keys, List.append_assoc]
    refine List.nodup_append.2 ⟨by cases h <;> simp, List.nodup_append.2 ⟨ih _ (h3 _), ih _ (h3 _), ?_⟩, ?_⟩
    · intro a ha b hb e
      subst e
      have := (hx _ _ ha).2.symm.trans (hx _ _ hb).2
      cases this
    · intro a ha b hb e
      subst e
      have ha : a = k := by cases h <;> simp at ha; exact ha
      subst ha
      rcases List.mem_append.1 hb with hb | hb
      · have := (hx _ _ hb).1; omega
      · have := (hx _ _ hb).1; omega
theorem nodes_le {t : Tr} : ∀ {p : List UInt8}, t.Ok p → t.nodes ≤ 2 * t.keys.length ∧ (t ≠ .nil → t.nodes + 1 ≤ 2 * t.keys.length) := by
  induction t with
  | nil => intro p _; exact ⟨by simp [Tr.nodes], fun h => absurd rfl h⟩
  | node k v h c ih =>
    intro p ho
    obtain ⟨_, _, _, h3, h4⟩ := ho
    obtain ⟨a1, a2⟩ := ih false (h3 _)
    obtain ⟨b1, b2⟩ := ih true (h3 _)
    have key : (Tr.node k v h c).nodes + 1 ≤ 2 * (Tr.node k v h c).keys.length := by
      simp only [Tr.nodes, Tr.keys, List.length_append]
      rcases h4 with h4 | h4
      · subst h4
        have : (if true = true then [k] else []).length = 1 := rfl
        omega
      · have x1 := a2 (h4 false)
        have x2 := b2 (h4 true)
        omega
    exact ⟨by omega, fun _ => key⟩
/-- The nodes' words. -/
def Tr.spots : Tr → List (List UInt8)
  | .nil => []
  | .node k _ _ c => k :: ((c false).spots ++ (c true).spots)
theorem spots_length (t : Tr) : t.spots.length = t.nodes := by
  induction t with
  | nil => rfl
  | node k v h c ih => simp only [Tr.spots, Tr.nodes, List.length_cons, List.length_append, ih]; omega
theorem spots_pre {t : Tr} : ∀ {p q : List UInt8}, t.Ok p → q ∈ t.spots → p <+: q := by
  induction t with
  | nil => intro p q _ h; simp [Tr.spots] at h
  | node k v h c ih =>
    intro p q ho hq
    simp only [Tr.spots, List.mem_cons, List.mem_append] at hq
    obtain ⟨h1, _, _, h3, _⟩ := ho
    rcases hq with rfl | hq | hq
    · exact h1
    · exact h1.trans (side_of_pre (ih _ (h3 _) hq)).1
    · exact h1.trans (side_of_pre (ih _ (h3 _) hq)).1
theorem ex_word {t : Tr} : ∀ {p : List UInt8}, t.Ok p → t ≠ .nil → ∃ q x, t.Has q x := by
  induction t with
  | nil => intro p _ h; exact absurd rfl h
  | node k v h c ih =>
    intro p ho _
    obtain ⟨_, _, _, h3, h4⟩ := ho
    rcases h4 with h4 | h4
    · exact ⟨k, v, .inl ⟨h4, rfl, rfl⟩⟩
    · obtain ⟨q, x, hq⟩ := ih false (h3 _) (h4 _)
      exact ⟨q, x, .inr ⟨_, hq⟩⟩
theorem spots_mem {t : Tr} : ∀ {p q : List UInt8}, t.Ok p → (q ∈ t.spots ↔ (∃ x, t.Has q x) ∨ ∀ s, ∃ q' x, (q ++ [sign s]) <+: q' ∧ t.Has q' x) := by
  induction t with
  | nil => intro p q _; simp [Tr.spots, Tr.Has]
  | node k v h c ih =>
    intro p q ho
    obtain ⟨h1, h2, h0, h3, h4⟩ := ho
    simp only [Tr.spots, List.mem_cons, List.mem_append]
    constructor
    · intro hq
      have hs : q = k ∨ ∃ s, q ∈ (c s).spots := by
        rcases hq with hq | hq | hq
        · exact .inl hq
        · exact .inr ⟨_, hq⟩
        · exact .inr ⟨_, hq⟩
      rcases hs with rfl | ⟨s, hs⟩
      · rcases h4 with h4 | h4
        · exact .inl ⟨v, .inl ⟨h4, rfl, rfl⟩⟩
        · refine .inr fun s => ?_
          obtain ⟨q', x, hq'⟩ := ex_word (h3 s) (h4 s)
          exact ⟨q', x, (Tr.has_pre (h3 s) hq').1, .inr ⟨s, hq'⟩⟩
      · rcases (ih s (h3 s)).1 hs with ⟨x, hx⟩ | hx
        · exact .inl ⟨x, .inr ⟨s, hx⟩⟩
        · refine .inr fun u => ?_
          obtain ⟨q', x, e1, e2⟩ := hx u
          exact ⟨q', x, e1, .inr ⟨s, e2⟩⟩
    · have hm : ∀ s, q ∈ (c s).spots → q = k ∨ q ∈ (c false).spots ∨ q ∈ (c true).spots := fun s hs => by
        cases s
        · exact .inr (.inl hs)
        · exact .inr (.inr hs)
      rintro (⟨x, ⟨_, e, _⟩ | ⟨s, hs⟩⟩ | hx)
      · exact .inl e
      · exact hm s ((ih s (h3 s)).2 (.inl ⟨x, hs⟩))
      · obtain ⟨q0, x0, p0, e0⟩ := hx false
        obtain ⟨q1, x1, p1, e1⟩ := hx true
        obtain ⟨p0a, p0b, p0c⟩ := side_of_pre p0
        obtain ⟨p1a, p1b, p1c⟩ := side_of_pre p1
        rw [Tr.has_node h3] at e0 e1
        -- both begin with k; and with q
        have hk0 : k <+: q0 := by rcases e0 with ⟨_, e, _⟩ | ⟨e, _⟩; exact e ▸ List.prefix_refl _; exact e
        have hk1 : k <+: q1 := by rcases e1 with ⟨_, e, _⟩ | ⟨e, _⟩; exact e ▸ List.prefix_refl _; exact e
        have hside : ∀ {a b r : List UInt8}, a <+: r → b <+: r → a.length < b.length → side b a.length = side r a.length := by
          intro a b r ha hb hl
          obtain ⟨y, rfl⟩ := hb
          simp only [side, List.getD_eq_getElem?_getD, List.getElem?_append_left hl]
        rcases Nat.lt_trichotomy q.length k.length with hl | hl | hl
        · have x0 := hside p0a hk0 hl
          have x1 := hside p1a hk1 hl
          rw [p0c] at x0; rw [p1c] at x1; rw [x0] at x1; cases x1
        · have : q = k := (List.prefix_of_prefix_length_le p0a hk0 (by omega)).eq_of_length hl
          exact .inl this
        · -- q is beyond k: both lie on one side
          have hs0 : side q0 k.length = side q k.length := (hside hk0 p0a hl).symm
          have hs1 : side q1 k.length = side q k.length := (hside hk1 p1a hl).symm
          have f0 : (c (side q k.length)).Has q0 x0 := by
            rcases e0 with ⟨_, e, _⟩ | ⟨_, _, e⟩
            · subst e; omega
            · rwa [hs0] at e
          have f1 : (c (side q k.length)).Has q1 x1 := by
            rcases e1 with ⟨_, e, _⟩ | ⟨_, _, e⟩
            · subst e; omega
            · rwa [hs1] at e
          refine hm (side q k.length) ((ih (side q k.length) (h3 _)).2 (.inr fun s => ?_))
          cases s
          · exact ⟨q0, _, p0, f0⟩
          · exact ⟨q1, _, p1, f1⟩
theorem spots_nodup {t : Tr} : ∀ {p : List UInt8}, t.Ok p → t.spots.Nodup := by
  induction t with
  | nil => intro p _; simp [Tr.spots]
  | node k v h c ih =>
    intro p ho
    have h3 := ho.2.2.2.1
    have hx : ∀ s q, q ∈ (c s).spots → k.length < q.length ∧ side q k.length = s := fun s q hq => (side_of_pre (spots_pre (h3 s) hq)).2
    simp only [Tr.spots]
    refine List.nodup_cons.2 ⟨fun hm => ?_, List.nodup_append.2 ⟨ih _ (h3 _), ih _ (h3 _), ?_⟩⟩
    · rcases List.mem_append.1 hm with hb | hb
      · have := (hx _ _ hb).1; omega
      · have := (hx _ _ hb).1; omega
    · intro a ha b hb e
      subst e
      have := (hx _ _ ha).2.symm.trans (hx _ _ hb).2
      cases this
/-- Two nodup lists of the same members are as long. -/
theorem len_of_mem {α : Type} {a b : List α} (ha : a.Nodup) (hb : b.Nodup) (h : ∀ x, x ∈ a ↔ x ∈ b) : a.length = b.length := by
  have h1 := ha.length_le_of_subset (fun x hx => (h x).1 hx)
  have h2 := hb.length_le_of_subset (fun x hx => (h x).2 hx)
  omega
theorem nodes_same {t u : Tr} {p : List UInt8} (ht : t.Ok p) (hu : u.Ok p) (h : ∀ q, (∃ x, t.Has q x) ↔ ∃ x, u.Has q x) : t.nodes = u.nodes := by
  rw [← spots_length, ← spots_length]
  refine len_of_mem (spots_nodup ht) (spots_nodup hu) fun q => ?_
  rw [spots_mem ht, spots_mem hu, h]
  constructor
  · rintro (h1 | h1)
    · exact .inl h1
    · refine .inr fun s => ?_
      obtain ⟨q', x, e1, e2⟩ := h1 s
      obtain ⟨y, hy⟩ := (h q').1 ⟨x, e2⟩
      exact ⟨q', y, e1, hy⟩
  · rintro (h1 | h1)
    · exact .inl h1
    · refine .inr fun s => ?_
      obtain ⟨q', x, e1, e2⟩ := h1 s
      obtain ⟨y, hy⟩ := (h q').2 ⟨x, e2⟩
      exact ⟨q', y, e1, hy⟩
end Go.Proofs.YtgfoahednmipkaaDoor
