/- Texts that walks stand on, one behind the other. -/
import Derived.Test.YtkdknfedieeenaaGreatDoorCs
import Derived.Test.YtkdknfedieeenaaGreatDoorMgSA
import Derived.Test.YtkdknfedieeenaaGreatDoorProg
import Derived.BigQuiet
import Derived.IntWalk
import Derived.WalkSmall
import Derived.Deep.Cut
import Derived.Deep.DeepCutAuto
import Derived.Lib.Hide
import Derived.WalkMore
import Derived.Outline
import Derived.Test.YtkdknfedieeenaaGreatDoorShelf
import Derived.Test.YtkdknfedieeenaaGreatDoorBuf
import Derived.Shelf.Strings.SlTrimAscii
import Derived.Deep.TreeCalls
import Derived.Test.YtkdknfedieeenaaGreatDoorReg2
import Derived.Test.YtkdknfedieeenaaGreatDoorOb
import Derived.Test.YtkdknfedieeenaaGreatDoorReg
namespace Go.Proofs.YtkdknfedieeenaaGreatDoor
open Go.RowKit
set_option linter.unusedVariables false
inductive Tr where
  | nil : Tr
  | node (k : List UInt8) (v : Int) (h : Bool) (c : Bool → Tr) : Tr
def BitsL (k : List UInt8) : Prop := ∀ x ∈ k, x = 48 ∨ x = 49
def sign (s : Bool) : UInt8 := if s then 49 else 48
def side (q : List UInt8) (a : Nat) : Bool := q.getD a 0 == 49
def alikeT : List UInt8 → List UInt8 → Nat
  | a :: as_, b :: bs => if a = b then alikeT as_ bs + 1 else 0
  | _, _ => 0
def updC (c : Bool → Tr) (s : Bool) (t : Tr) : Bool → Tr := fun i => if i = s then t else c i
theorem updC_same (c : Bool → Tr) (s : Bool) (t : Tr) : updC c s t s = t := by simp [updC]
theorem updC_other (c : Bool → Tr) (s i : Bool) (t : Tr) (h : i ≠ s) : updC c s t i = c i := by simp [updC, h]
def Tr.Has : Tr → List UInt8 → Int → Prop
  | .nil, _, _ => False
  | .node k v h c, q, x => (h = true ∧ q = k ∧ x = v) ∨ ∃ s, (c s).Has q x
def Tr.Ok : List UInt8 → Tr → Prop
  | _, .nil => True
  | p, .node k v h c => p <+: k ∧ BitsL k ∧ (h = false → v = 0) ∧ (∀ s, (c s).Ok (k ++ [sign s])) ∧ (h = true ∨ ∀ s, c s ≠ .nil)
theorem bits_pre {p q : List UInt8} (h : p <+: q) (hq : BitsL q) : BitsL p := fun x hx => hq x (h.subset hx)
theorem side_of_pre {k q : List UInt8} {s : Bool} (h : (k ++ [sign s]) <+: q) : k <+: q ∧ k.length < q.length ∧ side q k.length = s := by
  obtain ⟨r, rfl⟩ := h
  refine ⟨⟨[sign s] ++ r, by simp⟩, by simp, ?_⟩
  simp only [side, List.getD_eq_getElem?_getD, List.append_assoc]
  rw [List.getElem?_append_right (Nat.le_refl _)]
  cases s <;> simp [sign]
theorem pre_of_side {k q : List UInt8} (h : k <+: q) (hl : k.length < q.length) (hq : BitsL q) : (k ++ [sign (side q k.length)]) <+: q := by
  obtain ⟨r, rfl⟩ := h
  cases r with
  | nil => simp at hl
  | cons y r =>
    have hy := hq y (by simp)
    have e : side (k ++ y :: r) k.length = (y == 49) := by
      simp only [side, List.getD_eq_getElem?_getD]
      rw [List.getElem?_append_right (Nat.le_refl _)]; simp
    rw [e]
    refine ⟨r, ?_⟩
    rcases hy with rfl | rfl <;> simp [sign]
theorem Tr.has_pre {t : Tr} : ∀ {p q : List UInt8} {x : Int}, t.Ok p → t.Has q x → p <+: q ∧ BitsL q := by
  induction t with
  | nil => intro p q x _ h; exact absurd h (by simp [Tr.Has])
  | node k v h c ih =>
    intro p q x ho hh
    obtain ⟨h1, h2, -, h3, -⟩ := ho
    rcases hh with ⟨-, rfl, -⟩ | ⟨s, hs⟩
    · exact ⟨h1, h2⟩
    · obtain ⟨q1, q2⟩ := ih s (h3 s) hs
      exact ⟨h1.trans ((side_of_pre q1).1), q2⟩
theorem Tr.has_node {k : List UInt8} {v : Int} {h : Bool} {c : Bool → Tr} {q : List UInt8} {x : Int} (h3 : ∀ s, (c s).Ok (k ++ [sign s])) :
    (Tr.node k v h c).Has q x ↔ (h = true ∧ q = k ∧ x = v) ∨ (k <+: q ∧ k.length < q.length ∧ (c (side q k.length)).Has q x) := by
  constructor
  · rintro (h1 | ⟨s, hs⟩)
    · exact .inl h1
    · obtain ⟨q1, q2, q3⟩ := side_of_pre (Tr.has_pre (h3 s) hs).1
      exact .inr ⟨q1, q2, by rw [q3]; exact hs⟩
  · rintro (h1 | ⟨_, _, h1⟩)
    · exact .inl h1
    · exact .inr ⟨_, h1⟩
theorem Tr.has_inj {t : Tr} : ∀ {p q : List UInt8} {x y : Int}, t.Ok p → t.Has q x → t.Has q y → x = y := by
  induction t with
  | nil => intro p q x y _ h; exact absurd h (by simp [Tr.Has])
  | node k v h c ih =>
    intro p q x y ho h1 h2
    have h3 := ho.2.2.2.1
    rw [Tr.has_node h3] at h1 h2
    rcases h1 with ⟨_, e1, e2⟩ | ⟨a1, a2, a3⟩ <;> rcases h2 with ⟨_, e3, e4⟩ | ⟨b1, b2, b3⟩
    · rw [e2, e4]
    · subst e1; omega
    · subst e3; omega
    · exact ih _ (h3 _) a3 b3
/-- The longest word with which one begins: how long, and its number. -/
def longR : Tr → List UInt8 → Option (Nat × Int) → Option (Nat × Int)
  | .nil, _, b => b
  | .node k v h c, q, b => if k <+: q then (if k.length = q.length then (if h then some (k.length, v) else b) else longR (c (side q k.length)) q (if h then some (k.length, v) else b)) else b
theorem pre_take {k q : List UInt8} (h : k <+: q) : q.take k.length = k := by
  obtain ⟨r, rfl⟩ := h
  simp
theorem has_take {k q : List UInt8} {v : Int} {h : Bool} {c : Bool → Tr} {m : Nat} {x : Int} (h3 : ∀ s, (c s).Ok (k ++ [sign s])) (hm : m ≤ q.length) (hh : (Tr.node k v h c).Has (q.take m) x) :
    k <+: q ∧ ((m = k.length ∧ h = true ∧ x = v) ∨ (k.length < m ∧ (c (side q k.length)).Has (q.take m) x)) := by
  rw [Tr.has_node h3] at hh
  rcases hh with ⟨e1, e2, e3⟩ | ⟨a1, a2, a3⟩
  · refine ⟨by rw [← e2]; exact List.take_prefix _ _, .inl ⟨?_, e1, e3⟩⟩
    rw [← e2]; simp; omega
  · refine ⟨a1.trans (List.take_prefix _ _), .inr ?_⟩
    have h1 : k.length < m := by simp at a2; omega
    refine ⟨h1, ?_⟩
    have : side (q.take m) k.length = side q k.length := by
      simp only [side, List.getD_eq_getElem?_getD, List.getElem?_take, if_pos h1]
    rwa [this] at a3
theorem long_spec {t : Tr} : ∀ {p q : List UInt8} {b : Option (Nat × Int)}, t.Ok p →
    (∃ n v, longR t q b = some (n, v) ∧ n ≤ q.length ∧ t.Has (q.take n) v ∧ ∀ m x, m ≤ q.length → t.Has (q.take m) x → m ≤ n) ∨ (longR t q b = b ∧ ∀ m x, m ≤ q.length → ¬ t.Has (q.take m) x) := by
  induction t with
  | nil => intro p q b _; exact .inr ⟨rfl, fun _ _ _ h => by simp [Tr.Has] at h⟩
  | node k v h c ih =>
    intro p q b ho
    have h3 := ho.2.2.2.1
    simp only [longR]
    by_cases hk : k <+: q
    · rw [if_pos hk]
      have hkl := hk.length_le
      by_cases hl : k.length = q.length
      · rw [if_pos hl]
        cases h with
        | true =>
          rw [if_pos rfl]
          refine .inl ⟨_, _, rfl, hkl, .inl ⟨rfl, pre_take hk, rfl⟩, fun m x hm _ => by omega⟩
        | false =>
          refine .inr ⟨by simp, fun m x hm hh => ?_⟩
          obtain ⟨-, ⟨_, e, _⟩ | ⟨e, _⟩⟩ := has_take h3 hm hh
          · cases e
          · omega
      · rw [if_neg hl]
        rcases ih (side q k.length) (q := q) (b := if h then some (k.length, v) else b) (h3 _) with ⟨n, x, e1, e2, e3, e4⟩ | ⟨e1, e2⟩
        · refine .inl ⟨n, x, e1, e2, .inr ⟨_, e3⟩, fun m y hm hh => ?_⟩
          obtain ⟨-, ⟨e5, _, _⟩ | ⟨e5, e6⟩⟩ := has_take h3 hm hh
          · obtain ⟨-, q1, -⟩ := side_of_pre (Tr.has_pre (h3 _) e3).1
            simp at q1; omega
          · exact e4 m y hm e6
        · rw [e1]
          cases h with
          | true =>
            rw [if_pos rfl]
            refine .inl ⟨_, _, rfl, hkl, .inl ⟨rfl, pre_take hk, rfl⟩, fun m x hm hh => ?_⟩
            obtain ⟨-, ⟨e5, _, _⟩ | ⟨e5, e6⟩⟩ := has_take h3 hm hh
            · omega
            · exact absurd e6 (e2 m x hm)
          | false =>
            refine .inr ⟨by simp, fun m x hm hh => ?_⟩
            obtain ⟨-, ⟨_, e, _⟩ | ⟨e, e6⟩⟩ := has_take h3 hm hh
            · cases e
            · exact e2 m x hm e6
    · rw [if_neg hk]
      exact .inr ⟨rfl, fun m x hm hh => hk (has_take h3 hm hh).1⟩
theorem alikeT_le : ∀ a b : List UInt8, alikeT a b ≤ a.length ∧ alikeT a b ≤ b.length
  | [], _ => by simp [alikeT]
  | _ :: _, [] => by simp [alikeT]
  | a :: as_, b :: bs => by
    have := alikeT_le as_ bs
    simp only [alikeT]; split <;> simp <;> omega
theorem alikeT_take : ∀ a b : List UInt8, a.take (alikeT a b) = b.take (alikeT a b)
  | [], _ => by simp [alikeT]
  | _ :: _, [] => by simp [alikeT]
  | a :: as_, b :: bs => by
    simp only [alikeT]
    split
    · rename_i h; subst h; simp [alikeT_take as_ bs]
    · simp
theorem alike_ne : ∀ a b : List UInt8, alikeT a b < a.length → alikeT a b < b.length → a[alikeT a b]? ≠ b[alikeT a b]?
  | [], _ => by simp [alikeT]
  | _ :: _, [] => by simp [alikeT]
  | a :: as_, b :: bs => by
    simp only [alikeT]
    split
    · rename_i h
      intro h1 h2
      simp only [List.length_cons] at h1 h2
      simpa using alike_ne as_ bs (by omega) (by omega)
    · rename_i h
      intro _ _ e
      simp at e; exact h e
theorem alike_pre {a b : List UInt8} (h : alikeT a b = a.length) : a <+: b := by
  have := alikeT_take a b
  rw [h, List.take_length] at this
  rw [this]; exact List.take_prefix _ _
theorem alike_of_pre {a b : List UInt8} (h : a <+: b) : alikeT a b = a.length := by
  obtain ⟨r, rfl⟩ := h
  induction a with
  | nil => simp [alikeT]
  | cons x a ih => simp [alikeT, ih]
theorem alike_ge {p a b : List UInt8} (h1 : p <+: a) (h2 : p <+: b) : p.length ≤ alikeT a b := by
  obtain ⟨r, rfl⟩ := h1
  obtain ⟨s, rfl⟩ := h2
  induction p with
  | nil => simp
  | cons x p ih => simp [alikeT]; exact ih
/-- A tree with a word's number. -/
def leafR (q : List UInt8) (x : Int) : Tr := .node q x true (fun _ => .nil)
def putR : Tr → List UInt8 → Int → Tr
  | .nil, q, x => leafR q x
  | .node k v h c, q, x =>
    if alikeT k q < k.length then
      (if alikeT k q < q.length then .node (q.take (alikeT k q)) 0 false (updC (updC (fun _ => .nil) (side k (alikeT k q)) (.node k v h c)) (side q (alikeT k q)) (leafR q x))
       else .node (q.take (alikeT k q)) x true (updC (fun _ => .nil) (side k (alikeT k q)) (.node k v h c)))
    else if k.length < q.length then .node k v h (updC c (side q k.length) (putR (c (side q k.length)) q x))
    else .node k x true c
theorem putR_ne (t : Tr) (q : List UInt8) (x : Int) : putR t q x ≠ .nil := by
  cases t with
  | nil => simp [putR, leafR]
  | node k v h c => simp only [putR]; split <;> (try split) <;> simp
theorem leaf_ok {p q : List UInt8} (x : Int) (hp : p <+: q) (hq : BitsL q) : (leafR q x).Ok p := ⟨hp, hq, by simp, fun _ => trivial, .inl rfl⟩
theorem leaf_has {q q' : List UInt8} {x y : Int} : (leafR q x).Has q' y ↔ q' = q ∧ y = x := by simp [leafR, Tr.Has]
theorem side_ne {a b : List UInt8} (ha : BitsL a) (hb : BitsL b) (h1 : alikeT a b < a.length) (h2 : alikeT a b < b.length) : side a (alikeT a b) ≠ side b (alikeT a b) := by
  have := alike_ne a b h1 h2
  rw [List.getElem?_eq_getElem h1, List.getElem?_eq_getElem h2] at this
  have x := ha _ (List.getElem_mem h1)
  have y := hb _ (List.getElem_mem h2)
  simp only [side, List.getD_eq_getElem?_getD, List.getElem?_eq_getElem h1, List.getElem?_eq_getElem h2, Option.getD_some]
  intro e
  rcases x with x | x <;> rcases y with y | y <;> rw [x, y] at this e <;> simp at this e
theorem take_pre_len {q : List UInt8} {n : Nat} (h : n ≤ q.length) : (q.take n).length = n := by simp; omega
theorem put_spec {t : Tr} : ∀ {p q : List UInt8} {x : Int}, t.Ok p → p <+: q → BitsL q →
    (putR t q x).Ok p ∧ ∀ q' y, (putR t q x).Has q' y ↔ (q' = q ∧ y = x) ∨ (q' ≠ q ∧ t.Has q' y) := by
  induction t with
  | nil =>
    intro p q x _ hp hq
    exact ⟨leaf_ok x hp hq, fun q' y => by simp only [putR, leaf_has, Tr.Has, and_false, or_false]⟩
  | node k v h c ih =>
    intro p q x ho hp hq
    have ho' := ho
    obtain ⟨h1, h2, h0, h3, h4⟩ := ho
    simp only [putR]
    have hal := alikeT_le k q
    by_cases ha : alikeT k q < k.length
    · rw [if_pos ha]
      have hnp : ¬ k <+: q := fun e => by rw [alike_of_pre e] at ha; omega
      have htk : q.take (alikeT k q) = k.take (alikeT k q) := (alikeT_take k q).symm
      have hpf : p <+: q.take (alikeT k q) := by
        have := alike_ge h1 hp
        exact List.prefix_take_iff.2 ⟨hp, this⟩
      have hln : (q.take (alikeT k q)).length = alikeT k q := take_pre_len hal.2
      have hkk : (q.take (alikeT k q) ++ [sign (side k (alikeT k q))]) <+: k := by
        have := pre_of_side (k := k.take (alikeT k q)) (q := k) (List.take_prefix _ _) (by rw [take_pre_len hal.1]; exact ha) h2
        rw [take_pre_len hal.1] at this
        rw [htk]; exact this
      have hokk : (Tr.node k v h c).Ok (q.take (alikeT k q) ++ [sign (side k (alikeT k q))]) := ⟨hkk, h2, h0, h3, h4⟩
      by_cases hb : alikeT k q < q.length
      · rw [if_pos hb]
        have hqq : (q.take (alikeT k q) ++ [sign (side q (alikeT k q))]) <+: q := by
          have := pre_of_side (k := q.take (alikeT k q)) (q := q) (List.take_prefix _ _) (by rw [hln]; exact hb) hq
          rw [hln] at this; exact this
        have hsn := side_ne h2 hq ha hb
        refine ⟨⟨hpf, bits_pre (List.take_prefix _ _) hq, fun _ => rfl, fun s => ?_, .inr fun s => ?_⟩, fun q' y => ?_⟩
        · by_cases e : s = side q (alikeT k q)
          · subst e; rw [updC_same]; exact leaf_ok x hqq hq
          · rw [updC_other _ _ _ _ e]
            have e' : s = side k (alikeT k q) := by
              cases s <;> cases hx : side q (alikeT k q) <;> cases hy : side k (alikeT k q) <;> simp_all
            subst e'; rw [updC_same]; exact hokk
        · by_cases e : s = side q (alikeT k q)
          · subst e; rw [updC_same]; simp [leafR]
          · rw [updC_other _ _ _ _ e]
            have e' : s = side k (alikeT k q) := by
              cases s <;> cases hx : side q (alikeT k q) <;> cases hy : side k (alikeT k q) <;> simp_all
            subst e'; rw [updC_same]; simp
        · constructor
          · rintro (⟨e, _⟩ | ⟨s, hs⟩)
            · cases e
            · by_cases e : s = side q (alikeT k q)
              · subst e; rw [updC_same, leaf_has] at hs; exact .inl hs
              · rw [updC_other _ _ _ _ e] at hs
                have e' : s = side k (alikeT k q) := by
                  cases s <;> cases hx : side q (alikeT k q) <;> cases hy : side k (alikeT k q) <;> simp_all
                subst e'; rw [updC_same] at hs
                refine .inr ⟨?_, hs⟩
                rintro rfl
                rw [Tr.has_node h3] at hs
                rcases hs with ⟨_, e2, _⟩ | ⟨e2, _⟩
                · exact hnp (by rw [e2]; exact List.prefix_refl _)
                · exact hnp e2
          · rintro (⟨rfl, rfl⟩ | ⟨_, hs⟩)
            · exact .inr ⟨side q' (alikeT k q'), by rw [updC_same, leaf_has]; exact ⟨rfl, rfl⟩⟩
            · exact .inr ⟨side k (alikeT k q), by rw [updC_other _ _ _ _ hsn, updC_same]; exact hs⟩
      · rw [if_neg hb]
        have hbq : q.take (alikeT k q) = q := List.take_of_length_le (by omega)
        rw [hbq] at hkk hokk hpf ⊢
        refine ⟨⟨hpf, hq, by simp, fun s => ?_, .inl rfl⟩, fun q' y => ?_⟩
        · by_cases e : s = side k (alikeT k q)
          · subst e; rw [updC_same]; exact hokk
          · rw [updC_other _ _ _ _ e]; trivial
        · constructor
          · rintro (⟨_, e⟩ | ⟨s, hs⟩)
            · exact .inl e
            · by_cases e : s = side k (alikeT k q)
              · subst e; rw [updC_same] at hs
                refine .inr ⟨?_, hs⟩
                rintro rfl
                rw [Tr.has_node h3] at hs
                rcases hs with ⟨_, e2, _⟩ | ⟨e2, _⟩
                · exact hnp (by rw [e2]; exact List.prefix_refl _)
                · exact hnp e2
              · rw [updC_other _ _ _ _ e] at hs; exact absurd hs (by simp [Tr.Has])
          · rintro (⟨rfl, rfl⟩ | ⟨_, hs⟩)
            · exact .inl ⟨rfl, rfl, rfl⟩
            · exact .inr ⟨side k (alikeT k q), by rw [updC_same]; exact hs⟩
    · rw [if_neg ha]
      have hkq : k <+: q := alike_pre (by omega)
      by_cases hl : k.length < q.length
      · rw [if_pos hl]
        obtain ⟨i1, i2⟩ := ih (side q k.length) (x := x) (h3 _) (pre_of_side hkq hl hq) hq
        have h3' : ∀ s, (updC c (side q k.length) (putR (c (side q k.length)) q x) s).Ok (k ++ [sign s]) := by
          intro s
          by_cases e : s = side q k.length
          · subst e; rw [updC_same]; exact i1
          · rw [updC_other _ _ _ _ e]; exact h3 s
        refine ⟨⟨h1, h2, h0, h3', ?_⟩, fun q' y => ?_⟩
        · rcases h4 with h4 | h4
          · exact .inl h4
          · refine .inr fun s => ?_
            by_cases e : s = side q k.length
            · subst e; rw [updC_same]; exact putR_ne _ _ _
            · rw [updC_other _ _ _ _ e]; exact h4 s
        · constructor
          · rintro (⟨e1, e2, e3⟩ | ⟨s, hs⟩)
            · exact .inr ⟨by rintro rfl; subst e2; omega, .inl ⟨e1, e2, e3⟩⟩
            · by_cases e : s = side q k.length
              · subst e; rw [updC_same, i2] at hs
                rcases hs with hs | ⟨e1, e2⟩
                · exact .inl hs
                · exact .inr ⟨e1, .inr ⟨_, e2⟩⟩
              · rw [updC_other _ _ _ _ e] at hs
                refine .inr ⟨?_, .inr ⟨s, hs⟩⟩
                rintro rfl
                exact e (side_of_pre (Tr.has_pre (h3 s) hs).1).2.2.symm
          · rintro (⟨rfl, rfl⟩ | ⟨e, hs⟩)
            · exact .inr ⟨side q' k.length, by rw [updC_same, i2]; exact .inl ⟨rfl, rfl⟩⟩
            · rcases hs with hs | ⟨s, hs⟩
              · exact .inl hs
              · refine .inr ⟨s, ?_⟩
                by_cases e1 : s = side q k.length
                · subst e1; rw [updC_same, i2]; exact .inr ⟨e, hs⟩
                · rw [updC_other _ _ _ _ e1]; exact hs
      · rw [if_neg hl]
        have hkl := hkq.length_le
        have hke : k = q := hkq.eq_of_length (by omega)
        subst hke
        refine ⟨⟨h1, h2, by simp, h3, .inl rfl⟩, fun q' y => ?_⟩
        constructor
        · rintro (⟨_, e2, e3⟩ | ⟨s, hs⟩)
          · exact .inl ⟨e2, e3⟩
          · refine .inr ⟨?_, .inr ⟨s, hs⟩⟩
            rintro rfl
            have := (side_of_pre (Tr.has_pre (h3 s) hs).1).2.1
            omega
        · rintro (⟨rfl, rfl⟩ | ⟨e, hs⟩)
          · exact .inl ⟨rfl, rfl, rfl⟩
          · rcases hs with ⟨_, e2, _⟩ | hs
            · exact absurd e2 e
            · exact .inr hs
def needR (k : List UInt8) (v : Int) (h : Bool) (c : Bool → Tr) : Tr :=
  match h, c false, c true with
  | false, .nil, t => t
  | false, t, .nil => t
  | _, _, _ => .node k v h c
def delR : Tr → List UInt8 → Tr
  | .nil, _ => .nil
  | .node k v h c, q => if k = q then needR k 0 false c else needR k v h (updC c (side q k.length) (delR (c (side q k.length)) q))
theorem need_spec {p k : List UInt8} {v : Int} {h : Bool} {c : Bool → Tr} (h1 : p <+: k) (h2 : BitsL k) (h0 : h = false → v = 0) (h3 : ∀ s, (c s).Ok (k ++ [sign s])) :
    (needR k v h c).Ok p ∧ ∀ q x, (needR k v h c).Has q x ↔ (Tr.node k v h c).Has q x := by
  have hw : ∀ s, (c s).Ok p := fun s => by
    have := h3 s
    cases hc : c s with
    | nil => trivial
    | node k' v' h' c' =>
      rw [hc] at this
      exact ⟨h1.trans (side_of_pre this.1).1, this.2⟩
  cases h with
  | true => exact ⟨by simp only [needR]; exact ⟨h1, h2, h0, h3, .inl rfl⟩, fun q x => by simp only [needR]⟩
  | false =>
    simp only [needR]
    cases hl : c false with
    | nil =>
      simp only
      refine ⟨hw true, fun q x => ?_⟩
      simp only [Tr.Has, Bool.exists_bool, hl, Bool.false_eq_true, false_and, false_or]
    | node k1 v1 g1 c1 =>
      cases hr : c true with
      | nil =>
        simp only
        refine ⟨hl ▸ hw false, fun q x => ?_⟩
        simp only [Tr.Has, Bool.exists_bool, hl, hr, Bool.false_eq_true, false_and, false_or, or_false]
      | node k2 v2 g2 c2 =>
        simp only
        refine ⟨⟨h1, h2, h0, h3, .inr fun s => ?_⟩, fun q x => by simp⟩
        cases s
        · rw [hl]; simp
        · rw [hr]; simp
theorem del_spec {t : Tr} : ∀ {p q : List UInt8} {x : Int}, t.Ok p → t.Has q x → (delR t q).Ok p ∧ ∀ q' y, (delR t q).Has q' y ↔ q' ≠ q ∧ t.Has q' y := by
  induction t with
  | nil => intro p q x _ h; exact absurd h (by simp [Tr.Has])
  | node k v h c ih =>
    intro p q x ho hh
    obtain ⟨h1, h2, h0, h3, h4⟩ := ho
    have hn := (Tr.has_node h3).1 hh
    simp only [delR]
    by_cases hk : k = q
    · subst hk
      rw [if_pos rfl]
      obtain ⟨i1, i2⟩ := need_spec (v := 0) (h := false) h1 h2 (fun _ => rfl) h3
      refine ⟨i1, fun q' y => ?_⟩
      rw [i2]
      constructor
      · rintro (⟨e, _⟩ | ⟨s, hs⟩)
        · cases e
        · refine ⟨?_, .inr ⟨s, hs⟩⟩
          rintro rfl
          have := (side_of_pre (Tr.has_pre (h3 s) hs).1).2.1
          omega
      · rintro ⟨e, ⟨_, e2, _⟩ | hs⟩
        · exact absurd e2 e
        · exact .inr hs
    · rw [if_neg hk]
      rcases hn with ⟨_, e, _⟩ | ⟨a1, a2, a3⟩
      · exact absurd e.symm hk
      obtain ⟨i1, i2⟩ := ih (side q k.length) (h3 _) a3
      have h3' : ∀ s, (updC c (side q k.length) (delR (c (side q k.length)) q) s).Ok (k ++ [sign s]) := by
        intro s
        by_cases e : s = side q k.length
        · subst e; rw [updC_same]; exact i1
        · rw [updC_other _ _ _ _ e]; exact h3 s
      obtain ⟨j1, j2⟩ := need_spec (v := v) (h := h) h1 h2 h0 h3'
      refine ⟨j1, fun q' y => ?_⟩
      rw [j2]
      constructor
      · rintro (⟨e1, e2, e3⟩ | ⟨s, hs⟩)
        · exact ⟨by rintro rfl; exact hk e2.symm, .inl ⟨e1, e2, e3⟩⟩
        · by_cases e : s = side q k.length
          · subst e; rw [updC_same, i2] at hs; exact ⟨hs.1, .inr ⟨_, hs.2⟩⟩
          · rw [updC_other _ _ _ _ e] at hs
            refine ⟨?_, .inr ⟨s, hs⟩⟩
            rintro rfl
            exact e (side_of_pre (Tr.has_pre (h3 s) hs).1).2.2.symm
      · rintro ⟨e, hs | ⟨s, hs⟩⟩
        · exact .inl hs
        · refine .inr ⟨s, ?_⟩
          by_cases e1 : s = side q k.length
          · subst e1; rw [updC_same, i2]; exact ⟨e, hs⟩
          · rw [updC_other _ _ _ _ e1]; exact hs
def Tr.nodes : Tr → Nat
  | .nil => 0
  | .node _ _ _ c => 1 + (c false).nodes + (c true).nodes
/-- The words, in order. -/
def Tr.keys : Tr → List (List UInt8)
  | .nil => []
  | .node k _ h c => (if h then [k] else []) ++ (c false).keys ++ (c true).keys
theorem keys_mem {t : Tr} {q : List UInt8} : q ∈ t.keys ↔ ∃ x, t.Has q x := by
  induction t with
  | nil => simp [Tr.keys, Tr.Has]
  | node k v h c ih =>
    simp only [Tr.keys, List.mem_append, ih, Tr.Has, Bool.exists_bool]
    constructor
    · rintro ((h1 | ⟨x, hx⟩) | ⟨x, hx⟩)
      · cases h with
        | true => simp at h1; exact ⟨v, .inl ⟨rfl, h1, rfl⟩⟩
        | false => simp at h1
      · exact ⟨x, .inr (.inl hx)⟩
      · exact ⟨x, .inr (.inr hx)⟩
    · rintro ⟨x, ⟨rfl, rfl, rfl⟩ | hx | hx⟩
      · exact .inl (.inl (by simp))
      · exact .inl (.inr ⟨x, hx⟩)
      · exact .inr ⟨x, hx⟩
theorem keys_nodup {t : Tr} : ∀ {p : List UInt8}, t.Ok p → t.keys.Nodup := by
  induction t with
  | nil => intro p _; simp [Tr.keys]
  | node k v h c ih =>
    intro p ho
    have h3 := ho.2.2.2.1
    have hx : ∀ s q, q ∈ (c s).keys → k.length < q.length ∧ side q k.length = s := fun s q hq => by
      obtain ⟨x, hx⟩ := keys_mem.1 hq
      exact (side_of_pre (Tr.has_pre (h3 s) hx).1).2
    simp only [Tr.keys, List.append_assoc]
    refine List.nodup_append.2 ⟨by cases h <;> simp, List.nodup_append.2 ⟨ih _ (h3 _), ih _ (h3 _), ?_⟩, ?_⟩
    · intro a ha b hb e
      subst e
      have := (hx _ _ ha).2.symm.trans (hx _ _ hb).2
      cases this
    · intro a ha b hb e
      subst e
      have ha : a = k := by cases h <;> simp at ha; exact ha
      subst ha
      rcases List.mem_append.1 hb with hb | hb
      · have := (hx _ _ hb).1; omega
      · have := (hx _ _ hb).1; omega
theorem nodes_le {t : Tr} : ∀ {p : List UInt8}, t.Ok p → t.nodes ≤ 2 * t.keys.length ∧ (t ≠ .nil → t.nodes + 1 ≤ 2 * t.keys.length) := by
  induction t with
  | nil => intro p _; exact ⟨by simp [Tr.nodes], fun h => absurd rfl h⟩
  | node k v h c ih =>
    intro p ho
    obtain ⟨_, _, _, h3, h4⟩ := ho
    obtain ⟨a1, a2⟩ := ih false (h3 _)
    obtain ⟨b1, b2⟩ := ih true (h3 _)
    have key : (Tr.node k v h c).nodes + 1 ≤ 2 * (Tr.node k v h c).keys.length := by
      simp only [Tr.nodes, Tr.keys, List.length_append]
      rcases h4 with h4 | h4
      · subst h4
        have : (if true = true then [k] else []).length = 1 := rfl
        omega
      · have x1 := a2 (h4 false)
        have x2 := b2 (h4 true)
        omega
    exact ⟨by omega, fun _ => key⟩
/-- The nodes' words. -/
def Tr.spots : Tr → List (List UInt8)
  | .nil => []
  | .node k _ _ c => k :: ((c false).spots ++ (c true).spots)
theorem spots_length (t : Tr) : t.spots.length = t.nodes := by
  induction t with
  | nil => rfl
  | node k v h c ih => simp only [Tr.spots, Tr.nodes, List.length_cons, List.length_append, ih]; omega
theorem spots_pre {t : Tr} : ∀ {p q : List UInt8}, t.Ok p → q ∈ t.spots → p <+: q := by
  induction t with
  | nil => intro p q _ h; simp [Tr.spots] at h
  | node k v h c ih =>
    intro p q ho hq
    simp only [Tr.spots, List.mem_cons, List.mem_append] at hq
    obtain ⟨h1, _, _, h3, _⟩ := ho
    rcases hq with rfl | hq | hq
    · exact h1
    · exact h1.trans (side_of_pre (ih _ (h3 _) hq)).1
    · exact h1.trans (side_of_pre (ih _ (h3 _) hq)).1
theorem ex_word {t : Tr} : ∀ {p : List UInt8}, t.Ok p → t ≠ .nil → ∃ q x, t.Has q x := by
  induction t with
  | nil => intro p _ h; exact absurd rfl h
  | node k v h c ih =>
    intro p ho _
    obtain ⟨_, _, _, h3, h4⟩ := ho
    rcases h4 with h4 | h4
    · exact ⟨k, v, .inl ⟨h4, rfl, rfl⟩⟩
    · obtain ⟨q, x, hq⟩ := ih false (h3 _) (h4 _)
      exact ⟨q, x, .inr ⟨_, hq⟩⟩
theorem spots_mem {t : Tr} : ∀ {p q : List UInt8}, t.Ok p → (q ∈ t.spots ↔ (∃ x, t.Has q x) ∨ ∀ s, ∃ q' x, (q ++ [sign s]) <+: q' ∧ t.Has q' x) := by
  induction t with
  | nil => intro p q _; simp [Tr.spots, Tr.Has]
  | node k v h c ih =>
    intro p q ho
    obtain ⟨h1, h2, h0, h3, h4⟩ := ho
    simp only [Tr.spots, List.mem_cons, List.mem_append]
    constructor
    · intro hq
      have hs : q = k ∨ ∃ s, q ∈ (c s).spots := by
        rcases hq with hq | hq | hq
        · exact .inl hq
        · exact .inr ⟨_, hq⟩
        · exact .inr ⟨_, hq⟩
      rcases hs with rfl | ⟨s, hs⟩
      · rcases h4 with h4 | h4
        · exact .inl ⟨v, .inl ⟨h4, rfl, rfl⟩⟩
        · refine .inr fun s => ?_
          obtain ⟨q', x, hq'⟩ := ex_word (h3 s) (h4 s)
          exact ⟨q', x, (Tr.has_pre (h3 s) hq').1, .inr ⟨s, hq'⟩⟩
      · rcases (ih s (h3 s)).1 hs with ⟨x, hx⟩ | hx
        · exact .inl ⟨x, .inr ⟨s, hx⟩⟩
        · refine .inr fun u => ?_
          obtain ⟨q', x, e1, e2⟩ := hx u
          exact ⟨q', x, e1, .inr ⟨s, e2⟩⟩
    · have hm : ∀ s, q ∈ (c s).spots → q = k ∨ q ∈ (c false).spots ∨ q ∈ (c true).spots := fun s hs => by
        cases s
        · exact .inr (.inl hs)
        · exact .inr (.inr hs)
      rintro (⟨x, ⟨_, e, _⟩ | ⟨s, hs⟩⟩ | hx)
      · exact .inl e
      · exact hm s ((ih s (h3 s)).2 (.inl ⟨x, hs⟩))
      · obtain ⟨q0, x0, p0, e0⟩ := hx false
        obtain ⟨q1, x1, p1, e1⟩ := hx true
        obtain ⟨p0a, p0b, p0c⟩ := side_of_pre p0
        obtain ⟨p1a, p1b, p1c⟩ := side_of_pre p1
        rw [Tr.has_node h3] at e0 e1
        -- both begin with k; and with q
        have hk0 : k <+: q0 := by rcases e0 with ⟨_, e, _⟩ | ⟨e, _⟩; exact e ▸ List.prefix_refl _; exact e
        have hk1 : k <+: q1 := by rcases e1 with ⟨_, e, _⟩ | ⟨e, _⟩; exact e ▸ List.prefix_refl _; exact e
        have hside : ∀ {a b r : List UInt8}, a <+: r → b <+: r → a.length < b.length → side b a.length = side r a.length := by
          intro a b r ha hb hl
          obtain ⟨y, rfl⟩ := hb
          simp only [side, List.getD_eq_getElem?_getD, List.getElem?_append_left hl]
        rcases Nat.lt_trichotomy q.length k.length with hl | hl | hl
        · have x0 := hside p0a hk0 hl
          have x1 := hside p1a hk1 hl
          rw [p0c] at x0; rw [p1c] at x1; rw [x0] at x1; cases x1
        · have : q = k := (List.prefix_of_prefix_length_le p0a hk0 (by omega)).eq_of_length hl
          exact .inl this
        · -- q is beyond k: both lie on one side
          have hs0 : side q0 k.length = side q k.length := (hside hk0 p0a hl).symm
          have hs1 : side q1 k.length = side q k.length := (hside hk1 p1a hl).symm
          have f0 : (c (side q k.length)).Has q0 x0 := by
            rcases e0 with ⟨_, e, _⟩ | ⟨_, _, e⟩
            · subst e; omega
            · rwa [hs0] at e
          have f1 : (c (side q k.length)).Has q1 x1 := by
            rcases e1 with ⟨_, e, _⟩ | ⟨_, _, e⟩
            · subst e; omega
            · rwa [hs1] at e
          refine hm (side q k.length) ((ih (side q k.length) (h3 _)).2 (.inr fun s => ?_))
          cases s
          · exact ⟨q0, _, p0, f0⟩
          · exact ⟨q1, _, p1, f1⟩
theorem spots_nodup {t : Tr} : ∀ {p : List UInt8}, t.Ok p → t.spots.Nodup := by
  induction t with
  | nil => intro p _; simp [Tr.spots]
  | node k v h c ih =>
    intro p ho
    have h3 := ho.2.2.2.1
    have hx : ∀ s q, q ∈ (c s).spots → k.length < q.length ∧ side q k.length = s := fun s q hq => (side_of_pre (spots_pre (h3 s) hq)).2
    simp only [Tr.spots]
    refine List.nodup_cons.2 ⟨fun hm => ?_, List.nodup_append.2 ⟨ih _ (h3 _), ih _ (h3 _), ?_⟩⟩
    · rcases List.mem_append.1 hm with hb | hb
      · have := (hx _ _ hb).1; omega
      · have := (hx _ _ hb).1; omega
    · intro a ha b hb e
      subst e
      have := (hx _ _ ha).2.symm.trans (hx _ _ hb).2
      cases this
/-- Two nodup lists of the same members are as_ long. -/
theorem len_of_mem {α : Type} {a b : List α} (ha : a.Nodup) (hb : b.Nodup) (h : ∀ x, x ∈ a ↔ x ∈ b) : a.length = b.length := by
  have h1 := ha.length_le_of_subset (fun x hx => (h x).1 hx)
  have h2 := hb.length_le_of_subset (fun x hx => (h x).2 hx)
  omega
theorem nodes_same {t u : Tr} {p : List UInt8} (ht : t.Ok p) (hu : u.Ok p) (h : ∀ q, (∃ x, t.Has q x) ↔ ∃ x, u.Has q x) : t.nodes = u.nodes := by
  rw [← spots_length, ← spots_length]
  refine len_of_mem (spots_nodup ht) (spots_nodup hu) fun q => ?_
  rw [spots_mem ht, spots_mem hu, h]
  constructor
  · rintro (h1 | h1)
    · exact .inl h1
    · refine .inr fun s => ?_
      obtain ⟨q', x, e1, e2⟩ := h1 s
      obtain ⟨y, hy⟩ := (h q').1 ⟨x, e2⟩
      exact ⟨q', y, e1, hy⟩
  · rintro (h1 | h1)
    · exact .inl h1
    · refine .inr fun s => ?_
      obtain ⟨q', x, e1, e2⟩ := h1 s
      obtain ⟨y, hy⟩ := (h q').2 ⟨x, e2⟩
      exact ⟨q', y, e1, hy⟩
end Go.Proofs.YtkdknfedieeenaaGreatDoor
namespace Go.Proofs.YtkdknfedieeenaaGreatDoor
open Go.RowKit
set_option linter.unusedVariables false
/-- A word as_ a string. -/
def sb (k : List UInt8) : ByteArray := ⟨k.toArray⟩
theorem sb_size (k : List UInt8) : (sb k).size = k.length := by simp [sb, ByteArray.size]
theorem sb_list (k : List UInt8) : (sb k).data.toList = k := by simp [sb]
theorem sb_of (s : ByteArray) : sb s.data.toList = s := by simp [sb]
theorem sb_inj {a b : List UInt8} (h : sb a = sb b) : a = b := by rw [← sb_list a, h, sb_list]
theorem sb_append (a b : List UInt8) : sb a ++ sb b = sb (a ++ b) := by
  apply ByteArray.ext
  simp [sb]
theorem sb_take (q : List UInt8) (n : Nat) : (sb q).extract 0 n = sb (q.take n) := by
  apply ByteArray.ext
  rw [ByteArray.data_extract]
  simp [sb]
theorem sb_get (q : List UInt8) (i : Nat) (h : i < (sb q).size) : (sb q)[i] = q[i]'(by rwa [sb_size] at h) := by
  show (sb q).data[i] = _
  simp [sb]
def ptrV (p : Option Nat) : Value := .pointer (p.map fun b => ⟨b, 0, none⟩)
/-- The tree lies at p, in these blocks. -/
def TrM (w : World) : Tr → Option Nat → List Nat → Prop
  | .nil, p, bs => p = none ∧ bs = []
  | .node k v h c, p, bs => ∃ (b : Nat) (ps : Bool → Option Nat) (bb : Bool → List Nat), p = some b ∧ bs = b :: (bb false ++ bb true) ∧ Cs w b [.string (sb k), .int .i64 v, .bool h, ptrV (ps false), ptrV (ps true)] ∧ ∀ s, TrM w (c s) (ps s) (bb s)
theorem mem_bb {bb : Bool → List Nat} {s : Bool} {x b : Nat} (h : x ∈ bb s) : x ∈ b :: (bb false ++ bb true) := by
  cases s <;> simp [h]
theorem TrM.lt {w : World} {t : Tr} : ∀ {p : Option Nat} {bs : List Nat}, TrM w t p bs → ∀ x ∈ bs, x < w.heap.size := by
  induction t with
  | nil => intro p bs h x hx; obtain ⟨-, rfl⟩ := h; cases hx
  | node k v h c ih =>
    intro p bs hm x hx
    obtain ⟨b, ps, bb, rfl, rfl, hc, hk⟩ := hm
    simp only [List.mem_cons, List.mem_append] at hx
    rcases hx with rfl | hx | hx
    · exact hc.lt
    · exact ih _ (hk _) x hx
    · exact ih _ (hk _) x hx
theorem TrM.keep {w w' : World} {t : Tr} : ∀ {p : Option Nat} {bs : List Nat}, TrM w t p bs → w.heap.size ≤ w'.heap.size → (∀ x ∈ bs, w'.heap[x]? = w.heap[x]?) → TrM w' t p bs := by
  induction t with
  | nil => intro p bs h _ _; exact h
  | node k v h c ih =>
    intro p bs hm hs he
    obtain ⟨b, ps, bb, rfl, rfl, hc, hk⟩ := hm
    refine ⟨b, ps, bb, rfl, rfl, hc.block (he b (by simp)) hs, fun s => ih s (hk s) hs fun x hx => he x (mem_bb hx)⟩
theorem TrM.only {w w' : World} {t : Tr} {p : Option Nat} {bs : List Nat} {S : Nat → Prop} (h : TrM w t p bs) (ho : Only S w w') (hn : ∀ x ∈ bs, ¬ S x) : TrM w' t p bs :=
  h.keep ho.size fun x hx => ho.block x (h.lt x hx) (hn x hx)
theorem TrM.below {w w' : World} {t : Tr} {p : Option Nat} {bs : List Nat} (h : TrM w t p bs) (hb : Below w.heap.size w w') : TrM w' t p bs := h.keep hb.size fun x hx => hb.block x (h.lt x hx)
theorem TrM.drewN {w : World} {t : Tr} {p : Option Nat} {bs : List Nat} (h : TrM w t p bs) (n : Nat) : TrM (w.drewN n) t p bs := h.keep (Nat.le_refl _) fun _ _ => rfl
theorem TrM.nil_ptr {w : World} {t : Tr} {bs : List Nat} (h : TrM w t none bs) : t = .nil ∧ bs = [] := by
  cases t with
  | nil => exact ⟨rfl, h.2⟩
  | node k v g c => obtain ⟨b, _, _, e, _⟩ := h; cases e
theorem TrM.some_ptr {w : World} {t : Tr} {b : Nat} {bs : List Nat} (h : TrM w t (some b) bs) : ∃ k v g c, t = .node k v g c := by
  cases t with
  | nil => cases h.1
  | node k v g c => exact ⟨k, v, g, c, rfl⟩
theorem TrM.leaf (w : World) (q : List UInt8) (x : Int) (b : Nat) (h : Cs w b [.string (sb q), .int .i64 x, .bool true, .pointer none, .pointer none]) : TrM w (leafR q x) (some b) [b] :=
  ⟨b, fun _ => none, fun _ => [], rfl, rfl, h, fun _ => ⟨rfl, rfl⟩⟩
/-- How many blocks there are. -/
theorem TrM.count {w : World} {t : Tr} : ∀ {p : Option Nat} {bs : List Nat}, TrM w t p bs → bs.length = t.nodes := by
  induction t with
  | nil => intro p bs h; obtain ⟨-, rfl⟩ := h; rfl
  | node k v h c ih =>
    intro p bs hm
    obtain ⟨b, ps, bb, rfl, rfl, hc, hk⟩ := hm
    simp only [List.length_cons, List.length_append, ih _ (hk _), Tr.nodes]
    omega
def updP {α : Type} (c : Bool → α) (s : Bool) (t : α) : Bool → α := fun i => if i = s then t else c i
/-- A node one of whose kids is another tree now. -/
theorem TrM.kid {w : World} {k : List UInt8} {v : Int} {h : Bool} {c : Bool → Tr} {b : Nat} {ps : Bool → Option Nat} {bb : Bool → List Nat} {s : Bool} {t : Tr} {p : Option Nat} {bs : List Nat}
    (hc : Cs w b [.string (sb k), .int .i64 v, .bool h, ptrV (updP ps s p false), ptrV (updP ps s p true)]) (ht : TrM w t p bs) (ho : TrM w (c (!s)) (ps (!s)) (bb (!s))) :
    TrM w (.node k v h (updC c s t)) (some b) (b :: (updP bb s bs false ++ updP bb s bs true)) := by
  refine ⟨b, updP ps s p, updP bb s bs, rfl, rfl, hc, fun i => ?_⟩
  by_cases e : i = s
  · subst e; rw [updC_same]; simpa [updP] using ht
  · have e' : i = !s := by cases i <;> cases s <;> simp_all
    subst e'
    rw [updC_other _ _ _ _ e]; simpa [updP, e] using ho
theorem updP_mem {bb : Bool → List Nat} {s : Bool} {bs : List Nat} {b x : Nat} (h : x ∈ b :: (updP bb s bs false ++ updP bb s bs true)) : x = b ∨ x ∈ bs ∨ x ∈ bb (!s) := by
  cases s <;> simp [updP] at h ⊢ <;> rcases h with h | h | h <;> simp [h]
theorem updP_nodup {bb : Bool → List Nat} {s : Bool} {bs : List Nat} {b : Nat} (h1 : bs.Nodup) (h2 : (bb (!s)).Nodup) (h3 : b ∉ bs) (h4 : b ∉ bb (!s)) (h5 : ∀ x ∈ bs, x ∉ bb (!s)) :
    (b :: (updP bb s bs false ++ updP bb s bs true)).Nodup := by
  refine List.nodup_cons.2 ⟨fun hm => ?_, ?_⟩
  · cases s <;> simp [updP] at hm <;> rcases hm with hm | hm <;> simp_all
  · cases s
    · simp only [updP] at *
      refine List.nodup_append.2 ⟨by simpa using h1, by simpa using h2, fun x hx y hy e => ?_⟩
      subst e
      exact h5 x (by simpa using hx) (by simpa using hy)
    · simp only [updP] at *
      refine List.nodup_append.2 ⟨by simpa using h2, by simpa using h1, fun x hx y hy e => ?_⟩
      subst e
      exact h5 x (by simpa using hy) (by simpa using hx)
theorem bb_nodup {bb : Bool → List Nat} {b : Nat} (h : (b :: (bb false ++ bb true)).Nodup) : (∀ s, (bb s).Nodup) ∧ (∀ s, b ∉ bb s) ∧ ∀ s, ∀ x ∈ bb s, x ∉ bb (!s) := by
  obtain ⟨h1, h2⟩ := List.nodup_cons.1 h
  obtain ⟨h3, h4, h5⟩ := List.nodup_append.1 h2
  refine ⟨fun s => by cases s <;> assumption, fun s hm => h1 (by cases s <;> simp [hm]), fun s x hx hy => ?_⟩
  cases s
  · exact h5 x hx x hy rfl
  · exact h5 x hy x hx rfl
end Go.Proofs.YtkdknfedieeenaaGreatDoor
namespace Go.Proofs.YtkdknfedieeenaaGreatDoor
open Go.RowKit
set_option linter.unusedVariables false
set_option maxRecDepth 20000
theorem alike_at {a b : List UInt8} {j : Nat} (h : j < alikeT a b) (h1 : j < a.length) (h2 : j < b.length) : a[j] = b[j] := by
  have := alikeT_take a b
  have h3 := congrArg (fun l : List UInt8 => l[j]?) this
  simp only [List.getElem?_take, if_pos h] at h3
  rw [List.getElem?_eq_getElem h1, List.getElem?_eq_getElem h2] at h3
  exact Option.some.inj h3
theorem side_num {q : List UInt8} {i : Nat} (hq : BitsL q) (hi : i < q.length) : (q[i].toNat : Int) = if side q i then 49 else 48 := by
  have hx := hq _ (List.getElem_mem hi)
  simp only [side, List.getD_eq_getElem?_getD, List.getElem?_eq_getElem hi, Option.getD_some]
  rcases hx with hx | hx <;> rw [hx] <;> rfl
/-- By which sign a word goes on. -/
theorem side_any (q : List UInt8) (i : Nat) (w : World) (hq : BitsL q) (hi : i < q.length) (hl : q.length ≤ maxLen) :
    Calls Tryz.prog 100 #[.string (sb q), .int .i64 i] w fun e w' => e = .returned (.int .i64 (if side q i then 1 else 0)) ∧ w = w' := by
  have hsz : i < (sb q).size := by rw [sb_size]; exact hi
  have hsz' : (i : Int) < (sb q).size := by omega
  have hg : ((sb q)[i].toNat : Int) = if side q i then 49 else 48 := by rw [sb_get]; exact side_num hq hi
  generalize side q i = s at *
  generalize hn : (sb q)[i].toNat = n at *
  cases s with
  | true =>
    obtain rfl : n = 49 := by have : (n : Int) = _ := hg; simp at this; omega
    clear hg
    go_enter Tryz.func100, Tryz.ntmps100
    go_wp2
    go_ret
    exact ⟨rfl, rfl⟩
  | false =>
    obtain rfl : n = 48 := by have : (n : Int) = _ := hg; simp at this; omega
    clear hg
    go_enter Tryz.func100, Tryz.ntmps100
    go_wp2
    go_ret
    exact ⟨rfl, rfl⟩
set_option maxHeartbeats 1600000 in
/-- How many signs two words have alikeT. -/
theorem common_any (a b : List UInt8) (w : World) (ha : a.length ≤ maxLen) (hb : b.length ≤ maxLen) :
    Calls Tryz.prog 126 #[.string (sb a), .string (sb b)] w fun e w' => e = .returned (.int .i64 (alikeT a b)) ∧ ∃ n, w.drewN n = w' := by
  have hal := alikeT_le a b
  have hm : maxLen = 9223372036854775807 := by decide
  have hsa := sb_size a
  have hsb := sb_size b
  obtain ⟨A, hA⟩ : ∃ A, sb a = A := ⟨_, rfl⟩
  obtain ⟨B, hB⟩ : ∃ B, sb b = B := ⟨_, rfl⟩
  have heq : Hid (∀ j (h : j < alikeT a b) (h1 : j < A.size) (h2 : j < B.size), A[j].toNat = B[j].toNat) := Lib.hid (fun j h h1 h2 => by
    subst hA hB
    rw [sb_get, sb_get, alike_at h])
  have hne : Hid (∀ (h1 : alikeT a b < A.size) (h2 : alikeT a b < B.size), A[alikeT a b].toNat ≠ B[alikeT a b].toNat) := Lib.hid (fun h1 h2 e => by
    subst hA hB
    rw [sb_get, sb_get] at e
    rw [sb_size] at h1 h2
    have := alike_ne a b h1 h2
    rw [List.getElem?_eq_getElem h1, List.getElem?_eq_getElem h2] at this
    exact this (by rw [UInt8.toNat_inj.1 e]))
  rw [hA] at hsa ⊢
  rw [hB] at hsb ⊢
  generalize alikeT a b = m at *
  have hma : m ≤ A.size := by omega
  have hmb : m ≤ B.size := by omega
  have hma' : A.size ≤ 9223372036854775807 := by omega
  have hmb' : B.size ≤ 9223372036854775807 := by omega
  clear hA hB hsa hsb hal ha hb hm
  go_enter Tryz.func126, Tryz.ntmps126
  go_wp2_with fail
  go_loopw [5] (fun v wr => ∃ j n : Nat, j ≤ m ∧ v = .int .i64 j ∧ w.drewN n = wr) (fun v _ => m - (intOf v).toNat)
  case atStart => exact ⟨0, 0, Nat.zero_le _, rfl, rfl⟩
  case round =>
    obtain ⟨j, n, hj, rfl, rfl⟩ := hrel
    by_cases hjm : j < m
    · have hja : j < A.size := by omega
      have hjb : j < B.size := by omega
      have d1 : decide ((j : Int) < A.size) = true := by simp; omega
      have d2 : decide ((j : Int) < B.size) = true := by simp; omega
      have d3 : decide (j < A.size) = true := by simp; omega
      have d4 : decide (j < B.size) = true := by simp; omega
      have e0 := heq.out j hjm hja hjb
      obtain ⟨c, hc⟩ : ∃ c, B[j].toNat = c := ⟨_, rfl⟩
      rw [hc] at e0
      have d5 : ((c : Int) == (c : Int)) = true := by simp
      have HEQ := Lib.hid heq.out
      clear heq
      go_upto_region 2 with fail
      go_quiet (fail)
      go_wp2_with fail
      go_roundw
      case rel => exact ⟨j + 1, _, by omega, by go_num, rfl⟩
      case measure => simp [intOf]; omega
    · obtain rfl : j = m := by omega
      by_cases hja : j < A.size
      · by_cases hjb : j < B.size
        · have d1 : decide ((j : Int) < A.size) = true := by simp; omega
          have d2 : decide ((j : Int) < B.size) = true := by simp; omega
          have e0 := hne.out hja hjb
          obtain ⟨c, hc⟩ : ∃ c, A[j].toNat = c := ⟨_, rfl⟩
          obtain ⟨d, hd⟩ : ∃ d, B[j].toNat = d := ⟨_, rfl⟩
          rw [hc, hd] at e0
          have d5 : ((c : Int) == (d : Int)) = false := by simp; omega
          clear heq hne
          go_upto_region 2 with fail
          go_quiet (fail)
          go_wp2_with fail
          go_ret
          exact ⟨rfl, _, (World.drewN_drewN _ _ _).symm⟩
        · have d1 : decide ((j : Int) < A.size) = true := by simp; omega
          have d2 : decide ((j : Int) < B.size) = false := by simp; omega
          clear heq hne
          go_upto_region 2 with fail
          go_quiet (fail)
          go_wp2_with fail
          go_ret
          exact ⟨rfl, _, (World.drewN_drewN _ _ _).symm⟩
      · have d1 : decide ((j : Int) < A.size) = false := by simp; omega
        clear heq hne
        go_upto_region 2 with fail
        go_quiet (fail)
        go_wp2_with fail
        go_ret
        exact ⟨rfl, _, (World.drewN_drewN _ _ _).symm⟩
end Go.Proofs.YtkdknfedieeenaaGreatDoor
namespace Go.Proofs.YtkdknfedieeenaaGreatDoor
open Go.RowKit
set_option linter.unusedVariables false
set_option maxRecDepth 20000
def mayL (q : List UInt8) : Bool := decide (q.length ≤ 128) && q.all (fun b => b == 48 || b == 49)
theorem mayL_iff (q : List UInt8) : mayL q = true ↔ q.length ≤ 128 ∧ BitsL q := by
  simp [mayL, BitsL]
theorem all_trim (q : List UInt8) : Lib.trimS q [48, 49] = [] ↔ BitsL q := by
  have hc : ∀ x : UInt8, [48, 49].contains x = true ↔ x = 48 ∨ x = 49 := by simp
  have hdrop : ∀ l : List UInt8, l.dropWhile (fun x => [48, 49].contains x) = [] ↔ BitsL l := by
    intro l
    induction l with
    | nil => simp [BitsL]
    | cons a l ih =>
      by_cases ha : a = 48 ∨ a = 49
      · rw [List.dropWhile_cons_of_pos ((hc a).2 ha), ih]
        simp [BitsL, ha]
      · rw [List.dropWhile_cons_of_neg (fun e => ha ((hc a).1 e))]
        simp only [reduceCtorEq, false_iff]
        exact fun e => ha (e a (by simp))
  have hrev : ∀ l : List UInt8, BitsL l.reverse ↔ BitsL l := fun l => by simp [BitsL]
  unfold Lib.trimS Lib.trimLeftS
  rw [hdrop]
  constructor
  · intro h
    -- what is left of the right trim is of signs; and what was cut is
    have h1 : Lib.trimRightS q [48, 49] = [] := by
      by_cases hn : Lib.trimRightS q [48, 49] = []
      · exact hn
      · exfalso
        unfold Lib.trimRightS at hn h
        have hh : ∀ l : List UInt8, l.dropWhile (fun x => [48, 49].contains x) ≠ [] → ∃ a, a ∈ l.dropWhile (fun x => [48, 49].contains x) ∧ ¬ (a = 48 ∨ a = 49) := by
          intro l
          induction l with
          | nil => intro e; exact absurd rfl e
          | cons a l ih =>
            intro e
            by_cases ha : a = 48 ∨ a = 49
            · rw [List.dropWhile_cons_of_pos ((hc a).2 ha)] at e ⊢; exact ih e
            · rw [List.dropWhile_cons_of_neg (fun e => ha ((hc a).1 e))]
              exact ⟨a, by simp, ha⟩
        obtain ⟨a, h1, h2⟩ := hh q.reverse (fun e => hn (by rw [e]; rfl))
        exact h2 (h a (by simpa using h1))
    unfold Lib.trimRightS at h1
    have h2 : q.reverse.dropWhile (fun x => [48, 49].contains x) = [] := by simpa using h1
    exact (hrev q).1 ((hdrop _).1 h2)
  · intro h
    unfold Lib.trimRightS
    have : q.reverse.dropWhile (fun x => [48, 49].contains x) = [] := (hdrop _).2 ((hrev q).2 h)
    rw [this]
    intro x hx; cases hx
theorem trim_any (q : List UInt8) (w : World) (hq : q.length ≤ 9223372036854775807) :
    Calls Tryz.prog 125 #[.string (sb q), .string ⟨#[48, 49]⟩] w fun e w' => e = .returned (.string (sb (Lib.trimS q [48, 49]))) ∧ Below w.heap.size w w' := by
  have h := Any.strings_Trim_laid Tryz.lays160 (by kernel_rfl) (sb q) ⟨#[48, 49]⟩ w (by rw [sb_size]; exact hq) (by decide) (ascii_of_all (by decide))
  rw [sb_list] at h
  exact h
theorem mayT_any (q : List UInt8) (w : World) (hq : q.length ≤ 9223372036854775807) :
    Calls Tryz.prog 97 #[.string (sb q)] w fun e w' => e = .returned (.bool (mayL q)) ∧ Below w.heap.size w w' := by
  have hsz := sb_size q
  by_cases hl : q.length ≤ 128
  · have d1 : decide (((sb q).size : Int) ≤ 128) = true := by rw [hsz]; simp; omega
    have HT := Lib.hid (trim_any q w hq)
    by_cases hb : BitsL q
    · have hm : mayL q = true := (mayL_iff q).2 ⟨hl, hb⟩
      have e0 : Lib.trimS q [48, 49] = [] := (all_trim q).2 hb
      rw [e0] at HT
      rw [hm]
      have f0 : ((sb []).toList == (ByteArray.mk #[]).toList) = true := str_same _ _ rfl
      have f1 : (sb [] : ByteArray) = ⟨#[]⟩ := rfl
      clear hm e0 hsz hl
      go_enter Tryz.func97, Tryz.ntmps97
      go_wp2_with (go_at_call 125; refine HT.out.mono ?_; rintro e w' ⟨rfl, hB⟩)
      go_ret
      exact ⟨rfl, hB⟩
    · have hm : mayL q = false := by
        cases h : mayL q with
        | false => rfl
        | true => exact absurd ((mayL_iff q).1 h).2 hb
      have e0 : Lib.trimS q [48, 49] ≠ [] := fun e => hb ((all_trim q).1 e)
      rw [hm]
      generalize Lib.trimS q [48, 49] = T at *
      have hT : (sb T).toList.isEmpty = false := str_empty' _ (by rw [sb_size]; intro e; exact e0 (List.eq_nil_of_length_eq_zero e))
      have hT' : ((sb T).toList == []) = false := str_empty _ (by rw [sb_size]; intro e; exact e0 (List.eq_nil_of_length_eq_zero e))
      clear hm e0 hsz hl
      go_enter Tryz.func97, Tryz.ntmps97
      go_wp2_with (go_at_call 125; refine HT.out.mono ?_; rintro e w' ⟨rfl, hB⟩)
      go_ret
      exact ⟨rfl, hB⟩
  · have d1 : decide (((sb q).size : Int) ≤ 128) = false := by rw [hsz]; simp; omega
    have hm : mayL q = false := by
      cases h : mayL q with
      | false => rfl
      | true => exact absurd ((mayL_iff q).1 h).1 hl
    rw [hm]
    clear hm hsz hl
    go_enter Tryz.func97, Tryz.ntmps97
    go_wp2
    go_ret
    exact ⟨rfl, Below.refl _ _⟩
/-- Whether a word begins with another one. -/
theorem hasPrefix_any (q k : List UInt8) (w : World) (hq : q.length ≤ maxLen) (hk : k.length ≤ maxLen) :
    Calls Tryz.prog 99 #[.string (sb q), .string (sb k)] w fun e w' => e = .returned (.bool (decide (k <+: q))) ∧ w = w' := by
  have h := Tryz.strings_HasPrefix (sb q) (sb k) w
  rw [sb_list, sb_list] at h
  have e : Lib.hasPrefix q k = decide (k <+: q) := by
    rw [Bool.eq_iff_iff]; simp [Lib.hasPrefix]
  rw [e] at h
  exact h.mono fun e w' ⟨h1, h2⟩ => ⟨h1, h2.symm⟩
end Go.Proofs.YtkdknfedieeenaaGreatDoor
namespace Go.Proofs.YtkdknfedieeenaaGreatDoor
open Go.RowKit
set_option linter.unusedVariables false
set_option maxRecDepth 20000
/-- A pointer stands as_ one. -/
theorem ptrV_none : ptrV none = .pointer none := rfl
theorem ptrV_some (b : Nat) : ptrV (some b) = .pointer (some ⟨b, 0, none⟩) := rfl
end Go.Proofs.YtkdknfedieeenaaGreatDoor
namespace Go.Proofs.YtkdknfedieeenaaGreatDoor
open Go.RowKit
set_option linter.unusedVariables false
/-- The world goes on: nothing that was there turns but block g. -/
def GoesBut (g : Nat) (w w' : World) : Prop := w.heap.size ≤ w'.heap.size ∧ ∀ k, k < w.heap.size → k ≠ g → w'.heap[k]? = w.heap[k]?
theorem GoesBut.refl (g : Nat) (w : World) : GoesBut g w w := ⟨Nat.le_refl _, fun _ _ _ => rfl⟩
theorem GoesBut.alloc (g : Nat) (w : World) (o : Obj) : GoesBut g w (w.alloc o) := ⟨by simp, fun k hk _ => Below.heap_alloc w o k hk⟩
theorem GoesBut.set (g j : Nat) (w : World) (u : Value) : GoesBut g w (w.setCell ⟨g, j, none⟩ u) := ⟨by simp, fun k _ hk => Below.heap_setCell w _ u k hk⟩
theorem GoesBut.below {g : Nat} {w w' : World} (h : Below w.heap.size w w') : GoesBut g w w' := ⟨h.size, fun k hk _ => h.block k hk⟩
theorem GoesBut.cell {g : Nat} {w w' : World} (h : GoesBut g w w') {b j : Nat} (hb : b < w.heap.size) (hg : b ≠ g) : w'.cell? ⟨b, j, none⟩ = w.cell? ⟨b, j, none⟩ := World.cell?_of_block (w := w) (h.2 b hb hg)
def AllStayX (Ext : World → World → Prop) : List (Value → World → Prop) → Prop
  | [] => True
  | p :: ps => (∀ v w w', p v w → Ext w w' → p v w') ∧ AllStayX Ext ps
theorem AllStayX.mem {Ext : World → World → Prop} : ∀ {l : List (Value → World → Prop)}, AllStayX Ext l → ∀ p ∈ l, ∀ v w w', p v w → Ext w w' → p v w'
  | q :: l, h, p, hp => by
    rcases List.mem_cons.1 hp with rfl | hp
    · exact h.1
    · exact AllStayX.mem h.2 p hp
theorem isV_stayX (Ext : World → World → Prop) (u : Value) : ∀ v w w', isV u v w → Ext w w' → isV u v w' := fun _ _ _ h _ => h
section
variable {P : Program} {ops : Array Oper} {Q : Exit → Act → World → Prop}
theorem wp_region_ext {id : Nat} {base : Act} {w0 : World} (hm : P.follows .mixedOrders = true) {FF : (Nat → Value) → Act} (hFF : ∀ x, putsF x 0 (ops.toList.map (·.dst)) base = FF x) (R : World → Prop) (Ext : World → World → Prop) (Ws : List (Value → World → Prop))
    (hn : noTwice (ops.toList.map (·.dst)) = true) (hg : guardsIn ops base.tmps.size = true) (hwf : wellFormed ops = true) (hlen : Ws.length = ops.size) (stays : AllStayX Ext Ws) (refl : ∀ w, Ext w w) (start : R w0.drew)
    (steps : OpStepsG P ops Q Ws R Ext FF 0 ops.toList)
    (fin : ∀ (x : Nat → Value) (w : World), R w → AllWords Ws x w 0 Ws → Q .normal (FF x) w) :
    (Code.region id ops true).wp P Q base w0 :=
  wp_region_words hm Ws R Ext hn hwf hlen stays.mem refl start (OpStepsG.steps hn hg hFF ops.toList 0 (fun _ h => h) steps) (fun x w hr hw => by rw [hFF x]; exact fin x w hr hw)
end
theorem next_of {A a' : Act} {d : Option Tmp} {p : Value → World → Prop} {R : World → Prop} {Ext : World → World → Prop} {w w' : World} (v : Value) (ha : a' = A.put d v) (hp : p v w') (hR : R w') (he : Ext w w') : Next A d p R Ext w a' w' := ⟨v, ha, hp, hR, he⟩
end Go.Proofs.YtkdknfedieeenaaGreatDoor
namespace Go.Proofs.YtkdknfedieeenaaGreatDoor
set_option linter.unusedVariables false
section
variable {P : Program} {ops : Array Oper} {Q : Exit → Act → World → Prop}
/-- A region that draws its order, by one word on all that has been done: which operations, what their slots hold, and the world. -/
theorem wp_region_joint {id : Nat} {base : Act} {w0 : World} (hm : P.follows .mixedOrders = true) (J : (Nat → Bool) → (Nat → Value) → World → Prop)
    (hn : noTwice (ops.toList.map (·.dst)) = true) (hwf : wellFormed ops = true)
    (start : ∀ x, J (fun _ => false) x w0.drew)
    (steps : ∀ i (hi : i < ops.size) (d : Nat → Bool) (x : Nat → Value) (w : World), J d x w → d i = false → (∀ e ∈ (ops[i]).after.toList, Region.binds .any e = true → d e.on = true) →
      if Region.wanted ops[i] (yielded ops (putsF x 0 (ops.toList.map (·.dst)) base).tmps) = true
      then Oper.wp P ops[i] (putsF x 0 (ops.toList.map (·.dst)) base) w (fun a' w' => ∃ v, a' = (putsF x 0 (ops.toList.map (·.dst)) base).put (ops[i]).dst v ∧ J (fun j => if j = i then true else d j) (fun j => if j = i then v else x j) w') Q
      else J (fun j => if j = i then true else d j) (fun j => if j = i then undef else x j) w)
    (fin : ∀ (d : Nat → Bool) (x : Nat → Value) (w : World), (∀ i, i < ops.size → d i = true) → J d x w → Q .normal (putsF x 0 (ops.toList.map (·.dst)) base) w) :
    (Code.region id ops true).wp P Q base w0 := by
  -- if nothing is ready all has come up
  have hall : ∀ listed : Array Bool, listed.size = ops.size → Region.ready .any ops listed = [] → ∀ i, i < ops.size → listed.getD i false = true := by
    intro listed hs hr i
    induction i using Nat.strongRecOn with
    | _ i ih =>
      intro hi
      cases hli : listed.getD i false with
      | true => rfl
      | false =>
        exfalso
        have hmem : i ∈ Region.ready .any ops listed := by
          unfold Region.ready
          rw [List.mem_filter]
          refine ⟨by simpa using hi, ?_⟩
          have hd : listed.getD i true = false := by
            simp [Array.getD, hs, hi] at hli ⊢; exact hli
          rw [hd]
          simp only [Bool.not_false, Bool.true_and, Array.getElem?_eq_getElem hi, Option.map_some, Option.getD_some]
          rw [Array.all_eq_true']
          intro e he
          by_cases hb : Region.binds .any e = true
          · have hlt : e.on < i := by
              unfold wellFormed at hwf
              rw [List.all_eq_true] at hwf
              have := hwf (ops[i], i) (by rw [List.mem_zipIdx_iff_getElem?]; simp [hi])
              simp only [Array.all_eq_true'] at this
              have := this e he
              simpa [hb] using this
            simp [hb, ih e.on hlt (by omega)]
          · simp [hb]
        rw [hr] at hmem
        cases hmem
  have main : ∀ (fuel : Nat) (listed : Array Bool) (x : Nat → Value) (w : World), listed.size = ops.size → (List.range ops.size).countP (fun i => !listed.getD i false) ≤ fuel →
      J (fun i => listed.getD i false) x w → wpAny P .any ops Q fuel listed (putsF x 0 (ops.toList.map (·.dst)) base) w := by
    intro fuel
    have hfin : ∀ (listed : Array Bool) (x : Nat → Value) (w : World), listed.size = ops.size → J (fun i => listed.getD i false) x w → Region.ready .any ops listed = [] → Q .normal (putsF x 0 (ops.toList.map (·.dst)) base) w := by
      intro listed x w hs hJ hr
      exact fin _ x w (fun i hi => hall listed hs hr i hi) hJ
    induction fuel with
    | zero =>
      intro listed x w hs hc hJ
      have hr : Region.ready .any ops listed = [] := by
        unfold Region.ready
        rw [List.filter_eq_nil_iff]
        intro i hi
        have h0 := Nat.le_zero.1 hc
        rw [List.countP_eq_zero] at h0
        have := h0 i hi
        have hi' : i < ops.size := by simpa using hi
        simp [Array.getD, hs, hi'] at this ⊢
        simp [this]
      exact ⟨hr, hfin listed x w hs hJ hr⟩
    | succ fuel ih =>
      intro listed x w hs hc hJ
      refine ⟨hfin listed x w hs hJ, fun i hi => ?_⟩
      unfold Region.ready at hi
      rw [List.mem_filter] at hi
      obtain ⟨hir, hi2⟩ := hi
      have hio : i < ops.size := by simpa using hir
      simp only [Bool.and_eq_true, Bool.not_eq_true', Array.getElem?_eq_getElem hio, Option.map_some, Option.getD_some] at hi2
      obtain ⟨hli, haft⟩ := hi2
      have hli' : listed[i]'(by omega) = false := by simpa [Array.getD, hs, hio] using hli
      have hop := steps i hio (fun i => listed.getD i false) x w hJ (by simp [Array.getD, hs, hio, hli']) (fun e he hb => by
        rw [Array.all_eq_true'] at haft
        have := haft e (by simpa using he)
        simpa [hb] using this)
      have hds : (ops.toList.map (·.dst))[i]? = some (ops[i]).dst := by simp [hio]
      have next : ∀ v w', J (fun j => if j = i then true else listed.getD j false) (fun j => if j = i then v else x j) w' → wpAny P .any ops Q fuel (listed.setIfInBounds i true) ((putsF x 0 (ops.toList.map (·.dst)) base).put (ops[i]).dst v) w' := by
        intro v w' hJ'
        have hset := putsF_set x (ops.toList.map (·.dst)) 0 i base (ops[i]).dst v hn hds
        rw [Nat.zero_add] at hset
        rw [← hset]
        have hJ2 : J (fun j => (listed.setIfInBounds i true).getD j false) (fun j => if j = i then v else x j) w' := by
          have : (fun j => (listed.setIfInBounds i true).getD j false) = (fun j => if j = i then true else listed.getD j false) := by
            funext j; exact getD_set listed i j (by omega)
          rw [this]; exact hJ'
        refine ih _ _ w' (by simpa using hs) ?_ hJ2
        have hlt : (List.range ops.size).countP (fun j => !(listed.setIfInBounds i true).getD j false) < (List.range ops.size).countP (fun j => !listed.getD j false) := by
          have hsub : ∀ (l : List Nat), (∀ j ∈ l, j < ops.size) → l.Nodup → i ∈ l → l.countP (fun j => !(listed.setIfInBounds i true).getD j false) < l.countP (fun j => !listed.getD j false) := by
            intro l
            induction l with
            | nil => intro _ _ h; cases h
            | cons y l ihl =>
              intro hlt' hnd hmem
              have hy : y < ops.size := hlt' y (by simp)
              have heq : ∀ j, j < ops.size → (listed.setIfInBounds i true).getD j false = if j = i then true else listed.getD j false := fun j _ => getD_set listed i j (by omega)
              by_cases hyi : y = i
              · subst hyi
                have hsame : l.countP (fun j => !(listed.setIfInBounds y true).getD j false) = l.countP (fun j => !listed.getD j false) := by
                  apply List.countP_congr
                  intro j hj
                  have hne : j ≠ y := fun e => by subst e; exact (List.nodup_cons.1 hnd).1 hj
                  rw [heq j (hlt' j (by simp [hj])), if_neg hne]
                rw [List.countP_cons, List.countP_cons, hsame, heq y hy, if_pos rfl]
                have : listed.getD y false = false := by simp [Array.getD, hs, hy, hli']
                simp [this]
              · have hm' : i ∈ l := by
                  rcases List.mem_cons.1 hmem with h | h
                  · exact absurd h.symm hyi
                  · exact h
                have := ihl (fun j hj => hlt' j (by simp [hj])) (List.nodup_cons.1 hnd).2 hm'
                rw [List.countP_cons, List.countP_cons, heq y hy, if_neg hyi]
                omega
          exact hsub _ (fun j hj => by simpa using hj) List.nodup_range (by simpa using hio)
        omega
      unfold wpOp
      simp only [Array.getElem?_eq_getElem hio]
      split
      · rename_i hw
        rw [if_pos hw] at hop
        exact .inl (Oper.wp_mono (fun a' w' ⟨v, e, hv⟩ => by rw [e]; exact next v w' hv) hop)
      · rename_i hw
        rw [if_neg hw] at hop
        exact next undef w hop
  refine wp_region_any hm ?_
  have h0 := putsF_held (ops.toList.map (·.dst)) 0 base (held base (ops.toList.map (·.dst))) (fun i => by simp) hn
  rw [← h0]
  refine main ops.size _ _ _ (by simp) ?_ ?_
  · refine Nat.le_trans (List.countP_le_length ..) (by simp)
  · have : (fun i => (Array.replicate ops.size false).getD i false) = fun _ => false := by
      funext i
      simp only [Array.getD, Array.size_replicate]
      split
      · simp
      · rfl
    rw [this]; exact start _
end
end Go.Proofs.YtkdknfedieeenaaGreatDoor
namespace Go.Proofs.YtkdknfedieeenaaGreatDoor
open Go.RowKit
set_option linter.unusedVariables false
/-- Each operation that is neither K nor late is a source of one further on that is not late, or of K. -/
def ancOk (ops : Array Oper) (K : Nat) (late : List Nat) : Bool :=
  (List.range ops.size).all fun i => i == K || late.contains i || (List.range (K + 1)).any fun j => decide (i < j) && !late.contains j && (match ops[j]? with | some o => o.after.toList.any fun e => e.on == i && Region.binds .any e | none => false)
def AllWordsIf (c : Nat → Bool) (Ws : List (Value → World → Prop)) (x : Nat → Value) (w : World) : Nat → List (Value → World → Prop) → Prop
  | _, [] => True
  | i, p :: ps => (c i = true → p (x i) w) ∧ AllWordsIf c Ws x w (i + 1) ps
theorem allWordsIf_of {c : Nat → Bool} {Ws : List (Value → World → Prop)} {x : Nat → Value} {w : World} : ∀ (ps : List (Value → World → Prop)) (k : Nat), (∀ j, j < ps.length → ps[j]? = Ws[k + j]?) → (∀ i, i < Ws.length → c i = true → wordOf Ws i (x i) w) → AllWordsIf c Ws x w k ps
  | [], _, _, _ => trivial
  | p :: ps, k, h, hw => by
    refine ⟨fun hc => ?_, allWordsIf_of ps (k + 1) (fun j hj => ?_) hw⟩
    · have h0 := h 0 (by simp)
      simp at h0
      have hk : k < Ws.length := by
        rcases Nat.lt_or_ge k Ws.length with h1 | h1
        · exact h1
        · rw [List.getElem?_eq_none h1] at h0; cases h0
      have := hw k hk hc
      unfold wordOf at this
      rw [← h0] at this
      exact this
    · have := h (j + 1) (by simpa using hj)
      rw [show k + 1 + j = k + (j + 1) by omega, ← this]
      simp
section
variable {P : Program} {ops : Array Oper} {Q : Exit → Act → World → Prop}
/-- As OpStepsG, but those that are skipped. -/
def OpStepsB (P : Program) (ops : Array Oper) (Q : Exit → Act → World → Prop) (Ws : List (Value → World → Prop)) (R : World → Prop) (Ext : World → World → Prop) (FF : (Nat → Value) → Act) (skip : Nat → Bool) : Nat → List Oper → Prop
  | _, [] => True
  | i, o :: os => (skip i = false → OpStepG P ops Q Ws R Ext FF i o) ∧ OpStepsB P ops Q Ws R Ext FF skip (i + 1) os
theorem OpStepsB.get {Ws : List (Value → World → Prop)} {R : World → Prop} {Ext : World → World → Prop} {FF : (Nat → Value) → Act} {skip : Nat → Bool} : ∀ {l : List Oper} {k : Nat}, OpStepsB P ops Q Ws R Ext FF skip k l → ∀ i o, l[i]? = some o → skip (k + i) = false → OpStepG P ops Q Ws R Ext FF (k + i) o
  | [], _, _, i, o, h, _ => by simp at h
  | p :: l, k, hs, 0, o, h, hk => by simp at h; subst h; exact hs.1 hk
  | p :: l, k, hs, i + 1, o, h, hk => by
    have := OpStepsB.get hs.2 i o (by simpa using h) (by rwa [show k + 1 + i = k + (i + 1) by omega])
    rwa [show k + 1 + i = k + (i + 1) by omega] at this
theorem OpStepG.one {Ws : List (Value → World → Prop)} {R : World → Prop} {Ext : World → World → Prop} {base : Act} {FF : (Nat → Value) → Act} (hn : noTwice (ops.toList.map (·.dst)) = true) (hg : guardsIn ops base.tmps.size = true)
    (hFF : ∀ x, putsF x 0 (ops.toList.map (·.dst)) base = FF x) {i : Nat} {o : Oper} (ho : o ∈ ops.toList) (h : OpStepG P ops Q Ws R Ext FF i o) : OpStep P ops Q Ws R Ext base i o :=
  (OpStepsG.steps hn hg hFF [o] i (fun q hq => by simp at hq; subst hq; exact ho) ⟨h, trivial⟩).1
theorem wp_region_store {id : Nat} {base : Act} {w0 : World} (hm : P.follows .mixedOrders = true) {FF : (Nat → Value) → Act} (hFF : ∀ x, putsF x 0 (ops.toList.map (·.dst)) base = FF x) (R1 R2 : World → Prop) (Ext : World → World → Prop) (Ws : List (Value → World → Prop))
    (K : Nat) (late : List Nat) (hn : noTwice (ops.toList.map (·.dst)) = true) (hg : guardsIn ops base.tmps.size = true) (hwf : wellFormed ops = true) (hlen : Ws.length = ops.size) (hanc : ancOk ops K late = true) (hK : (ops[K]?).map (·.guard) = some none)
    (stays : AllStayX Ext Ws) (refl : ∀ w, Ext w w) (start : R1 w0.drew)
    (steps : OpStepsB P ops Q Ws R1 Ext FF (fun i => i == K) 0 ops.toList)
    (steps2 : OpStepsB P ops Q Ws R2 Ext FF (fun i => !late.contains i) 0 ops.toList)
    (store : ∀ (x : Nat → Value) (w : World), R1 w → AllWordsIf (fun i => !(i == K || late.contains i)) Ws x w 0 Ws → ∀ o, ops[K]? = some o → Oper.wp P o (FF x) w (Next (FF x) o.dst (wordOf Ws K) R2 Ext w) Q)
    (fin : ∀ (x : Nat → Value) (w : World), R2 w → AllWords Ws x w 0 Ws → Q .normal (FF x) w) :
    (Code.region id ops true).wp P Q base w0 := by
  have hanc' : ∀ i, i < ops.size → i = K ∨ i ∈ late ∨ ∃ j o, i < j ∧ j ≤ K ∧ j ∉ late ∧ ops[j]? = some o ∧ ∃ e ∈ o.after.toList, e.on = i ∧ Region.binds .any e = true := by
    intro i hi
    unfold ancOk at hanc
    rw [List.all_eq_true] at hanc
    have := hanc i (by simpa using hi)
    simp only [Bool.or_eq_true, beq_iff_eq, List.any_eq_true, List.mem_range, Bool.and_eq_true, decide_eq_true_eq, Bool.not_eq_true'] at this
    rcases this with (h | h) | ⟨j, hj, ⟨h1, h2⟩, h3⟩
    · exact .inl h
    · exact .inr (.inl (by simpa using h))
    · right; right
      cases ho : ops[j]? with
      | none => rw [ho] at h3; simp at h3
      | some o =>
        rw [ho] at h3
        simp only [List.any_eq_true, Bool.and_eq_true, beq_iff_eq] at h3
        exact ⟨j, o, h1, by omega, by simpa using h2, ho, h3⟩
  have hword : ∀ (i : Nat), i < ops.size → ∀ v w w', wordOf Ws i v w → Ext w w' → wordOf Ws i v w' := by
    intro i hi v w w' hw he
    unfold wordOf at hw ⊢
    cases hp : Ws[i]? with
    | none => trivial
    | some p =>
      rw [hp] at hw
      exact stays.mem p (List.mem_of_getElem? hp) _ _ _ hw he
  refine wp_region_joint hm (fun d x w => (∀ i, i < ops.size → d i = true → wordOf Ws i (x i) w) ∧ (∀ i o, ops[i]? = some o → d i = true → ∀ e ∈ o.after.toList, Region.binds .any e = true → d e.on = true) ∧ (d K = false → R1 w) ∧ (d K = true → R2 w)) hn hwf ?_ ?_ ?_
  · exact fun x => ⟨by simp, by simp, fun _ => start, by simp⟩
  · rintro i hi d x w ⟨hw, hc, h1, h2⟩ hd hdeps
    have hoi : ops[i]? = some ops[i] := Array.getElem?_eq_getElem hi
    have hmem : ops[i] ∈ ops.toList := by simp
    have hD : Deps (wordOf Ws) x w (ops[i]).after.toList := Deps.of (fun e he hb => by
      have hdon := hdeps e he hb
      have hlt : e.on < i := by
        unfold wellFormed at hwf
        rw [List.all_eq_true] at hwf
        have := hwf (ops[i], i) (by rw [List.mem_zipIdx_iff_getElem?]; simp [hi])
        simp only [Array.all_eq_true'] at this
        have := this e (by simpa using he)
        simpa [hb] using this
      exact hw _ (by omega) hdon)
    have hcl : ∀ j o, ops[j]? = some o → (if j = i then true else d j) = true → ∀ e ∈ o.after.toList, Region.binds .any e = true → (if e.on = i then true else d e.on) = true := by
      intro j o hjo hdj e he hb
      by_cases hei : e.on = i
      · simp [hei]
      · rw [if_neg hei]
        by_cases hji : j = i
        · subst hji
          rw [hoi] at hjo
          obtain rfl := Option.some.inj hjo
          exact hdeps e he hb
        · rw [if_neg hji] at hdj
          exact hc j o hjo hdj e he hb
    have put : ∀ v w', wordOf Ws i v w' → Ext w w' → ∀ j, j < ops.size → (if j = i then true else d j) = true → wordOf Ws j (if j = i then v else x j) w' := by
      intro v w' hv he j hj hdj
      by_cases hji : j = i
      · subst hji; simpa using hv
      · rw [if_neg hji] at hdj ⊢
        exact hword j hj _ _ _ (hw j hj hdj) he
    by_cases hiK : i = K
    · subst hiK
      have hall : ∀ k j, j + k = i → j ∉ late → d j = true ∨ j = i := by
        intro k
        induction k using Nat.strongRecOn with
        | _ k ih =>
          intro j hjk hjl
          by_cases hji : j = i
          · exact .inr hji
          · left
            rcases hanc' j (by omega) with h | h | ⟨q, o, q1, q2, q3, q4, e, e1, e2, e3⟩
            · exact absurd h hji
            · exact absurd h hjl
            · rcases ih (i - q) (by omega) q (by omega) q3 with h | h
              · rw [← e2]; exact hc q o q4 h e e1 e3
              · subst h
                rw [hoi] at q4
                obtain rfl := Option.some.inj q4
                rw [← e2]; exact hdeps e e1 e3
      have hst := store x w (h1 hd) (allWordsIf_of Ws 0 (fun j _ => by simp) (fun j hj hcj => by
        simp only [Bool.not_eq_true', Bool.or_eq_false_iff, beq_eq_false_iff_ne] at hcj
        obtain ⟨c1, c2⟩ := hcj
        have hjl : j ∉ late := by simpa using c2
        rcases hanc' j (by omega) with h | h | ⟨q, o, q1, q2, q3, q4, e, e1, e2, e3⟩
        · exact absurd h c1
        · exact absurd h hjl
        · rcases hall (i - j) j (by omega) hjl with h | h
          · exact hw j (by omega) h
          · exact absurd h c1)) _ hoi
      have hgn : (ops[i]).guard = none := by rw [hoi] at hK; simpa using hK
      have hwt : Region.wanted ops[i] (yielded ops (putsF x 0 (ops.toList.map (·.dst)) base).tmps) = true := by unfold Region.wanted; rw [hgn]
      rw [if_pos hwt]
      rw [hFF x]
      refine Oper.wp_mono ?_ hst
      rintro a' w' ⟨v, rfl, hv, hR, he⟩
      exact ⟨v, rfl, put v w' hv he, hcl, by simp, fun _ => hR⟩
    · rcases (Bool.eq_false_or_eq_true (d K)).symm with hdK | hdK
      ·
        have hs := OpStepG.one hn hg hFF hmem (OpStepsB.get steps i ops[i] (by simp [hi]) (by simp [hiK]))
        rw [Nat.zero_add] at hs
        have := hs x w (h1 hdK) hD
        split
        · rename_i hwt
          rw [if_pos hwt] at this
          refine Oper.wp_mono ?_ this
          rintro a' w' ⟨v, rfl, hv, hR, he⟩
          refine ⟨v, rfl, put v w' hv he, hcl, fun _ => hR, fun h => ?_⟩
          have hKi : ¬ K = i := fun e => hiK e.symm
          simp [hKi, hdK] at h
        · rename_i hwt
          rw [if_neg hwt] at this
          refine ⟨put undef w this (refl w), hcl, fun _ => h1 hdK, fun h => ?_⟩
          have hKi : ¬ K = i := fun e => hiK e.symm
          simp [hKi, hdK] at h
      ·
        have hKi : ¬ K = i := fun e => hiK e.symm
        have hil : i ∈ late := by
          rcases Nat.lt_or_ge K ops.size with hKs | hKs
          · have hall : ∀ k j, j + k = K → j ∉ late → d j = true := by
              intro k
              induction k using Nat.strongRecOn with
              | _ k ih =>
                intro j hjk hjl
                by_cases hji : j = K
                · subst hji; exact hdK
                · rcases hanc' j (by omega) with h | h | ⟨q, o, q1, q2, q3, q4, e, e1, e2, e3⟩
                  · exact absurd h hji
                  · exact absurd h hjl
                  · have h := ih (K - q) (by omega) q (by omega) q3
                    rw [← e2]; exact hc q o q4 h e e1 e3
            by_cases hil : i ∈ late
            · exact hil
            · exfalso
              rcases hanc' i hi with h | h | ⟨q, o, q1, q2, q3, q4, e, e1, e2, e3⟩
              · exact hiK h
              · exact hil h
              · have := hall (K - i) i (by omega) hil
                rw [hd] at this; cases this
          · rw [Array.getElem?_eq_none hKs] at hK; cases hK
        have hs := OpStepG.one hn hg hFF hmem (OpStepsB.get steps2 i ops[i] (by simp [hi]) (by simp [hil]))
        rw [Nat.zero_add] at hs
        have := hs x w (h2 hdK) hD
        split
        · rename_i hwt
          rw [if_pos hwt] at this
          refine Oper.wp_mono ?_ this
          rintro a' w' ⟨v, rfl, hv, hR, he⟩
          refine ⟨v, rfl, put v w' hv he, hcl, fun h => ?_, fun _ => hR⟩
          simp [hKi, hdK] at h
        · rename_i hwt
          rw [if_neg hwt] at this
          refine ⟨put undef w this (refl w), hcl, fun h => ?_, fun _ => h2 hdK⟩
          simp [hKi, hdK] at h
  · rintro d x w hall ⟨hw, hc, h1, h2⟩
    have hKs : K < ops.size := by
      rcases Nat.lt_or_ge K ops.size with h | h
      · exact h
      · rw [Array.getElem?_eq_none h] at hK; cases hK
    rw [hFF x]
    exact fin x w (h2 (hall K hKs)) (allWords_of Ws 0 (fun j _ => by simp) (fun j hj => hw j (by omega) (hall j (by omega))))
end
theorem GoesBut.then_set {g : Nat} {w w' : World} (h : GoesBut g w w') (j : Nat) (u : Value) : GoesBut g w (w'.setCell ⟨g, j, none⟩ u) := ⟨by simpa using h.1, fun k hk hne => (Below.heap_setCell w' _ u k hne).trans (h.2 k hk hne)⟩
theorem GoesBut.trans {g : Nat} {w w' w2 : World} (h : GoesBut g w w') (h' : GoesBut g w' w2) : GoesBut g w w2 := ⟨Nat.le_trans h.1 h'.1, fun k hk hne => (h'.2 k (Nat.lt_of_lt_of_le hk h.1) hne).trans (h.2 k hk hne)⟩
/-- From skip to step, written out. -/
theorem skipped {p : Prop} {b : Bool} (hb : b = true) : b = false → p := fun h => by rw [hb] at h; cases h
end Go.Proofs.YtkdknfedieeenaaGreatDoor
namespace Go.Proofs.YtkdknfedieeenaaGreatDoor
open Go.RowKit
set_option linter.unusedVariables false
/-- What is said of a slot, by what is done. -/
abbrev WordX := (Nat → Bool) → Value → World → Prop
def wordX (Ws : List WordX) (d : Nat → Bool) (i : Nat) (v : Value) (w : World) : Prop := match Ws[i]? with | some p => p d v w | none => True
def setD (d : Nat → Bool) (i : Nat) : Nat → Bool := fun j => if j = i then true else d j
def leD (d d' : Nat → Bool) : Prop := ∀ j, d j = true → d' j = true
theorem setD_le (d : Nat → Bool) (i : Nat) : leD d (setD d i) := fun j h => by unfold setD; split <;> simp_all
theorem setD_self (d : Nat → Bool) (i : Nat) : setD d i i = true := by simp [setD]
theorem setD_ne (d : Nat → Bool) {i j : Nat} (h : j ≠ i) : setD d i j = d j := by simp [setD, h]
def StaysX (p : WordX) : Prop := ∀ d d' v w w', leD d d' → Goes w w' → p d v w → p d' v w'
def AllStaysX : List WordX → Prop
  | [] => True
  | p :: ps => StaysX p ∧ AllStaysX ps
theorem AllStaysX.mem : ∀ {l : List WordX}, AllStaysX l → ∀ p ∈ l, StaysX p
  | [], _, p, hp => by cases hp
  | q :: l, h, p, hp => by
    rcases List.mem_cons.1 hp with rfl | hp
    · exact h.1
    · exact AllStaysX.mem h.2 p hp
/-- What is said of all slots that are done. -/
def DoneX (d : Nat → Bool) (x : Nat → Value) (w : World) : Nat → List WordX → Prop
  | _, [] => True
  | i, p :: ps => (d i = true → p d (x i) w) ∧ DoneX d x w (i + 1) ps
/-- What was said holds still, behind operation K. -/
def KeepX (d : Nat → Bool) (K : Nat) (x : Nat → Value) (w w' : World) : Nat → List WordX → Prop
  | _, [] => True
  | i, p :: ps => (i ≠ K → d i = true → p d (x i) w → p (setD d K) (x i) w') ∧ KeepX d K x w w' (i + 1) ps
def AllX (x : Nat → Value) (w : World) : Nat → List WordX → Prop
  | _, [] => True
  | i, p :: ps => p (fun _ => true) (x i) w ∧ AllX x w (i + 1) ps
theorem doneX_of {Ws : List WordX} {d : Nat → Bool} {x : Nat → Value} {w : World} : ∀ (ps : List WordX) (k : Nat), (∀ j, j < ps.length → ps[j]? = Ws[k + j]?) → (∀ i, i < Ws.length → d i = true → wordX Ws d i (x i) w) → DoneX d x w k ps
  | [], _, _, _ => trivial
  | p :: ps, k, h, hw => by
    refine ⟨fun hd => ?_, doneX_of ps (k + 1) (fun j hj => ?_) hw⟩
    · have h0 := h 0 (by simp)
      simp at h0
      have hk : k < Ws.length := by
        rcases Nat.lt_or_ge k Ws.length with h1 | h1
        · exact h1
        · rw [List.getElem?_eq_none h1] at h0; cases h0
      have := hw k hk hd
      unfold wordX at this
      rw [← h0] at this
      exact this
    · have := h (j + 1) (by simpa using hj)
      rw [show k + 1 + j = k + (j + 1) by omega, ← this]
      simp
theorem allX_of {Ws : List WordX} {d : Nat → Bool} {x : Nat → Value} {w : World} (stays : AllStaysX Ws) : ∀ (ps : List WordX) (k : Nat), (∀ j, j < ps.length → ps[j]? = Ws[k + j]?) → (∀ i, i < Ws.length → wordX Ws d i (x i) w) → AllX x w k ps
  | [], _, _, _ => trivial
  | p :: ps, k, h, hw => by
    refine ⟨?_, allX_of stays ps (k + 1) (fun j hj => ?_) hw⟩
    · have h0 := h 0 (by simp)
      simp at h0
      have hk : k < Ws.length := by
        rcases Nat.lt_or_ge k Ws.length with h1 | h1
        · exact h1
        · rw [List.getElem?_eq_none h1] at h0; cases h0
      have := hw k hk
      unfold wordX at this
      rw [← h0] at this
      exact stays.mem p (List.mem_of_getElem? h0.symm) d _ _ w w (fun _ _ => rfl) (Below.refl _ _) this
    · have := h (j + 1) (by simpa using hj)
      rw [show k + 1 + j = k + (j + 1) by omega, ← this]
      simp
theorem KeepX.get {Ws : List WordX} {d : Nat → Bool} {K : Nat} {x : Nat → Value} {w w' : World} : ∀ {ps : List WordX} {k : Nat}, KeepX d K x w w' k ps → ∀ j p, ps[j]? = some p → k + j ≠ K → d (k + j) = true → p d (x (k + j)) w → p (setD d K) (x (k + j)) w'
  | [], _, _, j, p, hp => by simp at hp
  | q :: ps, k, h, 0, p, hp => by simp at hp; subst hp; exact h.1
  | q :: ps, k, h, j + 1, p, hp => by
    have := KeepX.get (Ws := Ws) h.2 j p (by simpa using hp)
    rwa [show k + 1 + j = k + (j + 1) by omega] at this
section
variable {P : Program} {ops : Array Oper} {Q : Exit → Act → World → Prop}
/-- What is there, of those done that an operation waits for. -/
def SrcX (ops : Array Oper) (d : Nat → Bool) (o : Oper) : Prop := ∀ e ∈ o.after.toList, Region.binds .any e = true → d e.on = true
/-- Whatever an operation that is done waited for is done. -/
def ClosedX (ops : Array Oper) (d : Nat → Bool) : Prop := ∀ j o, ops[j]? = some o → d j = true → SrcX ops d o
/-- Operation i is waited for by operation j, through others; within so many steps. -/
def reachX (ops : Array Oper) : Nat → Nat → Nat → Bool
  | 0, i, j => i == j
  | n + 1, i, j => i == j || (match ops[j]? with | some o => o.after.toList.any fun e => Region.binds .any e && reachX ops n i e.on | none => false)
theorem ClosedX.reach {ops : Array Oper} {d : Nat → Bool} (h : ClosedX ops d) : ∀ (n i j : Nat), reachX ops n i j = true → d j = true → d i = true
  | 0, i, j, hr, hj => by simp [reachX] at hr; subst hr; exact hj
  | n + 1, i, j, hr, hj => by
    unfold reachX at hr
    rw [Bool.or_eq_true] at hr
    rcases hr with hr | hr
    · simp at hr; subst hr; exact hj
    · cases ho : ops[j]? with
      | none => rw [ho] at hr; simp at hr
      | some o =>
        rw [ho] at hr
        simp only [List.any_eq_true, Bool.and_eq_true] at hr
        obtain ⟨e, he, hb, hr⟩ := hr
        exact ClosedX.reach h n i e.on hr (h j o ho hj e he hb)
theorem SrcX.reach {ops : Array Oper} {d : Nat → Bool} (h : ClosedX ops d) {K : Nat} {o : Oper} (hs : SrcX ops d o) (ho : ops[K]? = some o) (n i : Nat) (hi : i ≠ K) (hr : reachX ops (n + 1) i K = true) : d i = true := by
  unfold reachX at hr
  rw [Bool.or_eq_true] at hr
  rcases hr with hr | hr
  · simp at hr; exact absurd hr hi
  · rw [ho] at hr
    simp only [List.any_eq_true, Bool.and_eq_true] at hr
    obtain ⟨e, he, hb, hr⟩ := hr
    exact h.reach n i e.on hr (hs e he hb)
def NextX (A : Act) (dst : Option Tmp) (Ws : List WordX) (d : Nat → Bool) (i : Nat) (R : World → Prop) (w : World) (a' : Act) (w' : World) : Prop := ∃ v, a' = A.put dst v ∧ wordX Ws (setD d i) i v w' ∧ R w' ∧ Goes w w'
def NextK (A : Act) (dst : Option Tmp) (Ws : List WordX) (d : Nat → Bool) (i : Nat) (x : Nat → Value) (R : World → Prop) (w : World) (a' : Act) (w' : World) : Prop := ∃ v, a' = A.put dst v ∧ wordX Ws (setD d i) i v w' ∧ R w' ∧ KeepX d i x w w' 0 Ws
/-- An operation behind which all that was said holds still of itself. -/
def OpStepX (P : Program) (ops : Array Oper) (Q : Exit → Act → World → Prop) (Ws : List WordX) (R : World → Prop) (FF : (Nat → Value) → Act) (i : Nat) (o : Oper) : Prop :=
  ∀ (d : Nat → Bool) (x : Nat → Value) (w : World), R w → d i = false → SrcX ops d o → Deps (wordX Ws d) x w o.after.toList →
    (wantedX o x = true → Oper.wp P o (FF x) w (NextX (FF x) o.dst Ws d i R w) Q) ∧ (wantedX o x = false → wordX Ws (setD d i) i undef w)
/-- An operation of which all that was said must be shown again. -/
def OpSpecX (P : Program) (ops : Array Oper) (Q : Exit → Act → World → Prop) (Ws : List WordX) (R : World → Prop) (FF : (Nat → Value) → Act) (i : Nat) (o : Oper) : Prop :=
  ∀ (d : Nat → Bool) (x : Nat → Value) (w : World), R w → d i = false → ClosedX ops d → SrcX ops d o → DoneX d x w 0 Ws →
    (wantedX o x = true → Oper.wp P o (FF x) w (NextK (FF x) o.dst Ws d i x R w) Q) ∧ (wantedX o x = false → wordX Ws (setD d i) i undef w)
def OpStepsX (P : Program) (ops : Array Oper) (Q : Exit → Act → World → Prop) (Ws : List WordX) (R : World → Prop) (FF : (Nat → Value) → Act) (sp : List Nat) : Nat → List Oper → Prop
  | _, [] => True
  | i, o :: os => (sp.contains i = false → OpStepX P ops Q Ws R FF i o) ∧ OpStepsX P ops Q Ws R FF sp (i + 1) os
def OpSpecsX (P : Program) (ops : Array Oper) (Q : Exit → Act → World → Prop) (Ws : List WordX) (R : World → Prop) (FF : (Nat → Value) → Act) (sp : List Nat) : Nat → List Oper → Prop
  | _, [] => True
  | i, o :: os => (sp.contains i = true → OpSpecX P ops Q Ws R FF i o) ∧ OpSpecsX P ops Q Ws R FF sp (i + 1) os
theorem OpStepsX.get {Ws : List WordX} {R : World → Prop} {FF : (Nat → Value) → Act} {sp : List Nat} : ∀ {l : List Oper} {k : Nat}, OpStepsX P ops Q Ws R FF sp k l → ∀ i o, l[i]? = some o → sp.contains (k + i) = false → OpStepX P ops Q Ws R FF (k + i) o
  | [], _, _, i, o, h, _ => by simp at h
  | p :: l, k, hs, 0, o, h, hk => by simp at h; subst h; exact hs.1 hk
  | p :: l, k, hs, i + 1, o, h, hk => by
    have := OpStepsX.get hs.2 i o (by simpa using h) (by rwa [show k + 1 + i = k + (i + 1) by omega])
    rwa [show k + 1 + i = k + (i + 1) by omega] at this
theorem OpSpecsX.get {Ws : List WordX} {R : World → Prop} {FF : (Nat → Value) → Act} {sp : List Nat} : ∀ {l : List Oper} {k : Nat}, OpSpecsX P ops Q Ws R FF sp k l → ∀ i o, l[i]? = some o → sp.contains (k + i) = true → OpSpecX P ops Q Ws R FF (k + i) o
  | [], _, _, i, o, h, _ => by simp at h
  | p :: l, k, hs, 0, o, h, hk => by simp at h; subst h; exact hs.1 hk
  | p :: l, k, hs, i + 1, o, h, hk => by
    have := OpSpecsX.get hs.2 i o (by simpa using h) (by rwa [show k + 1 + i = k + (i + 1) by omega])
    rwa [show k + 1 + i = k + (i + 1) by omega] at this
theorem wp_region_exp {id : Nat} {base : Act} {w0 : World} (hm : P.follows .mixedOrders = true) {FF : (Nat → Value) → Act} (hFF : ∀ x, putsF x 0 (ops.toList.map (·.dst)) base = FF x) (R : World → Prop) (Ws : List WordX) (sp : List Nat)
    (hn : noTwice (ops.toList.map (·.dst)) = true) (hg : guardsIn ops base.tmps.size = true) (hwf : wellFormed ops = true) (hlen : Ws.length = ops.size)
    (stays : AllStaysX Ws) (start : R w0.drew)
    (steps : OpStepsX P ops Q Ws R FF sp 0 ops.toList) (specs : OpSpecsX P ops Q Ws R FF sp 0 ops.toList)
    (fin : ∀ (x : Nat → Value) (w : World), R w → AllX x w 0 Ws → Q .normal (FF x) w) :
    (Code.region id ops true).wp P Q base w0 := by
  have hword : ∀ (i : Nat) d d' v w w', wordX Ws d i v w → leD d d' → Goes w w' → wordX Ws d' i v w' := by
    intro i d d' v w w' hw hd he
    unfold wordX at hw ⊢
    cases hp : Ws[i]? with
    | none => trivial
    | some p =>
      rw [hp] at hw
      exact stays.mem p (List.mem_of_getElem? hp) _ _ _ _ _ hd he hw
  refine wp_region_joint hm (fun d x w => R w ∧ (∀ i, i < ops.size → d i = true → wordX Ws d i (x i) w) ∧ ClosedX ops d) hn hwf ?_ ?_ ?_
  · exact fun x => ⟨start, by simp, fun j o _ h => by cases h⟩
  · rintro i hi d x w ⟨hR, hw, hcl⟩ hd hdeps
    have hoi : ops[i]? = some ops[i] := Array.getElem?_eq_getElem hi
    have hmem : ops[i] ∈ ops.toList := by simp
    have hlt : ∀ e ∈ (ops[i]).after.toList, Region.binds .any e = true → e.on < ops.size := by
      intro e he hb
      unfold wellFormed at hwf
      rw [List.all_eq_true] at hwf
      have := hwf (ops[i], i) (by rw [List.mem_zipIdx_iff_getElem?]; simp [hi])
      simp only [Array.all_eq_true'] at this
      have := this e (by simpa using he)
      have : e.on < i := by simpa [hb] using this
      omega
    have hwant : Region.wanted ops[i] (yielded ops (putsF x 0 (ops.toList.map (·.dst)) base).tmps) = wantedX ops[i] x := wanted_eq hn hg ops[i] hmem x
    have hset : (fun j => if j = i then true else d j) = setD d i := rfl
    have put : ∀ v w', wordX Ws (setD d i) i v w' → (∀ j, j < ops.size → j ≠ i → d j = true → wordX Ws (setD d i) j (x j) w') → ∀ j, j < ops.size → setD d i j = true → wordX Ws (setD d i) j (if j = i then v else x j) w' := by
      intro v w' hv ho j hj hdj
      by_cases hji : j = i
      · subst hji; simpa using hv
      · rw [setD_ne d hji] at hdj
        rw [if_neg hji]
        exact ho j hj hji hdj
    have hcl2 : ClosedX ops (setD d i) := by
      intro j o hj hdj e he hb
      by_cases hji : j = i
      · subst hji
        rw [hoi] at hj
        obtain rfl := Option.some.inj hj
        exact setD_le d _ _ (hdeps e he hb)
      · rw [setD_ne d hji] at hdj
        exact setD_le d _ _ (hcl j o hj hdj e he hb)
    rw [hwant, hFF x, hset]
    cases hsp : sp.contains i with
    | false =>
      have hs := OpStepsX.get steps i ops[i] (by simp [hi]) (by rw [Nat.zero_add]; exact hsp)
      rw [Nat.zero_add] at hs
      have hs := hs d x w hR hd hdeps (Deps.of (fun e he hb => hw _ (hlt e he hb) (hdeps e he hb)))
      split
      · rename_i hwt
        refine Oper.wp_mono ?_ (hs.1 hwt)
        rintro a' w' ⟨v, rfl, hv, hR', he⟩
        exact ⟨v, rfl, hR', put v w' hv (fun j hj hji hdj => hword j d _ _ w w' (hw j hj hdj) (setD_le d i) he), hcl2⟩
      · rename_i hwt
        exact ⟨hR, put undef w (hs.2 (by simpa using hwt)) (fun j hj hji hdj => hword j d _ _ w w (hw j hj hdj) (setD_le d i) (Below.refl _ _)), hcl2⟩
    | true =>
      have hs := OpSpecsX.get specs i ops[i] (by simp [hi]) (by rw [Nat.zero_add]; exact hsp)
      rw [Nat.zero_add] at hs
      have hs := hs d x w hR hd hcl hdeps (doneX_of Ws 0 (fun j _ => by simp) (fun j hj hdj => hw j (by omega) hdj))
      split
      · rename_i hwt
        refine Oper.wp_mono ?_ (hs.1 hwt)
        rintro a' w' ⟨v, rfl, hv, hR', he⟩
        refine ⟨v, rfl, hR', put v w' hv (fun j hj hji hdj => ?_), hcl2⟩
        have h0 := hw j hj hdj
        unfold wordX at h0 ⊢
        cases hp : Ws[j]? with
        | none => trivial
        | some p =>
          rw [hp] at h0
          have := he.get (Ws := Ws) j p hp
          rw [Nat.zero_add] at this
          exact this hji hdj h0
      · rename_i hwt
        exact ⟨hR, put undef w (hs.2 (by simpa using hwt)) (fun j hj hji hdj => hword j d _ _ w w (hw j hj hdj) (setD_le d i) (Below.refl _ _)), hcl2⟩
  · rintro d x w hall ⟨hR, hw, -⟩
    rw [hFF x]
    exact fin x w hR (allX_of (d := d) stays Ws 0 (fun j _ => by simp) (fun j hj => hw j (by omega) (hall j (by omega))))
end
/-- A word that never ends. -/
def always (p : Value → World → Prop) : WordX := fun _ v w => p v w
/-- A word that ends when operation k is done. -/
def until_ (k : Nat) (p : Value → World → Prop) : WordX := fun d v w => d k = false → p v w
theorem always_stays {p : Value → World → Prop} (h : ∀ v w w', p v w → Goes w w' → p v w') : StaysX (always p) := fun _ _ v w w' _ he hp => h v w w' hp he
theorem until_stays {k : Nat} {p : Value → World → Prop} (h : ∀ v w w', p v w → Goes w w' → p v w') : StaysX (until_ k p) := fun d d' v w w' hd he hp hk => h v w w' (hp (by
  cases e : d k with
  | false => rfl
  | true => have := hd k e; rw [hk] at this; cases this)) he
theorem unskipped {p : Prop} {b : Bool} (hb : b = false) : b = true → p := fun h => by rw [hb] at h; cases h
def isX (u : Value) : WordX := fun _ v _ => v = u
theorem isX_stays (u : Value) : StaysX (isX u) := fun _ _ v w w' _ _ h => h
theorem nextX {A a' : Act} {dst : Option Tmp} {Ws : List WordX} {d : Nat → Bool} {i : Nat} {R : World → Prop} {w w' : World} (v : Value) (ha : a' = A.put dst v) (hp : wordX Ws (setD d i) i v w') (hR : R w') (he : Goes w w') : NextX A dst Ws d i R w a' w' := ⟨v, ha, hp, hR, he⟩
theorem nextK {A a' : Act} {dst : Option Tmp} {Ws : List WordX} {d : Nat → Bool} {i : Nat} {x : Nat → Value} {R : World → Prop} {w w' : World} (v : Value) (ha : a' = A.put dst v) (hp : wordX Ws (setD d i) i v w') (hR : R w') (he : KeepX d i x w w' 0 Ws) : NextK A dst Ws d i x R w a' w' := ⟨v, ha, hp, hR, he⟩
end Go.Proofs.YtkdknfedieeenaaGreatDoor
namespace Go.Proofs.YtkdknfedieeenaaGreatDoor
open Go.RowKit
set_option linter.unusedVariables false
section
variable {P : Program} {ops : Array Oper} {Q : Exit → Act → World → Prop}
/-- A region that draws its order, by one word on all that has been done: which operations, what their slots hold, and the world. -/
theorem wp_region_jointH {id : Nat} {base : Act} {w0 : World} (hm : P.follows .mixedOrders = true) (J : (Nat → Bool) → (Nat → Value) → World → Prop)
    (hn : noTwice (ops.toList.map (·.dst)) = true) (hwf : wellFormed ops = true)
    (start : J (fun _ => false) (held base (ops.toList.map (·.dst))) w0.drew)
    (steps : ∀ i (hi : i < ops.size) (d : Nat → Bool) (x : Nat → Value) (w : World), J d x w → d i = false → (∀ e ∈ (ops[i]).after.toList, Region.binds .any e = true → d e.on = true) →
      if Region.wanted ops[i] (yielded ops (putsF x 0 (ops.toList.map (·.dst)) base).tmps) = true
      then Oper.wp P ops[i] (putsF x 0 (ops.toList.map (·.dst)) base) w (fun a' w' => ∃ v, a' = (putsF x 0 (ops.toList.map (·.dst)) base).put (ops[i]).dst v ∧ J (fun j => if j = i then true else d j) (fun j => if j = i then v else x j) w') Q
      else J (fun j => if j = i then true else d j) (fun j => if j = i then undef else x j) w)
    (fin : ∀ (d : Nat → Bool) (x : Nat → Value) (w : World), (∀ i, i < ops.size → d i = true) → J d x w → Q .normal (putsF x 0 (ops.toList.map (·.dst)) base) w) :
    (Code.region id ops true).wp P Q base w0 := by
  -- if nothing is ready all has come up
  have hall : ∀ listed : Array Bool, listed.size = ops.size → Region.ready .any ops listed = [] → ∀ i, i < ops.size → listed.getD i false = true := by
    intro listed hs hr i
    induction i using Nat.strongRecOn with
    | _ i ih =>
      intro hi
      cases hli : listed.getD i false with
      | true => rfl
      | false =>
        exfalso
        have hmem : i ∈ Region.ready .any ops listed := by
          unfold Region.ready
          rw [List.mem_filter]
          refine ⟨by simpa using hi, ?_⟩
          have hd : listed.getD i true = false := by
            simp [Array.getD, hs, hi] at hli ⊢; exact hli
          rw [hd]
          simp only [Bool.not_false, Bool.true_and, Array.getElem?_eq_getElem hi, Option.map_some, Option.getD_some]
          rw [Array.all_eq_true']
          intro e he
          by_cases hb : Region.binds .any e = true
          · have hlt : e.on < i := by
              unfold wellFormed at hwf
              rw [List.all_eq_true] at hwf
              have := hwf (ops[i], i) (by rw [List.mem_zipIdx_iff_getElem?]; simp [hi])
              simp only [Array.all_eq_true'] at this
              have := this e he
              simpa [hb] using this
            simp [hb, ih e.on hlt (by omega)]
          · simp [hb]
        rw [hr] at hmem
        cases hmem
  have main : ∀ (fuel : Nat) (listed : Array Bool) (x : Nat → Value) (w : World), listed.size = ops.size → (List.range ops.size).countP (fun i => !listed.getD i false) ≤ fuel →
      J (fun i => listed.getD i false) x w → wpAny P .any ops Q fuel listed (putsF x 0 (ops.toList.map (·.dst)) base) w := by
    intro fuel
    have hfin : ∀ (listed : Array Bool) (x : Nat → Value) (w : World), listed.size = ops.size → J (fun i => listed.getD i false) x w → Region.ready .any ops listed = [] → Q .normal (putsF x 0 (ops.toList.map (·.dst)) base) w := by
      intro listed x w hs hJ hr
      exact fin _ x w (fun i hi => hall listed hs hr i hi) hJ
    induction fuel with
    | zero =>
      intro listed x w hs hc hJ
      have hr : Region.ready .any ops listed = [] := by
        unfold Region.ready
        rw [List.filter_eq_nil_iff]
        intro i hi
        have h0 := Nat.le_zero.1 hc
        rw [List.countP_eq_zero] at h0
        have := h0 i hi
        have hi' : i < ops.size := by simpa using hi
        simp [Array.getD, hs, hi'] at this ⊢
        simp [this]
      exact ⟨hr, hfin listed x w hs hJ hr⟩
    | succ fuel ih =>
      intro listed x w hs hc hJ
      refine ⟨hfin listed x w hs hJ, fun i hi => ?_⟩
      unfold Region.ready at hi
      rw [List.mem_filter] at hi
      obtain ⟨hir, hi2⟩ := hi
      have hio : i < ops.size := by simpa using hir
      simp only [Bool.and_eq_true, Bool.not_eq_true', Array.getElem?_eq_getElem hio, Option.map_some, Option.getD_some] at hi2
      obtain ⟨hli, haft⟩ := hi2
      have hli' : listed[i]'(by omega) = false := by simpa [Array.getD, hs, hio] using hli
      have hop := steps i hio (fun i => listed.getD i false) x w hJ (by simp [Array.getD, hs, hio, hli']) (fun e he hb => by
        rw [Array.all_eq_true'] at haft
        have := haft e (by simpa using he)
        simpa [hb] using this)
      have hds : (ops.toList.map (·.dst))[i]? = some (ops[i]).dst := by simp [hio]
      have next : ∀ v w', J (fun j => if j = i then true else listed.getD j false) (fun j => if j = i then v else x j) w' → wpAny P .any ops Q fuel (listed.setIfInBounds i true) ((putsF x 0 (ops.toList.map (·.dst)) base).put (ops[i]).dst v) w' := by
        intro v w' hJ'
        have hset := putsF_set x (ops.toList.map (·.dst)) 0 i base (ops[i]).dst v hn hds
        rw [Nat.zero_add] at hset
        rw [← hset]
        have hJ2 : J (fun j => (listed.setIfInBounds i true).getD j false) (fun j => if j = i then v else x j) w' := by
          have : (fun j => (listed.setIfInBounds i true).getD j false) = (fun j => if j = i then true else listed.getD j false) := by
            funext j; exact getD_set listed i j (by omega)
          rw [this]; exact hJ'
        refine ih _ _ w' (by simpa using hs) ?_ hJ2
        have hlt : (List.range ops.size).countP (fun j => !(listed.setIfInBounds i true).getD j false) < (List.range ops.size).countP (fun j => !listed.getD j false) := by
          have hsub : ∀ (l : List Nat), (∀ j ∈ l, j < ops.size) → l.Nodup → i ∈ l → l.countP (fun j => !(listed.setIfInBounds i true).getD j false) < l.countP (fun j => !listed.getD j false) := by
            intro l
            induction l with
            | nil => intro _ _ h; cases h
            | cons y l ihl =>
              intro hlt' hnd hmem
              have hy : y < ops.size := hlt' y (by simp)
              have heq : ∀ j, j < ops.size → (listed.setIfInBounds i true).getD j false = if j = i then true else listed.getD j false := fun j _ => getD_set listed i j (by omega)
              by_cases hyi : y = i
              · subst hyi
                have hsame : l.countP (fun j => !(listed.setIfInBounds y true).getD j false) = l.countP (fun j => !listed.getD j false) := by
                  apply List.countP_congr
                  intro j hj
                  have hne : j ≠ y := fun e => by subst e; exact (List.nodup_cons.1 hnd).1 hj
                  rw [heq j (hlt' j (by simp [hj])), if_neg hne]
                rw [List.countP_cons, List.countP_cons, hsame, heq y hy, if_pos rfl]
                have : listed.getD y false = false := by simp [Array.getD, hs, hy, hli']
                simp [this]
              · have hm' : i ∈ l := by
                  rcases List.mem_cons.1 hmem with h | h
                  · exact absurd h.symm hyi
                  · exact h
                have := ihl (fun j hj => hlt' j (by simp [hj])) (List.nodup_cons.1 hnd).2 hm'
                rw [List.countP_cons, List.countP_cons, heq y hy, if_neg hyi]
                omega
          exact hsub _ (fun j hj => by simpa using hj) List.nodup_range (by simpa using hio)
        omega
      unfold wpOp
      simp only [Array.getElem?_eq_getElem hio]
      split
      · rename_i hw
        rw [if_pos hw] at hop
        exact .inl (Oper.wp_mono (fun a' w' ⟨v, e, hv⟩ => by rw [e]; exact next v w' hv) hop)
      · rename_i hw
        rw [if_neg hw] at hop
        exact next undef w hop
  refine wp_region_any hm ?_
  have h0 := putsF_held (ops.toList.map (·.dst)) 0 base (held base (ops.toList.map (·.dst))) (fun i => by simp) hn
  rw [← h0]
  refine main ops.size _ _ _ (by simp) ?_ ?_
  · refine Nat.le_trans (List.countP_le_length ..) (by simp)
  · have : (fun i => (Array.replicate ops.size false).getD i false) = fun _ => false := by
      funext i
      simp only [Array.getD, Array.size_replicate]
      split
      · simp
      · rfl
    rw [this]; exact start
def NextXR (A : Act) (dst : Option Tmp) (Ws : List WordX) (d : Nat → Bool) (i : Nat) (x : Nat → Value) (R : (Nat → Bool) → (Nat → Value) → World → Prop) (w : World) (a' : Act) (w' : World) : Prop := ∃ v, a' = A.put dst v ∧ wordX Ws (setD d i) i v w' ∧ R (setD d i) (fun j => if j = i then v else x j) w' ∧ Goes w w'
def NextKR (A : Act) (dst : Option Tmp) (Ws : List WordX) (d : Nat → Bool) (i : Nat) (x : Nat → Value) (R : (Nat → Bool) → (Nat → Value) → World → Prop) (w : World) (a' : Act) (w' : World) : Prop := ∃ v, a' = A.put dst v ∧ wordX Ws (setD d i) i v w' ∧ R (setD d i) (fun j => if j = i then v else x j) w' ∧ KeepX d i x w w' 0 Ws
/-- An operation behind which all that was said holds still of itself. -/
def OpStepXR (P : Program) (ops : Array Oper) (Q : Exit → Act → World → Prop) (Ws : List WordX) (R : (Nat → Bool) → (Nat → Value) → World → Prop) (FF : (Nat → Value) → Act) (i : Nat) (o : Oper) : Prop :=
  ∀ (d : Nat → Bool) (x : Nat → Value) (w : World), R d x w → d i = false → SrcX ops d o → Deps (wordX Ws d) x w o.after.toList →
    (wantedX o x = true → Oper.wp P o (FF x) w (NextXR (FF x) o.dst Ws d i x R w) Q) ∧ (wantedX o x = false → wordX Ws (setD d i) i undef w ∧ R (setD d i) (fun j => if j = i then undef else x j) w)
/-- An operation of which all that was said must be shown again. -/
def OpSpecXR (P : Program) (ops : Array Oper) (Q : Exit → Act → World → Prop) (Ws : List WordX) (R : (Nat → Bool) → (Nat → Value) → World → Prop) (FF : (Nat → Value) → Act) (i : Nat) (o : Oper) : Prop :=
  ∀ (d : Nat → Bool) (x : Nat → Value) (w : World), R d x w → d i = false → ClosedX ops d → SrcX ops d o → DoneX d x w 0 Ws →
    (wantedX o x = true → Oper.wp P o (FF x) w (NextKR (FF x) o.dst Ws d i x R w) Q) ∧ (wantedX o x = false → wordX Ws (setD d i) i undef w ∧ R (setD d i) (fun j => if j = i then undef else x j) w)
def OpStepsXR (P : Program) (ops : Array Oper) (Q : Exit → Act → World → Prop) (Ws : List WordX) (R : (Nat → Bool) → (Nat → Value) → World → Prop) (FF : (Nat → Value) → Act) (sp : List Nat) : Nat → List Oper → Prop
  | _, [] => True
  | i, o :: os => (sp.contains i = false → OpStepXR P ops Q Ws R FF i o) ∧ OpStepsXR P ops Q Ws R FF sp (i + 1) os
def OpSpecsXR (P : Program) (ops : Array Oper) (Q : Exit → Act → World → Prop) (Ws : List WordX) (R : (Nat → Bool) → (Nat → Value) → World → Prop) (FF : (Nat → Value) → Act) (sp : List Nat) : Nat → List Oper → Prop
  | _, [] => True
  | i, o :: os => (sp.contains i = true → OpSpecXR P ops Q Ws R FF i o) ∧ OpSpecsXR P ops Q Ws R FF sp (i + 1) os
theorem OpStepsXR.get {Ws : List WordX} {R : (Nat → Bool) → (Nat → Value) → World → Prop} {FF : (Nat → Value) → Act} {sp : List Nat} : ∀ {l : List Oper} {k : Nat}, OpStepsXR P ops Q Ws R FF sp k l → ∀ i o, l[i]? = some o → sp.contains (k + i) = false → OpStepXR P ops Q Ws R FF (k + i) o
  | [], _, _, i, o, h, _ => by simp at h
  | p :: l, k, hs, 0, o, h, hk => by simp at h; subst h; exact hs.1 hk
  | p :: l, k, hs, i + 1, o, h, hk => by
    have := OpStepsXR.get hs.2 i o (by simpa using h) (by rwa [show k + 1 + i = k + (i + 1) by omega])
    rwa [show k + 1 + i = k + (i + 1) by omega] at this
theorem OpSpecsXR.get {Ws : List WordX} {R : (Nat → Bool) → (Nat → Value) → World → Prop} {FF : (Nat → Value) → Act} {sp : List Nat} : ∀ {l : List Oper} {k : Nat}, OpSpecsXR P ops Q Ws R FF sp k l → ∀ i o, l[i]? = some o → sp.contains (k + i) = true → OpSpecXR P ops Q Ws R FF (k + i) o
  | [], _, _, i, o, h, _ => by simp at h
  | p :: l, k, hs, 0, o, h, hk => by simp at h; subst h; exact hs.1 hk
  | p :: l, k, hs, i + 1, o, h, hk => by
    have := OpSpecsXR.get hs.2 i o (by simpa using h) (by rwa [show k + 1 + i = k + (i + 1) by omega])
    rwa [show k + 1 + i = k + (i + 1) by omega] at this
theorem wp_region_expR {id : Nat} {base : Act} {w0 : World} (hm : P.follows .mixedOrders = true) {FF : (Nat → Value) → Act} (hFF : ∀ x, putsF x 0 (ops.toList.map (·.dst)) base = FF x) (R : (Nat → Bool) → (Nat → Value) → World → Prop) (Ws : List WordX) (sp : List Nat)
    (hn : noTwice (ops.toList.map (·.dst)) = true) (hg : guardsIn ops base.tmps.size = true) (hwf : wellFormed ops = true) (hlen : Ws.length = ops.size)
    (stays : AllStaysX Ws) (start : R (fun _ => false) (held base (ops.toList.map (·.dst))) w0.drew)
    (steps : OpStepsXR P ops Q Ws R FF sp 0 ops.toList) (specs : OpSpecsXR P ops Q Ws R FF sp 0 ops.toList)
    (fin : ∀ (x : Nat → Value) (w : World) (d : Nat → Bool), (∀ i, i < ops.size → d i = true) → R d x w → AllX x w 0 Ws → Q .normal (FF x) w) :
    (Code.region id ops true).wp P Q base w0 := by
  have hword : ∀ (i : Nat) d d' v w w', wordX Ws d i v w → leD d d' → Goes w w' → wordX Ws d' i v w' := by
    intro i d d' v w w' hw hd he
    unfold wordX at hw ⊢
    cases hp : Ws[i]? with
    | none => trivial
    | some p =>
      rw [hp] at hw
      exact stays.mem p (List.mem_of_getElem? hp) _ _ _ _ _ hd he hw
  refine wp_region_jointH hm (fun d x w => R d x w ∧ (∀ i, i < ops.size → d i = true → wordX Ws d i (x i) w) ∧ ClosedX ops d) hn hwf ?_ ?_ ?_
  · exact ⟨start, by simp, fun j o _ h => by cases h⟩
  · rintro i hi d x w ⟨hR, hw, hcl⟩ hd hdeps
    have hoi : ops[i]? = some ops[i] := Array.getElem?_eq_getElem hi
    have hmem : ops[i] ∈ ops.toList := by simp
    have hlt : ∀ e ∈ (ops[i]).after.toList, Region.binds .any e = true → e.on < ops.size := by
      intro e he hb
      unfold wellFormed at hwf
      rw [List.all_eq_true] at hwf
      have := hwf (ops[i], i) (by rw [List.mem_zipIdx_iff_getElem?]; simp [hi])
      simp only [Array.all_eq_true'] at this
      have := this e (by simpa using he)
      have : e.on < i := by simpa [hb] using this
      omega
    have hwant : Region.wanted ops[i] (yielded ops (putsF x 0 (ops.toList.map (·.dst)) base).tmps) = wantedX ops[i] x := wanted_eq hn hg ops[i] hmem x
    have hset : (fun j => if j = i then true else d j) = setD d i := rfl
    have put : ∀ v w', wordX Ws (setD d i) i v w' → (∀ j, j < ops.size → j ≠ i → d j = true → wordX Ws (setD d i) j (x j) w') → ∀ j, j < ops.size → setD d i j = true → wordX Ws (setD d i) j (if j = i then v else x j) w' := by
      intro v w' hv ho j hj hdj
      by_cases hji : j = i
      · subst hji; simpa using hv
      · rw [setD_ne d hji] at hdj
        rw [if_neg hji]
        exact ho j hj hji hdj
    have hcl2 : ClosedX ops (setD d i) := by
      intro j o hj hdj e he hb
      by_cases hji : j = i
      · subst hji
        rw [hoi] at hj
        obtain rfl := Option.some.inj hj
        exact setD_le d _ _ (hdeps e he hb)
      · rw [setD_ne d hji] at hdj
        exact setD_le d _ _ (hcl j o hj hdj e he hb)
    rw [hwant, hFF x, hset]
    cases hsp : sp.contains i with
    | false =>
      have hs := OpStepsXR.get steps i ops[i] (by simp [hi]) (by rw [Nat.zero_add]; exact hsp)
      rw [Nat.zero_add] at hs
      have hs := hs d x w hR hd hdeps (Deps.of (fun e he hb => hw _ (hlt e he hb) (hdeps e he hb)))
      split
      · rename_i hwt
        refine Oper.wp_mono ?_ (hs.1 hwt)
        rintro a' w' ⟨v, rfl, hv, hR', he⟩
        exact ⟨v, rfl, hR', put v w' hv (fun j hj hji hdj => hword j d _ _ w w' (hw j hj hdj) (setD_le d i) he), hcl2⟩
      · rename_i hwt
        exact ⟨(hs.2 (by simpa using hwt)).2, put undef w (hs.2 (by simpa using hwt)).1 (fun j hj hji hdj => hword j d _ _ w w (hw j hj hdj) (setD_le d i) (Below.refl _ _)), hcl2⟩
    | true =>
      have hs := OpSpecsXR.get specs i ops[i] (by simp [hi]) (by rw [Nat.zero_add]; exact hsp)
      rw [Nat.zero_add] at hs
      have hs := hs d x w hR hd hcl hdeps (doneX_of Ws 0 (fun j _ => by simp) (fun j hj hdj => hw j (by omega) hdj))
      split
      · rename_i hwt
        refine Oper.wp_mono ?_ (hs.1 hwt)
        rintro a' w' ⟨v, rfl, hv, hR', he⟩
        refine ⟨v, rfl, hR', put v w' hv (fun j hj hji hdj => ?_), hcl2⟩
        have h0 := hw j hj hdj
        unfold wordX at h0 ⊢
        cases hp : Ws[j]? with
        | none => trivial
        | some p =>
          rw [hp] at h0
          have := he.get (Ws := Ws) j p hp
          rw [Nat.zero_add] at this
          exact this hji hdj h0
      · rename_i hwt
        exact ⟨(hs.2 (by simpa using hwt)).2, put undef w (hs.2 (by simpa using hwt)).1 (fun j hj hji hdj => hword j d _ _ w w (hw j hj hdj) (setD_le d i) (Below.refl _ _)), hcl2⟩
  · rintro d x w hall ⟨hR, hw, -⟩
    rw [hFF x]
    exact fin x w d hall hR (allX_of (d := d) stays Ws 0 (fun j _ => by simp) (fun j hj => hw j (by omega) (hall j (by omega))))
end
theorem setD_false {d : Nat → Bool} {i k : Nat} (h : setD d i k = false) : d k = false := by
  cases e : d k with
  | false => rfl
  | true => have := setD_le d i k e; rw [h] at this; cases this
theorem held_next {d : Nat → Bool} {x : Nat → Value} {i k : Nat} {v u : Value} (h : d k = false → x k = u) (hk : k ≠ i) : setD d i k = false → (if k = i then v else x k) = u := fun hf => by rw [if_neg hk]; exact h (setD_false hf)
theorem held_self {d : Nat → Bool} {x : Nat → Value} {i : Nat} {v u : Value} : setD d i i = false → (if i = i then v else x i) = u := fun hf => by rw [setD_self] at hf; cases hf
theorem nextXR {A a' : Act} {dst : Option Tmp} {Ws : List WordX} {d : Nat → Bool} {i : Nat} {x : Nat → Value} {R : (Nat → Bool) → (Nat → Value) → World → Prop} {w w' : World} (v : Value) (ha : a' = A.put dst v) (hp : wordX Ws (setD d i) i v w') (hR : R (setD d i) (fun j => if j = i then v else x j) w') (he : Goes w w') : NextXR A dst Ws d i x R w a' w' := ⟨v, ha, hp, hR, he⟩
theorem nextKR {A a' : Act} {dst : Option Tmp} {Ws : List WordX} {d : Nat → Bool} {i : Nat} {x : Nat → Value} {R : (Nat → Bool) → (Nat → Value) → World → Prop} {w w' : World} (v : Value) (ha : a' = A.put dst v) (hp : wordX Ws (setD d i) i v w') (hR : R (setD d i) (fun j => if j = i then v else x j) w') (he : KeepX d i x w w' 0 Ws) : NextKR A dst Ws d i x R w a' w' := ⟨v, ha, hp, hR, he⟩
end Go.Proofs.YtkdknfedieeenaaGreatDoor
namespace Go.Proofs.YtkdknfedieeenaaGreatDoor
open Go.RowKit
set_option linter.unusedVariables false
/-- Operation K is the call, operation S the store, behind all others. -/
def CallSt (K S : Nat) (Pre : World → Prop) (Mid : Value → World → Prop) (Fin : World → Prop) : (Nat → Bool) → (Nat → Value) → World → Prop := fun d x w =>
  (d S = false ∧ ((d K = false ∧ Pre w) ∨ (d K = true ∧ Mid (x K) w))) ∨ (d S = true ∧ (∀ i, i < S → d i = true) ∧ Fin w)
section
variable {K S : Nat} {Pre : World → Prop} {Mid : Value → World → Prop} {Fin : World → Prop} {d : Nat → Bool} {x : Nat → Value} {w w' : World}
theorem CallSt.start (h : Pre w) : CallSt K S Pre Mid Fin (fun _ => false) x w := .inl ⟨rfl, .inl ⟨rfl, h⟩⟩
theorem CallSt.plain (h : CallSt K S Pre Mid Fin d x w) {i : Nat} (v : Value) (hd : d i = false) (hi : i < S) (hK : i ≠ K) : CallSt K S Pre Mid Fin (setD d i) (fun j => if j = i then v else x j) w := by
  rcases h with ⟨h1, h2⟩ | ⟨h1, h2, h3⟩
  · refine .inl ⟨by rw [setD_ne d (by omega)]; exact h1, ?_⟩
    rw [setD_ne d (Ne.symm hK)]
    rcases h2 with h2 | ⟨h2, h3⟩
    · exact .inl h2
    · exact .inr ⟨h2, by show Mid (if K = i then v else x K) w; rw [if_neg (Ne.symm hK)]; exact h3⟩
  · rw [h2 i hi] at hd; cases hd
theorem CallSt.has (h : CallSt K S Pre Mid Fin d x w) {i : Nat} (hd : d i = false) (hi : i < S) : Pre w ∨ Mid (x K) w := by
  rcases h with ⟨h1, h2⟩ | ⟨h1, h2, h3⟩
  · rcases h2 with ⟨_, h2⟩ | ⟨_, h3⟩
    · exact .inl h2
    · exact .inr h3
  · rw [h2 i hi] at hd; cases hd
theorem CallSt.pre (h : CallSt K S Pre Mid Fin d x w) (hd : d K = false) (hK : K < S) : Pre w := by
  rcases h with ⟨h1, h2⟩ | ⟨h1, h2, h3⟩
  · rcases h2 with ⟨_, h2⟩ | ⟨h2, _⟩
    · exact h2
    · rw [hd] at h2; cases h2
  · rw [h2 K hK] at hd; cases hd
theorem CallSt.mid (h : CallSt K S Pre Mid Fin d x w) (hd : d S = false) (hK : d K = true) : Mid (x K) w := by
  rcases h with ⟨h1, h2⟩ | ⟨h1, h2, h3⟩
  · rcases h2 with ⟨h2, _⟩ | ⟨_, h2⟩
    · rw [hK] at h2; cases h2
    · exact h2
  · rw [hd] at h1; cases h1
theorem CallSt.call (h : CallSt K S Pre Mid Fin d x w) (hd : d K = false) (hK : K < S) {v : Value} (hm : Mid v w') : CallSt K S Pre Mid Fin (setD d K) (fun j => if j = K then v else x j) w' := by
  rcases h with ⟨h1, h2⟩ | ⟨h1, h2, h3⟩
  · exact .inl ⟨by rw [setD_ne d (by omega)]; exact h1, .inr ⟨setD_self d K, by show Mid (if K = K then v else x K) w'; rw [if_pos rfl]; exact hm⟩⟩
  · rw [h2 K hK] at hd; cases hd
theorem CallSt.store (hall : ∀ i, i < S → d i = true) (v : Value) (hf : Fin w') : CallSt K S Pre Mid Fin (setD d S) (fun j => if j = S then v else x j) w' :=
  .inr ⟨setD_self d S, fun i hi => setD_le d S i (hall i hi), hf⟩
theorem CallSt.fin (h : CallSt K S Pre Mid Fin d x w) (hd : d S = true) : Fin w := by
  rcases h with ⟨h1, _⟩ | ⟨_, _, h3⟩
  · rw [hd] at h1; cases h1
  · exact h3
end
/-- Nothing is said of a slot. -/
def anyX : WordX := fun _ _ _ => True
theorem anyX_stays : StaysX anyX := fun _ _ _ _ _ _ _ _ => trivial
/-- A word that speaks of the value alone keeps. -/
theorem isX_keep {u : Value} {d d' : Nat → Bool} {v : Value} {w w' : World} (h : isX u d v w) : isX u d' v w' := h
end Go.Proofs.YtkdknfedieeenaaGreatDoor
namespace Go.Proofs.YtkdknfedieeenaaGreatDoor
open Go.RowKit
set_option linter.unusedVariables false
set_option maxRecDepth 20000
attribute [local simp] putsF isV wordOf Deps Region.binds Region.wanted Act.put wantedX isB
theorem tri_follows : Tryz.prog.follows .mixedOrders = true := by kernel_rfl
def needP (h : Bool) (p0 p1 : Option Nat) (b : Nat) : Option Nat :=
  match h, p0, p1 with
  | false, none, p => p
  | false, some a, none => some a
  | _, _, _ => some b
set_option maxHeartbeats 1600000 in
theorem needed_any (b : Nat) (k v : Value) (h : Bool) (p0 p1 : Option Nat) (w : World) (hc : Cs w b [k, v, .bool h, ptrV p0, ptrV p1]) :
    Calls Tryz.prog 124 #[.pointer (some ⟨b, 0, none⟩)] w fun e w' => e = .returned (ptrV (needP h p0 p1 b)) ∧ ∃ n, w' = w.drewN n := by
  have c2 := hc.get 2 _
  have c3 := hc.get 3 _
  have c4 := hc.get 4 _
  have hb := hc.lt
  clear hc
  cases h <;> cases p0 <;> cases p1 <;> simp only [ptrV, Option.map_none, Option.map_some, needP] at c3 c4 ⊢
  all_goals
    go_enter Tryz.func124, Tryz.ntmps124
    go_upto_region 1 with fail
    go_quiet (fail)
    go_wp2_with fail
    go_ret
    exact ⟨rfl, _, rfl⟩
/-- What a call leaves that puts a word in. -/
def PutP (w : World) (t' : Tr) (bs : List Nat) (e : Ending) (w' : World) : Prop :=
  ∃ p' bs', e = .returned (ptrV p') ∧ TrM w' t' p' bs' ∧ bs'.Nodup ∧ (∀ x ∈ bs', x ∈ bs ∨ w.heap.size ≤ x) ∧ Only (fun x => x ∈ bs) w w'
theorem putT_nil (q : List UInt8) (x : Int) (w : World) :
    Calls Tryz.prog 98 #[.pointer none, .string (sb q), .int .i64 x] w (PutP w (leafR q x) []) := by
  have hC := Lib.hid (Cs.new w #[.string (sb q), .int .i64 x, .bool true, .pointer none, .pointer none] 178 _ rfl)
  go_enter Tryz.func98, Tryz.ntmps98
  go_wp2_with fail
  go_ret
  exact ⟨some w.heap.size, [w.heap.size], rfl, TrM.leaf _ _ _ _ hC.out, by simp, fun y hy => .inr (by simp at hy; omega), (Only.refl _ _).alloc _⟩
end Go.Proofs.YtkdknfedieeenaaGreatDoor
namespace Go.Proofs.YtkdknfedieeenaaGreatDoor
open Go.RowKit
set_option linter.unusedVariables false
set_option maxRecDepth 20000
attribute [local simp] putsF isV wordOf Deps Region.binds Region.wanted Act.put wantedX isB
def offB (s : Bool) : Nat := if s then 4 else 3
/-- What is there behind a call that turns a tree. -/
def PutW (w : World) (t' : Tr) (bs : List Nat) (p' : Option Nat) (w' : World) : Prop :=
  ∃ bs', TrM w' t' p' bs' ∧ bs'.Nodup ∧ (∀ x ∈ bs', x ∈ bs ∨ w.heap.size ≤ x) ∧ Only (fun x => x ∈ bs) w w'
theorem PutW.p {w w' : World} {t' : Tr} {bs : List Nat} {p' : Option Nat} (h : PutW w t' bs p' w') : PutP w t' bs (.returned (ptrV p')) w' := by
  obtain ⟨bs', h⟩ := h
  exact ⟨p', bs', rfl, h⟩
theorem PutP.w {w w' : World} {t' : Tr} {bs : List Nat} {e : Ending} (h : PutP w t' bs e w') : ∃ p', e = .returned (ptrV p') ∧ PutW w t' bs p' w' := by
  obtain ⟨p', bs', h1, h2⟩ := h
  exact ⟨p', h1, bs', h2⟩
theorem PutW.drewN {w w' : World} {t' : Tr} {bs : List Nat} {p' : Option Nat} {n : Nat} (h : PutW (w.drewN n) t' bs p' w') : PutW w t' bs p' w' := by
  obtain ⟨bs', h1, h2, h3, h4⟩ := h
  exact ⟨bs', h1, h2, h3, ((Only.refl _ w).drewN n).trans h4 (fun _ _ e => e)⟩
theorem PutW.drewN' {w w' : World} {t' : Tr} {bs : List Nat} {p' : Option Nat} (h : PutW w t' bs p' w') (n : Nat) : PutW w t' bs p' (w'.drewN n) := by
  obtain ⟨bs', h1, h2, h3, h4⟩ := h
  exact ⟨bs', h1.drewN n, h2, h3, h4.drewN n⟩
theorem TrM.setCell {w : World} {t : Tr} {p : Option Nat} {bs : List Nat} (h : TrM w t p bs) (a : Addr) (u : Value) (ha : a.block ∉ bs) : TrM (w.setCell a u) t p bs :=
  h.keep (by simp [World.setCell]) fun x hx => Below.heap_setCell w a u x (fun e => ha (by subst e; exact hx))
section
variable {w wx : World} {k : List UInt8} {v : Int} {h : Bool} {c : Bool → Tr} {b : Nat} {ps : Bool → Option Nat} {bb : Bool → List Nat} {s : Bool} {t' : Tr} {p' : Option Nat}
/-- The node's own cells, while a kid is turned. -/
theorem kid_cs (hc : Cs w b [.string (sb k), .int .i64 v, .bool h, ptrV (ps false), ptrV (ps true)]) (hnd : (b :: (bb false ++ bb true)).Nodup) (hp : PutW w t' (bb s) p' wx) :
    Cs wx b [.string (sb k), .int .i64 v, .bool h, ptrV (ps false), ptrV (ps true)] := by
  obtain ⟨bs', h1, h2, h3, h4⟩ := hp
  exact h4.cs hc ((bb_nodup hnd).2.1 s)
/-- The kid is another tree now: it is laid into its node. -/
theorem kid_put (hc : Cs w b [.string (sb k), .int .i64 v, .bool h, ptrV (ps false), ptrV (ps true)]) (hk : ∀ s, TrM w (c s) (ps s) (bb s)) (hnd : (b :: (bb false ++ bb true)).Nodup) (hp : PutW w t' (bb s) p' wx) :
    PutW w (.node k v h (updC c s t')) (b :: (bb false ++ bb true)) (some b) (wx.setCell ⟨b, offB s, none⟩ (ptrV p')) ∧
    Cs (wx.setCell ⟨b, offB s, none⟩ (ptrV p')) b [.string (sb k), .int .i64 v, .bool h, ptrV (updP ps s p' false), ptrV (updP ps s p' true)] := by
  have hcx := kid_cs hc hnd hp
  obtain ⟨bs', h1, h2, h3, h4⟩ := hp
  obtain ⟨n1, n2, n3⟩ := bb_nodup hnd
  have hbs : b ∉ bs' := fun hm => by
    rcases h3 b hm with e | e
    · exact n2 s e
    · have := hc.lt; omega
  have hcs : Cs (wx.setCell ⟨b, offB s, none⟩ (ptrV p')) b [.string (sb k), .int .i64 v, .bool h, ptrV (updP ps s p' false), ptrV (updP ps s p' true)] := by
    have := hcx.set' (offB s) (ptrV p') (by cases s <;> simp [offB])
    cases s <;> exact this
  have hother : TrM wx (c (!s)) (ps (!s)) (bb (!s)) := (hk (!s)).only h4 fun x hx hy => n3 s x hy hx
  refine ⟨⟨_, TrM.kid hcs (h1.setCell _ _ hbs) (hother.setCell _ _ (n2 _)), updP_nodup h2 (n1 _) hbs (n2 _) (fun x hx hy => ?_), fun x hx => ?_, ?_⟩, hcs⟩
  · rcases h3 x hx with e | e
    · exact n3 s x e hy
    · have := (hk (!s)).lt x hy; omega
  · rcases updP_mem hx with rfl | hx | hx
    · exact .inl (by simp)
    · rcases h3 x hx with e | e
      · exact .inl (mem_bb e)
      · exact .inr e
    · exact .inl (mem_bb hx)
  · exact (h4.mono (fun x _ hx => mem_bb hx)).setCell _ _ (fun _ => by simp)
/-- The node's own number is laid. -/
theorem own_put (hc : Cs w b [.string (sb k), .int .i64 v, .bool h, ptrV (ps false), ptrV (ps true)]) (hk : ∀ s, TrM w (c s) (ps s) (bb s)) (hnd : (b :: (bb false ++ bb true)).Nodup) (n : Nat) (x : Int) (g : Bool) :
    PutW w (.node k x g c) (b :: (bb false ++ bb true)) (some b) (((w.drewN n).setCell ⟨b, 1, none⟩ (.int .i64 x)).setCell ⟨b, 2, none⟩ (.bool g)) ∧
    Cs (((w.drewN n).setCell ⟨b, 1, none⟩ (.int .i64 x)).setCell ⟨b, 2, none⟩ (.bool g)) b [.string (sb k), .int .i64 x, .bool g, ptrV (ps false), ptrV (ps true)] := by
  obtain ⟨n1, n2, n3⟩ := bb_nodup hnd
  have h1 := (hc.drewN n).set' 1 (.int .i64 x) (by simp)
  have h2 := h1.set' 2 (.bool g) (by simp)
  refine ⟨⟨_, ⟨b, ps, bb, rfl, rfl, h2, fun s => (((hk s).drewN n).setCell _ _ (n2 s)).setCell _ _ (n2 s)⟩, hnd, fun x hx => .inl hx, ?_⟩, h2⟩
  exact (((Only.refl _ w).drewN n).setCell _ _ (fun _ => by simp)).setCell _ _ (fun _ => by simp)
end
set_option maxHeartbeats 3200000 in
/-- Where the new word begins with the node's. -/
theorem put_on (k : List UInt8) (v : Int) (h : Bool) (c : Bool → Tr) (q : List UInt8) (x0 : Int) (hkq : k <+: q) (hq : BitsL q) (hl : q.length ≤ 128)
    (ih : k.length < q.length → ∀ p bs w, TrM w (c (side q k.length)) p bs → bs.Nodup → Calls Tryz.prog 98 #[ptrV p, .string (sb q), .int .i64 x0] w (PutP w (putR (c (side q k.length)) q x0) bs))
    (p : Option Nat) (bs : List Nat) (w : World) (hm : TrM w (.node k v h c) p bs) (hnd : bs.Nodup) :
    Calls Tryz.prog 98 #[ptrV p, .string (sb q), .int .i64 x0] w (PutP w (if k.length < q.length then .node k v h (updC c (side q k.length) (putR (c (side q k.length)) q x0)) else .node k x0 true c) bs) := by
  obtain ⟨b, ps, bb, rfl, rfl, hc, hk⟩ := hm
  rw [ptrV_some]
  have hkl := hkq.length_le
  have hmax : maxLen = 9223372036854775807 := by decide
  have HCOM := Lib.hid (fun w => common_any k q w (by omega) (by omega))
  rw [alike_of_pre hkq] at HCOM
  have hsk := sb_size k
  have hsq := sb_size q
  have HC := Lib.hid hc
  have HK := Lib.hid hk
  have HND := Lib.hid hnd
  have c0 := hc.get 0 _
  have hb := hc.lt
  by_cases hlt : k.length < q.length
  · rw [if_pos hlt]
    have HSIDE := Lib.hid (fun w => side_any q k.length w hq hlt (by omega))
    have HIH := Lib.hid (ih hlt)
    obtain ⟨s, hs⟩ : ∃ s, side q k.length = s := ⟨_, rfl⟩
    rw [hs] at HSIDE HIH ⊢
    obtain ⟨K, hK⟩ : ∃ K, k.length = K := ⟨_, rfl⟩
    obtain ⟨Q, hQ⟩ : ∃ Q, q.length = Q := ⟨_, rfl⟩
    obtain ⟨T, hT⟩ : ∃ T, putR (c s) q x0 = T := ⟨_, rfl⟩
    rw [hT] at HIH ⊢
    rw [hK] at HCOM HSIDE hsk hlt hkl
    rw [hQ] at hsq hlt hl hkl
    obtain ⟨KS, hKS⟩ : ∃ KS, sb k = KS := ⟨_, rfl⟩
    obtain ⟨QS, hQS⟩ : ∃ QS, sb q = QS := ⟨_, rfl⟩
    rw [hKS] at HCOM hsk HC c0
    rw [hQS] at HCOM hsq HSIDE HIH ⊢
    have d1 : ¬ (K : Int) < K := by omega
    have d2 : (K : Int) < Q := by omega
    have HPUT : Hid (∀ (p' : Option Nat) (wx : World), PutW w T (bb s) p' wx → PutW w (.node k v h (updC c s T)) (b :: (bb false ++ bb true)) (some b) (wx.setCell ⟨b, offB s, none⟩ (ptrV p'))) := Lib.hid (fun p' wx hp => (kid_put (by rw [hKS]; exact HC.out) HK.out HND.out hp).1)
    have HCS : Hid (∀ (p' : Option Nat) (wx : World), PutW w T (bb s) p' wx → Cs wx b [.string KS, .int .i64 v, .bool h, ptrV (ps false), ptrV (ps true)]) := Lib.hid (fun p' wx hp => HC.out |> fun hc => by rw [← hKS] at hc ⊢; exact kid_cs hc HND.out hp)
    have HCALL : Hid (∀ n, Calls Tryz.prog 98 #[ptrV (ps s), .string QS, .int .i64 x0] (w.drewN n) fun e w' => ∃ p', e = .returned (ptrV p') ∧ PutW w T (bb s) p' w') :=
      Lib.hid (fun n => (HIH.out (ps s) (bb s) (w.drewN n) ((HK.out s).drewN n) ((bb_nodup HND.out).1 s)).mono (fun e w' hp => by
        obtain ⟨p', h1, h2⟩ := hp.w
        exact ⟨p', h1, h2.drewN⟩))
    have HCX : Hid (∀ (v' : Value) (wx : World), ((∃ n, wx = w.drewN n) ∨ ∃ p', v' = ptrV p' ∧ PutW w T (bb s) p' wx) → Cs wx b [.string KS, .int .i64 v, .bool h, ptrV (ps false), ptrV (ps true)]) := Lib.hid (fun v' wx h => by
      rcases h with ⟨n, rfl⟩ | ⟨p', -, hp⟩
      · exact HC.out.drewN n
      · exact HCS.out p' wx hp)
    clear hK hQ hT hKS hQS hs hkl hlt hl hq hkq ih hk hnd hc HIH HK HND hmax
    cases s with
    | true =>
      simp only [if_true] at HSIDE
      go_enter Tryz.func98, Tryz.ntmps98
      go_upto_region 11 with (first
        | (go_at_call 126; refine (HCOM.out _).mono ?_; rintro e w1 ⟨rfl, n, rfl⟩; have c0 := (HC.out.drewN n).get 0 _; have hb := (HC.out.drewN n).lt)
        | (go_at_call 100; refine (HSIDE.out _).mono ?_; rintro e w1 ⟨rfl, rfl⟩))
      refine wp_region_expR tri_follows (fun x => by simp [putsF, Act.put]; rfl) (CallSt 10 14 (fun wx => ∃ n, wx = w.drewN n) (fun v wx => ∃ p', v = ptrV p' ∧ PutW w T (bb true) p' wx) (fun wx => PutW w (.node k v h (updC c true T)) (b :: (bb false ++ bb true)) (some b) wx))
        [isX (.pointer (some ⟨b, 0, none⟩)), isX (.int .i64 1), isX (.pointer (some ⟨b, 0, none⟩)), isX (.int .i64 1), isX (.pointer (some ⟨b, 0, none⟩)), isX (.pointer (some ⟨b, 3, none⟩)), isX (.pointer (some ⟨b, 4, none⟩)), isX (ptrV (ps true)), isX (.string QS), isX (.int .i64 x0), anyX, isX (.pointer (some ⟨b, 0, none⟩)), isX (.pointer (some ⟨b, 3, none⟩)), isX (.pointer (some ⟨b, 4, none⟩)), anyX]
        [10, 14] (by kernel_rfl) (by kernel_rfl) (by kernel_rfl) rfl ?_ (CallSt.start ⟨n + 1, rfl⟩) ?_ ?_ ?_
      · repeat (first | exact trivial | refine ⟨by first | exact isX_stays _ | exact anyX_stays, ?_⟩)
      · refine ⟨?_, ?_, ?_, ?_, ?_, ?_, ?_, ?_, ?_, ?_, skipped rfl, ?_, ?_, ?_, skipped rfl, trivial⟩
        all_goals
          intro _ d x wx hR hdi hsrc hd
          refine ⟨fun _ => ?_, fun hX => by simp at hX⟩
          have hcx := HCX.out _ _ (hR.has hdi (by decide))
          have hR' := Lib.hid (fun v => hR.plain v hdi (by decide) (by decide))
          have c3 := hcx.get 3 _
          have c4 := hcx.get 4 _
          have cl := hcx.lt
          clear hR hcx
          simp [wordX, isX] at hd ⊢
          go_simp; exact nextXR _ rfl rfl (hR'.out _) (Below.refl _ _)
      · refine ⟨unskipped rfl, unskipped rfl, unskipped rfl, unskipped rfl, unskipped rfl, unskipped rfl, unskipped rfl, unskipped rfl, unskipped rfl, unskipped rfl, ?_, unskipped rfl, unskipped rfl, unskipped rfl, ?_, trivial⟩
        · intro _ d x wx hR hdi hcl hsrc hd
          refine ⟨fun _ => ?_, fun hX => by simp at hX⟩
          have d7 : d 7 = true := SrcX.reach (K := 10) hcl hsrc rfl 20 7 (by decide) (by kernel_rfl)
          have d8 : d 8 = true := SrcX.reach (K := 10) hcl hsrc rfl 20 8 (by decide) (by kernel_rfl)
          have d9 : d 9 = true := SrcX.reach (K := 10) hcl hsrc rfl 20 9 (by decide) (by kernel_rfl)
          simp only [DoneX] at hd
          obtain ⟨-, -, -, -, -, -, -, g7, g8, g9, -⟩ := hd
          have h7 : x 7 = ptrV (ps true) := g7 d7
          have h8 : x 8 = .string QS := g8 d8
          have h9 : x 9 = .int .i64 x0 := g9 d9
          obtain ⟨m, rfl⟩ := hR.pre hdi (by decide)
          have hR' := Lib.hid (fun v w' hm => hR.call (v := v) (w' := w') hdi (by decide) hm)
          try dsimp only
          rw [h7, h8, h9]
          clear h7 h8 h9 g7 g8 g9 hR d7 d8 d9
          go_simp
          go_at_call 98
          refine (HCALL.out m).mono ?_
          rintro e wy ⟨p', rfl, hp⟩
          exact nextKR _ rfl trivial (hR'.out _ _ ⟨p', rfl, hp⟩) ⟨fun _ _ h => h, fun _ _ h => h, fun _ _ h => h, fun _ _ h => h, fun _ _ h => h, fun _ _ h => h, fun _ _ h => h, fun _ _ h => h, fun _ _ h => h, fun _ _ h => h, fun _ _ h => h, fun _ _ h => h, fun _ _ h => h, fun _ _ h => h, fun _ _ h => h, trivial⟩
        · intro _ d x wx hR hdi hcl hsrc hd
          refine ⟨fun _ => ?_, fun hX => by simp at hX⟩
          have hall : ∀ i, i < 14 → d i = true := fun i hi => SrcX.reach (K := 14) hcl hsrc rfl 20 i (by omega) (by revert i hi; decide +kernel)
          simp only [DoneX] at hd
          obtain ⟨-, -, -, -, -, -, -, -, -, -, -, -, -, g13, -⟩ := hd
          have h13 : x 13 = .pointer (some ⟨b, 4, none⟩)   := g13 (hall 13 (by decide))
          obtain ⟨p', h10, hp⟩ := hR.mid hdi (hall 10 (by decide))
          have hcx := HCS.out p' wx hp
          have HFIN := Lib.hid (HPUT.out p' wx hp)
          have c4 := hcx.get 4 _
          have f4 := hcx.froz 4 (by simp)
          have cl := hcx.lt
          have HALL := Lib.hid hall
          clear hcx hp hR hall
          try dsimp only
          rw [h13, h10]
          clear h13 h10 g13
          unfold ptrV at c4 HFIN ⊢
          go_simp
          exact nextKR undef rfl trivial (CallSt.store HALL.out undef HFIN.out) ⟨fun _ _ h => h, fun _ _ h => h, fun _ _ h => h, fun _ _ h => h, fun _ _ h => h, fun _ _ h => h, fun _ _ h => h, fun _ _ h => h, fun _ _ h => h, fun _ _ h => h, fun _ _ h => h, fun _ _ h => h, fun _ _ h => h, fun _ _ h => h, fun _ _ h => h, trivial⟩
      · intro y wy d hall hR hx
        have HF := Lib.hid (hR.fin (hall 14 (by decide)))
        clear hx hR hall
        go_wp2_with fail
        go_ret
        exact HF.out.p
    | false =>
      simp only [Bool.false_eq_true, if_false] at HSIDE
      go_enter Tryz.func98, Tryz.ntmps98
      go_upto_region 11 with (first
        | (go_at_call 126; refine (HCOM.out _).mono ?_; rintro e w1 ⟨rfl, n, rfl⟩; have c0 := (HC.out.drewN n).get 0 _; have hb := (HC.out.drewN n).lt)
        | (go_at_call 100; refine (HSIDE.out _).mono ?_; rintro e w1 ⟨rfl, rfl⟩))
      refine wp_region_expR tri_follows (fun x => by simp [putsF, Act.put]; rfl) (CallSt 10 14 (fun wx => ∃ n, wx = w.drewN n) (fun v wx => ∃ p', v = ptrV p' ∧ PutW w T (bb false) p' wx) (fun wx => PutW w (.node k v h (updC c false T)) (b :: (bb false ++ bb true)) (some b) wx))
        [isX (.pointer (some ⟨b, 0, none⟩)), isX (.int .i64 0), isX (.pointer (some ⟨b, 0, none⟩)), isX (.int .i64 0), isX (.pointer (some ⟨b, 0, none⟩)), isX (.pointer (some ⟨b, 3, none⟩)), isX (.pointer (some ⟨b, 3, none⟩)), isX (ptrV (ps false)), isX (.string QS), isX (.int .i64 x0), anyX, isX (.pointer (some ⟨b, 0, none⟩)), isX (.pointer (some ⟨b, 3, none⟩)), isX (.pointer (some ⟨b, 3, none⟩)), anyX]
        [10, 14] (by kernel_rfl) (by kernel_rfl) (by kernel_rfl) rfl ?_ (CallSt.start ⟨n + 1, rfl⟩) ?_ ?_ ?_
      · repeat (first | exact trivial | refine ⟨by first | exact isX_stays _ | exact anyX_stays, ?_⟩)
      · refine ⟨?_, ?_, ?_, ?_, ?_, ?_, ?_, ?_, ?_, ?_, skipped rfl, ?_, ?_, ?_, skipped rfl, trivial⟩
        all_goals
          intro _ d x wx hR hdi hsrc hd
          refine ⟨fun _ => ?_, fun hX => by simp at hX⟩
          have hcx := HCX.out _ _ (hR.has hdi (by decide))
          have hR' := Lib.hid (fun v => hR.plain v hdi (by decide) (by decide))
          have c3 := hcx.get 3 _
          have c4 := hcx.get 4 _
          have cl := hcx.lt
          clear hR hcx
          simp [wordX, isX] at hd ⊢
          go_simp; exact nextXR _ rfl rfl (hR'.out _) (Below.refl _ _)
      · refine ⟨unskipped rfl, unskipped rfl, unskipped rfl, unskipped rfl, unskipped rfl, unskipped rfl, unskipped rfl, unskipped rfl, unskipped rfl, unskipped rfl, ?_, unskipped rfl, unskipped rfl, unskipped rfl, ?_, trivial⟩
        · intro _ d x wx hR hdi hcl hsrc hd
          refine ⟨fun _ => ?_, fun hX => by simp at hX⟩
          have d7 : d 7 = true := SrcX.reach (K := 10) hcl hsrc rfl 20 7 (by decide) (by kernel_rfl)
          have d8 : d 8 = true := SrcX.reach (K := 10) hcl hsrc rfl 20 8 (by decide) (by kernel_rfl)
          have d9 : d 9 = true := SrcX.reach (K := 10) hcl hsrc rfl 20 9 (by decide) (by kernel_rfl)
          simp only [DoneX] at hd
          obtain ⟨-, -, -, -, -, -, -, g7, g8, g9, -⟩ := hd
          have h7 : x 7 = ptrV (ps false) := g7 d7
          have h8 : x 8 = .string QS := g8 d8
          have h9 : x 9 = .int .i64 x0 := g9 d9
          obtain ⟨m, rfl⟩ := hR.pre hdi (by decide)
          have hR' := Lib.hid (fun v w' hm => hR.call (v := v) (w' := w') hdi (by decide) hm)
          try dsimp only
          rw [h7, h8, h9]
          clear h7 h8 h9 g7 g8 g9 hR d7 d8 d9
          go_simp
          go_at_call 98
          refine (HCALL.out m).mono ?_
          rintro e wy ⟨p', rfl, hp⟩
          exact nextKR _ rfl trivial (hR'.out _ _ ⟨p', rfl, hp⟩) ⟨fun _ _ h => h, fun _ _ h => h, fun _ _ h => h, fun _ _ h => h, fun _ _ h => h, fun _ _ h => h, fun _ _ h => h, fun _ _ h => h, fun _ _ h => h, fun _ _ h => h, fun _ _ h => h, fun _ _ h => h, fun _ _ h => h, fun _ _ h => h, fun _ _ h => h, trivial⟩
        · intro _ d x wx hR hdi hcl hsrc hd
          refine ⟨fun _ => ?_, fun hX => by simp at hX⟩
          have hall : ∀ i, i < 14 → d i = true := fun i hi => SrcX.reach (K := 14) hcl hsrc rfl 20 i (by omega) (by revert i hi; decide +kernel)
          simp only [DoneX] at hd
          obtain ⟨-, -, -, -, -, -, -, -, -, -, -, -, -, g13, -⟩ := hd
          have h13 : x 13 = .pointer (some ⟨b, 3, none⟩)   := g13 (hall 13 (by decide))
          obtain ⟨p', h10, hp⟩ := hR.mid hdi (hall 10 (by decide))
          have hcx := HCS.out p' wx hp
          have HFIN := Lib.hid (HPUT.out p' wx hp)
          have c4 := hcx.get 3 _
          have f4 := hcx.froz 3 (by simp)
          have cl := hcx.lt
          have HALL := Lib.hid hall
          clear hcx hp hR hall
          try dsimp only
          rw [h13, h10]
          clear h13 h10 g13
          unfold ptrV at c4 HFIN ⊢
          go_simp
          exact nextKR undef rfl trivial (CallSt.store HALL.out undef HFIN.out) ⟨fun _ _ h => h, fun _ _ h => h, fun _ _ h => h, fun _ _ h => h, fun _ _ h => h, fun _ _ h => h, fun _ _ h => h, fun _ _ h => h, fun _ _ h => h, fun _ _ h => h, fun _ _ h => h, fun _ _ h => h, fun _ _ h => h, fun _ _ h => h, fun _ _ h => h, trivial⟩
      · intro y wy d hall hR hx
        have HF := Lib.hid (hR.fin (hall 14 (by decide)))
        clear hx hR hall
        go_wp2_with fail
        go_ret
        exact HF.out.p
  · rw [if_neg hlt]
    have hke : k = q := hkq.eq_of_length (by omega)
    subst hke
    have HFIN := Lib.hid (fun n => (own_put hc hk hnd n x0 true).1)
    obtain ⟨K, hK⟩ : ∃ K, k.length = K := ⟨_, rfl⟩
    rw [hK] at HCOM hsk
    obtain ⟨KS, hKS⟩ : ∃ KS, sb k = KS := ⟨_, rfl⟩
    rw [hKS] at HCOM hsk HC c0 ⊢
    have d1 : ¬ (K : Int) < K := by omega
    clear hK hKS hkl hlt hl hq hkq ih hk hnd hc HK HND hmax hsq
    go_enter Tryz.func98, Tryz.ntmps98
    go_wp2_with (go_at_call 126; refine (HCOM.out _).mono ?_; rintro e w1 ⟨rfl, n, rfl⟩; have c0 := (HC.out.drewN n).get 0 _; have c1 := (HC.out.drewN n).get 1 _; have c2 := (HC.out.drewN n).get 2 _; have f1 := (HC.out.drewN n).froz 1 (by simp); have f2 := (HC.out.drewN n).froz 2 (by simp); have hb := (HC.out.drewN n).lt)
    go_ret
    exact (HFIN.out n).p
end Go.Proofs.YtkdknfedieeenaaGreatDoor
