/- Three-way orders: of numbers, of bytes, of pairs; records by name, type, data and time. It speaks of no program. -/
import Derived.Test.YtkdknfedieeenaaDoorActE
namespace Go.Proofs.YtkdknfedieeenaaDoor
open Go.RowKit
set_option linter.unusedVariables false
set_option linter.unusedSimpArgs false
structure IsCmp {α : Type} (c : α → α → Int) : Prop where
  range : ∀ x y, c x y = -1 ∨ c x y = 0 ∨ c x y = 1
  swap : ∀ x y, c y x = - c x y
  zero : ∀ x y, c x y = 0 ↔ x = y
  trans : ∀ x y z, c x y ≤ 0 → c y z ≤ 0 → c x z ≤ 0
theorem IsCmp.refl {α : Type} {c : α → α → Int} (h : IsCmp c) (x : α) : c x x = 0 := (h.zero x x).2 rfl
theorem IsCmp.lt_of_lt_le {α : Type} {c : α → α → Int} (h : IsCmp c) {x y z : α} (h1 : c x y < 0) (h2 : c y z ≤ 0) : c x z < 0 := by
  have h3 := h.trans x y z (by omega) h2
  rcases Int.lt_or_eq_of_le h3 with h4 | h4
  · exact h4
  · exfalso
    have e := (h.zero x z).1 h4
    subst e
    have := h.swap x y
    omega
theorem IsCmp.lt_of_le_lt {α : Type} {c : α → α → Int} (h : IsCmp c) {x y z : α} (h1 : c x y ≤ 0) (h2 : c y z < 0) : c x z < 0 := by
  have h3 := h.trans x y z h1 (by omega)
  rcases Int.lt_or_eq_of_le h3 with h4 | h4
  · exact h4
  · exfalso
    have e := (h.zero x z).1 h4
    subst e
    have := h.swap x y
    omega
def cmpI (a b : Int) : Int := if a < b then -1 else if b < a then 1 else 0
theorem cmpI_is : IsCmp cmpI := by
  refine ⟨fun x y => ?_, fun x y => ?_, fun x y => ?_, fun x y z => ?_⟩ <;> unfold cmpI
  · by_cases h1 : x < y <;> by_cases h2 : y < x <;> simp [h1, h2]
  · by_cases h1 : x < y <;> by_cases h2 : y < x <;> simp [h1, h2]; omega
  · by_cases h1 : x < y <;> by_cases h2 : y < x <;> simp [h1, h2] <;> omega
  · intro h1 h2
    have a1 : x ≤ y := by
      by_cases h : y < x
      · have : ¬ x < y := by omega
        simp [h, this] at h1
      · omega
    have a2 : y ≤ z := by
      by_cases h : z < y
      · have : ¬ y < z := by omega
        simp [h, this] at h2
      · omega
    by_cases h : x < z
    · simp [h]
    · have : ¬ z < x := by omega
      simp [h, this]
/-- One order, and where it does not tell the other one. -/
def thenC (a b : Int) : Int := if a = 0 then b else a
theorem lex_is {α β : Type} {c : α → α → Int} {d : β → β → Int} (h : IsCmp c) (k : IsCmp d) : IsCmp (fun (x y : α × β) => thenC (c x.1 y.1) (d x.2 y.2)) := by
  refine ⟨fun x y => ?_, fun x y => ?_, fun x y => ?_, fun x y z => ?_⟩ <;> unfold thenC <;> try dsimp only
  · have := h.range x.1 y.1
    have := k.range x.2 y.2
    split <;> omega
  · have := h.swap x.1 y.1
    have := k.swap x.2 y.2
    split <;> split <;> omega
  · have h0 := h.zero x.1 y.1
    have k0 := k.zero x.2 y.2
    obtain ⟨x1, x2⟩ := x
    obtain ⟨y1, y2⟩ := y
    dsimp only at h0 k0 ⊢
    by_cases e : c x1 y1 = 0
    · rw [if_pos e, k0, Prod.mk.injEq]
      exact ⟨fun h => ⟨h0.1 e, h⟩, fun h => h.2⟩
    · rw [if_neg e, Prod.mk.injEq]
      exact ⟨fun h => absurd h e, fun h => absurd (h0.2 h.1) e⟩
  · intro a b
    have hs := h.trans x.1 y.1 z.1
    have hk := k.trans x.2 y.2 z.2
    by_cases e1 : c x.1 y.1 = 0
    · rw [if_pos e1] at a
      have q1 := (h.zero _ _).1 e1
      rw [← q1] at b
      by_cases e2 : c x.1 z.1 = 0
      · rw [if_pos e2] at b ⊢
        exact hk a b
      · rw [if_neg e2] at b ⊢
        exact b
    · rw [if_neg e1] at a
      have b' : c y.1 z.1 ≤ 0 := by
        by_cases e2 : c y.1 z.1 = 0
        · omega
        · rw [if_neg e2] at b; exact b
      have := h.lt_of_lt_le (show c x.1 y.1 < 0 by omega) b'
      rw [if_neg (by omega)]
      omega
theorem map_is {α β : Type} {c : β → β → Int} (h : IsCmp c) (f : α → β) (hf : ∀ x y, f x = f y → x = y) : IsCmp (fun x y => c (f x) (f y)) :=
  ⟨fun x y => h.range _ _, fun x y => h.swap _ _, fun x y => (h.zero _ _).trans ⟨hf x y, fun e => by rw [e]⟩, fun x y z => h.trans _ _ _⟩
def cmpB : List UInt8 → List UInt8 → Int
  | [], [] => 0
  | [], _ :: _ => -1
  | _ :: _, [] => 1
  | a :: x, b :: y => if a.toNat < b.toNat then -1 else if b.toNat < a.toNat then 1 else cmpB x y
theorem cmpB_range : ∀ x y, cmpB x y = -1 ∨ cmpB x y = 0 ∨ cmpB x y = 1
  | [], [] => by simp [cmpB]
  | [], _ :: _ => by simp [cmpB]
  | _ :: _, [] => by simp [cmpB]
  | a :: x, b :: y => by
    unfold cmpB
    have := cmpB_range x y
    split
    · exact .inl rfl
    · split
      · exact .inr (.inr rfl)
      · exact this
theorem cmpB_swap : ∀ x y, cmpB y x = - cmpB x y
  | [], [] => by simp [cmpB]
  | [], _ :: _ => by simp [cmpB]
  | _ :: _, [] => by simp [cmpB]
  | a :: x, b :: y => by
    unfold cmpB
    have := cmpB_swap x y
    by_cases h1 : a.toNat < b.toNat
    · have h2 : ¬ b.toNat < a.toNat := by omega
      simp [h1, h2]
    · by_cases h2 : b.toNat < a.toNat
      · simp [h1, h2]
      · simp [h1, h2, this]
theorem cmpB_zero : ∀ x y, cmpB x y = 0 ↔ x = y
  | [], [] => by simp [cmpB]
  | [], _ :: _ => by simp [cmpB]
  | _ :: _, [] => by simp [cmpB]
  | a :: x, b :: y => by
    unfold cmpB
    have := cmpB_zero x y
    by_cases h1 : a.toNat < b.toNat
    · simp [h1]
      intro e; subst e; omega
    · by_cases h2 : b.toNat < a.toNat
      · simp [h1, h2]
        intro e; subst e; omega
      · have e : a = b := UInt8.toNat_inj.1 (by omega)
        simp [h1, h2, this, e]
theorem cmpB_trans : ∀ x y z, cmpB x y ≤ 0 → cmpB y z ≤ 0 → cmpB x z ≤ 0
  | [], _, [], _, _ => by simp [cmpB]
  | [], _, _ :: _, _, _ => by simp [cmpB]
  | _ :: _, [], _, h, _ => by simp [cmpB] at h
  | _ :: _, _ :: _, [], _, h => by simp [cmpB] at h
  | a :: x, b :: y, c :: z, h1, h2 => by
    unfold cmpB at h1 h2 ⊢
    have ih := cmpB_trans x y z
    by_cases e1 : a.toNat < b.toNat
    · by_cases e2 : b.toNat < c.toNat
      · rw [if_pos (by omega)]; omega
      · by_cases e3 : c.toNat < b.toNat
        · rw [if_neg e2, if_pos e3] at h2; omega
        · rw [if_pos (by omega)]; omega
    · by_cases e4 : b.toNat < a.toNat
      · rw [if_neg e1, if_pos e4] at h1; omega
      · rw [if_neg e1, if_neg e4] at h1
        by_cases e2 : b.toNat < c.toNat
        · rw [if_pos (by omega)]; omega
        · by_cases e3 : c.toNat < b.toNat
          · rw [if_neg e2, if_pos e3] at h2; omega
          · rw [if_neg e2, if_neg e3] at h2
            rw [if_neg (by omega), if_neg (by omega)]
            exact ih h1 h2
theorem cmpB_is : IsCmp cmpB := ⟨cmpB_range, cmpB_swap, cmpB_zero, cmpB_trans⟩
theorem less_cmpB : ∀ x y, Op.bytesLess x y = decide (cmpB x y < 0)
  | [], [] => by simp [cmpB, Op.bytesLess]
  | [], _ :: _ => by simp [cmpB, Op.bytesLess]
  | _ :: _, [] => by simp [cmpB, Op.bytesLess]
  | a :: x, b :: y => by
    unfold cmpB Op.bytesLess
    rw [less_cmpB x y]
    by_cases h1 : a.toNat < b.toNat
    · have : a < b := h1
      simp [h1, this]
    · have n1 : ¬ a < b := h1
      by_cases h2 : b.toNat < a.toNat
      · have e : a ≠ b := by intro e; subst e; omega
        simp [h1, n1, h2, e]
      · have e : a = b := UInt8.toNat_inj.1 (by omega)
        simp [e]
def cmpS (s t : ByteArray) : Int := cmpB s.toList t.toList
theorem toList_inj (s t : ByteArray) (h : s.toList = t.toList) : s = t := by
  rw [ByteArray.toList_eq, ByteArray.toList_eq] at h; exact ByteArray.ext (Array.ext' h)
theorem cmpS_is : IsCmp cmpS := map_is cmpB_is ByteArray.toList toList_inj
/-- How records are ordered. -/
def cmpR (r r' : RecT) : Int := thenC (cmpS r.1 r'.1) (thenC (cmpI r.2.1 r'.2.1) (thenC (cmpS r.2.2.2 r'.2.2.2) (cmpI r.2.2.1 r'.2.2.1)))
theorem cmpR_is : IsCmp cmpR := by
  have h1 := lex_is cmpS_is (lex_is cmpI_is (lex_is cmpS_is cmpI_is))
  exact map_is h1 (fun r : RecT => (r.1, r.2.1, r.2.2.2, r.2.2.1)) (fun x y h => by
    obtain ⟨a, b, c, d⟩ := x
    obtain ⟨a', b', c', d'⟩ := y
    simp only [Prod.mk.injEq] at h ⊢
    exact ⟨h.1, h.2.1, h.2.2.2, h.2.2.1⟩)
end Go.Proofs.YtkdknfedieeenaaDoor
