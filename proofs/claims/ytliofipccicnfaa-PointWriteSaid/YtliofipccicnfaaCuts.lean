/- Names that are cut off bytes: pure. -/
import Derived.Test.YtliofipccicnfaaNameB
namespace Go.Proofs.Ytliofipccicnfaa
open Go.RowKit
set_option linter.unusedVariables false

/-- The bytes are a name's. -/
def mayL (l : List UInt8) : Prop := (nameLabels l).isSome = true
/-- A name, a byte 0, and what stands behind it. -/
def IsCut (l n t : List UInt8) : Prop := mayL n ∧ l = n ++ 0 :: t
theorem mayL_wire {n : List UInt8} (h : mayL n) : ∃ ls, n = wire ls ∧ (∀ x ∈ ls, okLabel x = true) ∧ n.length ≤ 254 := by
  unfold mayL at h
  obtain ⟨ls, hl⟩ := Option.isSome_iff_exists.1 h
  have := (nameLabels_iff _ _).1 hl
  exact ⟨ls, this.2.1, this.2.2, this.1⟩
/-- A place at which labels begin, or the name ends, if the bytes begin with one. -/
def At (l : List UInt8) (p : Nat) : Prop := ∀ ls t, (∀ x ∈ ls, okLabel x = true) → l = wire ls ++ 0 :: t → ∃ k, k ≤ ls.length ∧ p = (wire (ls.take k)).length
theorem At.start (l : List UInt8) : At l 0 := fun ls t _ _ => ⟨0, Nat.zero_le _, by simp [wire]⟩
theorem at_head {l : List UInt8} {ls : List (List UInt8)} {t : List UInt8} (hl : l = wire ls ++ 0 :: t) (k : Nat) (hk : k ≤ ls.length) {p : Nat} (hp : p = (wire (ls.take k)).length) :
    l[p]? = (wire (ls.drop k) ++ 0 :: t)[0]? := by
  have h1 : l = wire (ls.take k) ++ (wire (ls.drop k) ++ 0 :: t) := by
    rw [← List.append_assoc, ← wire_append, List.take_append_drop]; exact hl
  rw [h1, hp, List.getElem?_append_right (Nat.le_refl _), Nat.sub_self]
theorem okLabel_len {x : List UInt8} (h : okLabel x = true) : 1 ≤ x.length ∧ x.length ≤ 63 := by
  simp only [okLabel, Bool.and_eq_true, decide_eq_true_eq] at h
  exact h.1
theorem ofNat_small (n : Nat) (h : n < 256) : (UInt8.ofNat n).toNat = n := by simp; omega
theorem at_more {l : List UInt8} {ls : List (List UInt8)} {t : List UInt8} (hok : ∀ x ∈ ls, okLabel x = true) (hl : l = wire ls ++ 0 :: t) (k : Nat) (hk : k ≤ ls.length) {p : Nat} (hp : p = (wire (ls.take k)).length) (c : UInt8) (hc : l[p]? = some c) :
    (k = ls.length ∧ c = 0) ∨ ∃ x, ls[k]? = some x ∧ c.toNat = x.length ∧ 1 ≤ x.length := by
  rw [at_head hl k hk hp] at hc
  rcases Nat.lt_or_ge k ls.length with h | h
  · right
    refine ⟨ls[k], List.getElem?_eq_getElem h, ?_⟩
    rw [List.drop_eq_getElem_cons h, wire_cons] at hc
    simp only [List.cons_append, List.getElem?_cons_zero, Option.some.injEq] at hc
    have h2 := okLabel_len (hok _ (List.getElem_mem h))
    rw [← hc, ofNat_small _ (by omega)]
    exact ⟨rfl, h2.1⟩
  · left
    rw [List.drop_eq_nil_of_le h] at hc
    simp [wire] at hc
    exact ⟨by omega, hc.symm⟩
theorem At.next {l : List UInt8} {p : Nat} (h : At l p) (c : UInt8) (hc : l[p]? = some c) (h0 : c ≠ 0) : At l (p + 1 + c.toNat) := by
  intro ls t hok hl
  obtain ⟨k, hk, hp⟩ := h ls t hok hl
  rcases at_more hok hl k hk hp c hc with ⟨_, h1⟩ | ⟨x, hx, hcx, _⟩
  · exact absurd h1 h0
  · have hlt := (List.getElem?_eq_some_iff.1 hx).1
    refine ⟨k + 1, by omega, ?_⟩
    have hx2 : ls[k] = x := (List.getElem?_eq_some_iff.1 hx).2
    rw [List.take_succ_eq_append_getElem hlt, wire_append, hx2, List.length_append, ← hp, hcx]
    simp [wire]; omega
theorem At.stop {l : List UInt8} {p : Nat} (h : At l p) (hc : l[p]? = some 0) (n t : List UInt8) (hn : IsCut l n t) : n = l.take p ∧ t = l.drop (p + 1) := by
  obtain ⟨ls, rfl, hok, _⟩ := mayL_wire hn.1
  obtain ⟨k, hk, hp⟩ := h ls t hok hn.2
  rcases at_more hok hn.2 k hk hp 0 hc with ⟨h1, _⟩ | ⟨x, hx, hcx, h1⟩
  · have h2 : ls.take k = ls := by rw [h1, List.take_length]
    rw [h2] at hp
    rw [hn.2, hp]
    constructor
    · simp
    · rw [List.drop_append, List.drop_eq_nil_of_le (by omega)]; simp
  · simp at hcx; omega
theorem At.over {l : List UInt8} {p : Nat} (h : At l p) (hp : l.length ≤ p) (n t : List UInt8) (hn : IsCut l n t) : False := by
  obtain ⟨ls, rfl, hok, _⟩ := mayL_wire hn.1
  obtain ⟨k, hk, hpk⟩ := h ls t hok hn.2
  have h1 : (wire ls).length = (wire (ls.take k)).length + (wire (ls.drop k)).length := by rw [← List.length_append, ← wire_append, List.take_append_drop]
  have h2 : l.length = (wire ls).length + (t.length + 1) := by rw [hn.2]; simp
  omega
theorem cut_here {l : List UInt8} {p : Nat} (hc : l[p]? = some 0) (hm : mayL (l.take p)) : IsCut l (l.take p) (l.drop (p + 1)) := by
  refine ⟨hm, ?_⟩
  obtain ⟨hp, hz⟩ := List.getElem?_eq_some_iff.1 hc
  conv => lhs; rw [← List.take_append_drop p l, List.drop_eq_getElem_cons hp, hz]
theorem At.one {l n t n' t' : List UInt8} (h : IsCut l n t) (h' : IsCut l n' t') : n = n' ∧ t = t' := by
  obtain ⟨ls, rfl, hok, _⟩ := mayL_wire h.1
  obtain ⟨ls', rfl, hok', _⟩ := mayL_wire h'.1
  suffices ∀ (a b : List (List UInt8)), (∀ x ∈ a, okLabel x = true) → (∀ x ∈ b, okLabel x = true) → wire a ++ 0 :: t = wire b ++ 0 :: t' → wire a = wire b ∧ t = t' from this _ _ hok hok' (h.2.symm.trans h'.2)
  intro a
  induction a with
  | nil =>
    intro b _ hb he
    cases b with
    | nil => simp [wire] at he; exact ⟨rfl, he⟩
    | cons y b =>
      have h1 := okLabel_len (hb y (by simp))
      rw [wire_cons] at he
      simp [wire] at he
      have h2 := congrArg UInt8.toNat he.1
      simp at h2; omega
  | cons x a ih =>
    intro b ha hb he
    have h1 := okLabel_len (ha x (by simp))
    cases b with
    | nil =>
      rw [wire_cons] at he
      simp [wire] at he
      have h2 := congrArg UInt8.toNat he.1
      simp at h2; omega
    | cons y b =>
      have h2 := okLabel_len (hb y (by simp))
      rw [wire_cons, wire_cons] at he
      simp only [List.cons_append, List.cons.injEq, List.append_assoc] at he
      have h3 := congrArg UInt8.toNat he.1
      rw [ofNat_small _ (by omega), ofNat_small _ (by omega)] at h3
      have h4 := List.append_inj he.2 h3
      obtain ⟨h5, h6⟩ := ih b (fun z hz => ha z (by simp [hz])) (fun z hz => hb z (by simp [hz])) h4.2
      rw [wire_cons, wire_cons, h5, h4.1]
      exact ⟨rfl, h6⟩
/-- The data of an SOA: two names, and twenty bytes. -/
def IsSoa (l a b t : List UInt8) : Prop := IsCut l a (b ++ 0 :: t) ∧ mayL b ∧ t.length = 20
theorem IsSoa.one {l a b t a' b' t' : List UInt8} (h : IsSoa l a b t) (h' : IsSoa l a' b' t') : a = a' ∧ b = b' ∧ t = t' := by
  obtain ⟨h1, h2⟩ := At.one h.1 h'.1
  obtain ⟨h3, h4⟩ := At.one (l := b ++ 0 :: t) ⟨h.2.1, rfl⟩ ⟨h'.2.1, h2⟩
  exact ⟨h1, h3, h4⟩
end Go.Proofs.Ytliofipccicnfaa
