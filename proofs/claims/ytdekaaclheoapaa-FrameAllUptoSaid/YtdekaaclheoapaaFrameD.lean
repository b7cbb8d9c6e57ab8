/- The contract of frame.All in general. -/
import Derived.Test.YtdekaaclheoapaaFrameB
import Derived.Test.YtdekaaclheoapaaLawFrame
namespace Go.Proofs.Ytdekaaclheoapaa
open Go.RowKit
set_option linter.unusedVariables false
set_option linter.unusedSimpArgs false
set_option maxRecDepth 20000

/-- Bytes that lie in a block from C on, below the heap's end. -/
def RowIn (C : Nat) (w : World) (v : Value) (l : List UInt8) : Prop := ∃ A n c, v = .slice A n c ∧ Txt w A n l ∧ ∀ a, A = some a → C ≤ a.block ∧ a.block < w.heap.size
/-- Each value is the bytes of its list, in a block of its own that is not this one. -/
def RowsIn (w : World) (own : Option Nat) : List Value → List (List UInt8) → Prop
  | [], [] => True
  | v :: vs, l :: ls => (∃ A n c, v = .slice A n c ∧ Txt w A n l ∧ ∀ a, A = some a → a.block < w.heap.size ∧ some a.block ≠ own) ∧ RowsIn w own vs ls
  | _, _ => False
theorem RowsIn.len {w : World} {own : Option Nat} : ∀ {vs : List Value} {ls : List (List UInt8)}, RowsIn w own vs ls → vs.length = ls.length
  | [], [], _ => rfl
  | v :: vs, l :: ls, h => by simp [RowsIn.len h.2]
  | [], _ :: _, h => by cases h
  | _ :: _, [], h => by cases h
theorem Txt.block {w w' : World} {A : Option Addr} {n : Nat} {l : List UInt8} (h : Txt w A n l) (hb : ∀ a, A = some a → w'.heap[a.block]? = w.heap[a.block]?) (hs : w.heap.size ≤ w'.heap.size) : Txt w' A n l := by
  refine ⟨⟨h.1.1, fun hn => ?_⟩, h.2⟩
  obtain ⟨b, off, e, hlt, hc⟩ := h.1.2 hn
  refine ⟨b, off, e, Nat.lt_of_lt_of_le hlt hs, fun j u hu => ?_⟩
  rw [World.cell?_of_block (w := w) (a := ⟨b, off + j, none⟩) (show w'.heap[b]? = w.heap[b]? from hb ⟨b, off, none⟩ e)]
  exact hc j u hu
theorem RowsIn.keep {w w' : World} {own own' : Option Nat} (hs : w.heap.size ≤ w'.heap.size) (hk : ∀ k, k < w.heap.size → some k ≠ own → w'.heap[k]? = w.heap[k]?) (ho : ∀ k, k < w.heap.size → some k ≠ own → some k ≠ own') :
    ∀ {vs : List Value} {ls : List (List UInt8)}, RowsIn w own vs ls → RowsIn w' own' vs ls
  | [], [], _ => trivial
  | v :: vs, l :: ls, ⟨⟨A, n, c, e, ht, hb⟩, h2⟩ => ⟨⟨A, n, c, e, ht.block (fun a ha => hk _ (hb a ha).1 (hb a ha).2) hs, fun a ha => ⟨Nat.lt_of_lt_of_le (hb a ha).1 hs, ho _ (hb a ha).1 (hb a ha).2⟩⟩, RowsIn.keep hs hk ho h2⟩
  | [], _ :: _, h => by cases h
  | _ :: _, [], h => by cases h
theorem RowsIn.snoc {w : World} {own : Option Nat} : ∀ {vs : List Value} {ls : List (List UInt8)} {v : Value} {l : List UInt8}, RowsIn w own vs ls → (∃ A n c, v = .slice A n c ∧ Txt w A n l ∧ ∀ a, A = some a → a.block < w.heap.size ∧ some a.block ≠ own) → RowsIn w own (vs ++ [v]) (ls ++ [l])
  | [], [], _, _, _, h => ⟨h, trivial⟩
  | _ :: vs, _ :: ls, _, _, ⟨h1, h2⟩, h => ⟨h1, RowsIn.snoc h2 h⟩
  | [], _ :: _, _, _, h, _ => by cases h
  | _ :: _, [], _, _, h, _ => by cases h
theorem RowsIn.get {w : World} {own : Option Nat} : ∀ {vs : List Value} {ls : List (List UInt8)} (j : Nat) (hj : j < ls.length), RowsIn w own vs ls → ∃ A n c, vs[j]? = some (.slice A n c) ∧ Txt w A n ls[j]
  | [], [], j, hj, _ => by simp at hj
  | v :: vs, l :: ls, 0, _, ⟨⟨A, n, c, e, ht, _⟩, _⟩ => ⟨A, n, c, by simp [e], ht⟩
  | v :: vs, l :: ls, j + 1, hj, ⟨_, h⟩ => by
    obtain ⟨A, n, c, e, ht⟩ := RowsIn.get j (by simpa using hj) h
    exact ⟨A, n, c, by simpa using e, by simpa using ht⟩
  | [], _ :: _, _, _, h => by cases h
  | _ :: _, [], _, _, h => by cases h
/-- The frames that stand ahead of a place. -/
def Ahead (l : List UInt8) (p : Nat) (xs : List (List UInt8)) : Prop := p ≤ l.length ∧ l = xs.flatMap frameL ++ l.drop p ∧ ∀ x ∈ xs, x.length ≤ 600
theorem Ahead.start (l : List UInt8) : Ahead l 0 [] := ⟨Nat.zero_le _, by simp, by simp⟩
theorem Ahead.next {l : List UInt8} {p m : Nat} {xs : List (List UInt8)} (h : Ahead l p xs) (hf : firstL (l.drop p) = some m) : p + m + 6 ≤ l.length ∧ Ahead l (p + m + 6) (xs ++ [((l.drop (p + 4)).take m)]) := by
  obtain ⟨h1, h2, h3⟩ := firstL_some hf
  have hl : (l.drop p).length = l.length - p := by simp
  have hp := h.1
  refine ⟨by omega, by omega, ?_, ?_⟩
  · rw [List.drop_drop, List.drop_drop] at h3
    have e1 : (l.drop (p + 4)).take m = (l.drop (p + 4)).take m := rfl
    rw [List.flatMap_append, List.flatMap_cons, List.flatMap_nil, List.append_nil, List.append_assoc, show p + m + 6 = p + (m + 6) by omega, ← h3]
    exact h.2.1
  · intro x hx
    rcases List.mem_append.1 hx with hx | hx
    · exact h.2.2 x hx
    · simp at hx; subst hx; simp; omega
theorem Ahead.same : ∀ {xs ys : List (List UInt8)} {t u : List UInt8}, (∀ x ∈ xs, x.length ≤ 600) → (∀ y ∈ ys, y.length ≤ 600) → firstL t = none → firstL u = none → xs.flatMap frameL ++ t = ys.flatMap frameL ++ u → xs = ys
  | [], [], _, _, _, _, _, _, _ => rfl
  | [], y :: ys, t, u, _, hy, ht, _, h => by
    simp only [List.flatMap_nil, List.nil_append, List.flatMap_cons, List.append_assoc] at h
    rw [h, firstL_frame y _ (hy y (by simp))] at ht; cases ht
  | x :: xs, [], t, u, hx, _, _, hu, h => by
    simp only [List.flatMap_nil, List.nil_append, List.flatMap_cons, List.append_assoc] at h
    rw [← h, firstL_frame x _ (hx x (by simp))] at hu; cases hu
  | x :: xs, y :: ys, t, u, hx, hy, ht, hu, h => by
    simp only [List.flatMap_cons, List.append_assoc] at h
    have e1 := firstL_frame x (xs.flatMap frameL ++ t) (hx x (by simp))
    rw [h, firstL_frame y _ (hy y (by simp))] at e1
    have hl : x.length = y.length := by simpa using e1.symm
    obtain ⟨e2, e3⟩ := List.append_inj h (by rw [frameL_length, frameL_length, hl])
    have e4 : x = y := by
      unfold frameL at e2
      rw [List.append_assoc, List.append_assoc, List.append_assoc, List.append_assoc] at e2
      have a1 := (List.append_inj e2 (by simp [w16_length])).2
      have a2 := (List.append_inj a1 (by simp [w16_length])).2
      exact (List.append_inj a2 hl).1
    rw [e4, Ahead.same (fun z hz => hx z (by simp [hz])) (fun z hz => hy z (by simp [hz])) ht hu e3]
theorem clone_fresh (A : Option Addr) (n c : Nat) (l : List UInt8) (w : World) (h : Sl w w.heap.size 1 A n (l.map bv)) (hA0 : A = none → n = 0) (hn : n ≤ 140737488355328) :
    Calls Try.prog 65 #[.slice A n c] w fun e w' => ∃ v, e = .returned v ∧ RowIn w.heap.size w' v l ∧ Below w.heap.size w w' := by
  have hl : l.length = n := by simpa using h.1
  cases A with
  | none =>
    obtain rfl := hA0 rfl
    obtain rfl : l = [] := List.eq_nil_of_length_eq_zero hl
    refine (Try.bytes_Clone_nil 0 c w).mono ?_
    rintro e w' ⟨rfl, rfl⟩
    exact ⟨_, rfl, ⟨none, 0, 0, rfl, ⟨Sl.nil _ _ _ _, fun _ => rfl⟩, fun a h => by cases h⟩, Below.refl _ _⟩
  | some a =>
    refine (Try.bytes_Clone_at a n c (l.map fun b => (b.toNat : Int)) w (by simpa using hl) hn ?_).mono ?_
    · intro i hi
      refine h.cells_at a rfl i _ ?_
      rw [← bvi, List.getElem?_map, List.getD, List.getElem?_eq_getElem (by simp; omega)]
      rfl
    · rintro e w' ⟨v, rfl, ho, hne, hb⟩
      rw [bvi] at ho
      refine ⟨v, rfl, ?_, hb⟩
      rcases id ho with ⟨_, ⟨hv, _⟩ | ⟨g, cap, cur, hv, hg, hgg, _⟩⟩
      · exact absurd hv hne
      · subst hv
        refine ⟨_, _, _, rfl, Txt.of_own ho, fun a ha => ?_⟩
        injection ha with ha
        subst ha
        exact ⟨hg, (Array.getElem?_eq_some_iff.1 hgg).1⟩
end Go.Proofs.Ytdekaaclheoapaa
