/- The frames that stand ahead of a place. It speaks of no program. -/
import Derived.Test.YtidpffgdndjgpaaDoorFrames
namespace Go.Proofs.YtidpffgdndjgpaaDoor
open Go.RowKit
set_option linter.unusedVariables false
set_option linter.unusedSimpArgs false
/-- The frames that stand ahead of a place. -/
def Ahead (l : List UInt8) (p : Nat) (xs : List (List UInt8)) : Prop := p ≤ l.length ∧ l = xs.flatMap frameL ++ l.drop p ∧ ∀ x ∈ xs, x.length ≤ 600
theorem Ahead.start (l : List UInt8) : Ahead l 0 [] := ⟨Nat.zero_le _, by simp, by simp⟩
theorem Ahead.next {l : List UInt8} {p m : Nat} {xs : List (List UInt8)} (h : Ahead l p xs) (hf : firstL (l.drop p) = some m) : p + m + 6 ≤ l.length ∧ Ahead l (p + m + 6) (xs ++ [((l.drop (p + 4)).take m)]) := by
  obtain ⟨h1, h2, h3⟩ := firstL_some hf
  have hl : (l.drop p).length = l.length - p := by simp
  have hp := h.1
  refine ⟨by omega, by omega, ?_, ?_⟩
  · rw [List.drop_drop, List.drop_drop] at h3
    have e1 : (l.drop (p + 4)).take m = (l.drop (p + 4)).take m := rfl
    rw [List.flatMap_append, List.flatMap_cons, List.flatMap_nil, List.append_nil, List.append_assoc, show p + m + 6 = p + (m + 6) by omega, ← h3]
    exact h.2.1
  · intro x hx
    rcases List.mem_append.1 hx with hx | hx
    · exact h.2.2 x hx
    · simp at hx; subst hx; simp; omega
theorem Ahead.same : ∀ {xs ys : List (List UInt8)} {t u : List UInt8}, (∀ x ∈ xs, x.length ≤ 600) → (∀ y ∈ ys, y.length ≤ 600) → firstL t = none → firstL u = none → xs.flatMap frameL ++ t = ys.flatMap frameL ++ u → xs = ys
  | [], [], _, _, _, _, _, _, _ => rfl
  | [], y :: ys, t, u, _, hy, ht, _, h => by
    simp only [List.flatMap_nil, List.nil_append, List.flatMap_cons, List.append_assoc] at h
    rw [h, firstL_frame y _ (hy y (by simp))] at ht; cases ht
  | x :: xs, [], t, u, hx, _, _, hu, h => by
    simp only [List.flatMap_nil, List.nil_append, List.flatMap_cons, List.append_assoc] at h
    rw [← h, firstL_frame x _ (hx x (by simp))] at hu; cases hu
  | x :: xs, y :: ys, t, u, hx, hy, ht, hu, h => by
    simp only [List.flatMap_cons, List.append_assoc] at h
    have e1 := firstL_frame x (xs.flatMap frameL ++ t) (hx x (by simp))
    rw [h, firstL_frame y _ (hy y (by simp))] at e1
    have hl : x.length = y.length := by simpa using e1.symm
    obtain ⟨e2, e3⟩ := List.append_inj h (by rw [frameL_length, frameL_length, hl])
    have e4 : x = y := by
      unfold frameL at e2
      rw [List.append_assoc, List.append_assoc, List.append_assoc, List.append_assoc] at e2
      have a1 := (List.append_inj e2 (by simp [w16_length])).2
      have a2 := (List.append_inj a1 (by simp [w16_length])).2
      exact (List.append_inj a2 hl).1
    rw [e4, Ahead.same (fun z hz => hx z (by simp [hz])) (fun z hz => hy z (by simp [hz])) ht hu e3]
end Go.Proofs.YtidpffgdndjgpaaDoor
