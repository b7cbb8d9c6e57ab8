/- A scope whose label is jumped back to, each jump with a number that falls. It speaks of no program. -/
import Derived.Test.YtliofipccicnfaaBase
import Derived.ScopeJumps
import Derived.WalkMore
namespace Go.Proofs.Ytliofipccicnfaa
open Go.RowKit
set_option linter.unusedVariables false
theorem least_num {p : Nat → Prop} (h : ∃ n, p n) : ∃ k, p k ∧ ∀ m, p m → k ≤ m := by
  obtain ⟨n, hn⟩ := h
  induction n using Nat.strongRecOn with
  | _ n ih =>
    by_cases hx : ∃ m, p m ∧ m < n
    · obtain ⟨m, hm, hlt⟩ := hx
      exact ih m hlt hm
    · exact ⟨n, hn, fun m hm => Nat.le_of_not_lt fun hlt => hx ⟨m, hm, hlt⟩⟩
open Classical in
theorem wp_scope_count {P : Program} {a : Act} {w : World} {Q : Exit → Act → World → Prop} {c rest : Code} (l : Nat) (J : Nat → Act → World → Prop) (hf : findLabel c l = some rest)
    (first : c.wp P (Exit.jump l (fun a w => ∃ n, J n a w) Q) a w)
    (pass : ∀ n a w, J n a w → rest.wp P (Exit.jump l (fun a' w' => ∃ m, m < n ∧ J m a' w') Q) a w) : (Code.scope c).wp P Q a w := by
  refine wp_scope_jumps l (fun a w => ∃ n, J n a w) (fun a w => if h : ∃ n, J n a w then Classical.choose (least_num h) else 0) hf first ?_
  intro a w hJ
  have hs := Classical.choose_spec (least_num hJ)
  simp only [dif_pos hJ]
  generalize Classical.choose (least_num hJ) = k at hs
  refine Code.wp_mono ?_ (pass k a w hs.1)
  intro e a' w' h
  cases e with
  | goto l' =>
    obtain ⟨h1, m, h2, h3⟩ := h
    have hx : ∃ n, J n a' w' := ⟨m, h3⟩
    refine ⟨h1, hx, ?_⟩
    rw [dif_pos hx]
    exact Nat.lt_of_le_of_lt ((Classical.choose_spec (least_num hx)).2 m h3) h2
  | normal => exact h
  | exit id => exact h
  | ret => exact h
  | panic ch => exact h
  | outgrown => exact h
theorem jump_back {l : Nat} {J : Act → World → Prop} {Q : Exit → Act → World → Prop} {a : Act} {w : World} : Exit.jump l J Q .ret a w = Q .ret a w := rfl
end Go.Proofs.Ytliofipccicnfaa
