/- A scope whose label is jumped back to at most so many times: pass by pass. It speaks of no program. -/
import Derived.Test.YtliofipccicnfaaBase
import Derived.ScopeJumps
import Derived.WalkMore
namespace Go.Proofs.Ytliofipccicnfaa
open Go.RowKit
set_option linter.unusedVariables false
/-- From the label on the run ends in Q, with fewer than n jumps more. -/
def Jn (P : Program) (rest : Code) (l : Nat) (Q : Exit → Act → World → Prop) : Nat → Act → World → Prop
  | 0 => fun _ _ => False
  | n + 1 => fun a w => rest.wp P (Exit.jump l (Jn P rest l Q n) Q) a w
theorem least_of {p : Nat → Prop} (h : ∃ n, p n) : ∃ k, p k ∧ ∀ m, p m → k ≤ m := by
  obtain ⟨n, hn⟩ := h
  induction n using Nat.strongRecOn with
  | _ n ih =>
    by_cases hx : ∃ m, p m ∧ m < n
    · obtain ⟨m, hm, hlt⟩ := hx
      exact ih m hlt hm
    · exact ⟨n, hn, fun m hm => Nat.le_of_not_lt fun hlt => hx ⟨m, hm, hlt⟩⟩
open Classical in
theorem wp_scope_unroll {P : Program} {a : Act} {w : World} {Q : Exit → Act → World → Prop} {c rest : Code} (n : Nat) (l : Nat) (hf : findLabel c l = some rest)
    (first : c.wp P (Exit.jump l (Jn P rest l Q n) Q) a w) : (Code.scope c).wp P Q a w := by
  refine wp_scope_jumps l (fun a w => ∃ n, Jn P rest l Q n a w) (fun a w => if h : ∃ n, Jn P rest l Q n a w then Classical.choose (least_of h) else 0) hf ?_ ?_
  · refine Code.wp_mono ?_ first
    intro e a' w' h
    cases e with
    | goto l' => exact ⟨h.1, n, h.2⟩
    | normal => exact h
    | exit id => exact h
    | ret => exact h
    | panic ch => exact h
    | outgrown => exact h
  · intro a w hJ
    have hs := Classical.choose_spec (least_of hJ)
    simp only [dif_pos hJ]
    generalize Classical.choose (least_of hJ) = k at hs
    obtain ⟨hs, hm⟩ := hs
    match k, hs with
    | k + 1, hs =>
      refine Code.wp_mono ?_ hs
      intro e a' w' h
      cases e with
      | goto l' =>
        refine ⟨h.1, ⟨k, h.2⟩, ?_⟩
        have hx : ∃ n, Jn P rest l Q n a' w' := ⟨k, h.2⟩
        rw [dif_pos hx]
        exact Nat.lt_succ_of_le ((Classical.choose_spec (least_of hx)).2 k h.2)
      | normal => exact h
      | exit id => exact h
      | ret => exact h
      | panic ch => exact h
      | outgrown => exact h
theorem jump_ret {l : Nat} {J : Act → World → Prop} {Q : Exit → Act → World → Prop} {a : Act} {w : World} : Exit.jump l J Q .ret a w = Q .ret a w := rfl
end Go.Proofs.Ytliofipccicnfaa
