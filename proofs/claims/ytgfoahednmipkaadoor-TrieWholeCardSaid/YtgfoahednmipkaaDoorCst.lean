/- A region that draws its order, makes one call that turns the world and writes once, behind all else. It speaks of no program. -/
import Derived.Test.YtgfoahednmipkaaDoorReg8
namespace Go.Proofs.YtgfoahednmipkaaDoor
open Go.RowKit
set_option linter.unusedVariables false
/-- Operation K is the call, operation S the store, behind all others. -/
def CallSt (K S : Nat) (Pre : World → Prop) (Mid : Value → World → Prop) (Fin : World → Prop) : (Nat → Bool) → (Nat → Value) → World → Prop := fun d x w =>
  (d S = false ∧ ((d K = false ∧ Pre w) ∨ (d K = true ∧ Mid (x K) w))) ∨ (d S = true ∧ (∀ i, i < S → d i = true) ∧ Fin w)
section
variable {K S : Nat} {Pre : World → Prop} {Mid : Value → World → Prop} {Fin : World → Prop} {d : Nat → Bool} {x : Nat → Value} {w w' : World}
theorem CallSt.start (h : Pre w) : CallSt K S Pre Mid Fin (fun _ => false) x w := .inl ⟨rfl, .inl ⟨rfl, h⟩⟩
theorem CallSt.plain (h : CallSt K S Pre Mid Fin d x w) {i : Nat} (v : Value) (hd : d i = false) (hi : i < S) (hK : i ≠ K) : CallSt K S Pre Mid Fin (setD d i) (fun j => if j = i then v else x j) w := by
  rcases h with ⟨h1, h2⟩ | ⟨h1, h2, h3⟩
  · refine .inl ⟨by rw [setD_ne d (by omega)]; exact h1, ?_⟩
    rw [setD_ne d (Ne.symm hK)]
    rcases h2 with h2 | ⟨h2, h3⟩
    · exact .inl h2
    · exact .inr ⟨h2, by show Mid (if K = i then v else x K) w; rw [if_neg (Ne.symm hK)]; exact h3⟩
  · rw [h2 i hi] at hd; cases hd
theorem CallSt.has (h : CallSt K S Pre Mid Fin d x w) {i : Nat} (hd : d i = false) (hi : i < S) : Pre w ∨ Mid (x K) w := by
  rcases h with ⟨h1, h2⟩ | ⟨h1, h2, h3⟩
  · rcases h2 with ⟨_, h2⟩ | ⟨_, h3⟩
    · exact .inl h2
    · exact .inr h3
  · rw [h2 i hi] at hd; cases hd
theorem CallSt.pre (h : CallSt K S Pre Mid Fin d x w) (hd : d K = false) (hK : K < S) : Pre w := by
  rcases h with ⟨h1, h2⟩ | ⟨h1, h2, h3⟩
  · rcases h2 with ⟨_, h2⟩ | ⟨h2, _⟩
    · exact h2
    · rw [hd] at h2; cases h2
  · rw [h2 K hK] at hd; cases hd
theorem CallSt.mid (h : CallSt K S Pre Mid Fin d x w) (hd : d S = false) (hK : d K = true) : Mid (x K) w := by
  rcases h with ⟨h1, h2⟩ | ⟨h1, h2, h3⟩
  · rcases h2 with ⟨h2, _⟩ | ⟨_, h2⟩
    · rw [hK] at h2; cases h2
    · exact h2
  · rw [hd] at h1; cases h1
theorem CallSt.call (h : CallSt K S Pre Mid Fin d x w) (hd : d K = false) (hK : K < S) {v : Value} (hm : Mid v w') : CallSt K S Pre Mid Fin (setD d K) (fun j => if j = K then v else x j) w' := by
  rcases h with ⟨h1, h2⟩ | ⟨h1, h2, h3⟩
  · exact .inl ⟨by rw [setD_ne d (by omega)]; exact h1, .inr ⟨setD_self d K, by show Mid (if K = K then v else x K) w'; rw [if_pos rfl]; exact hm⟩⟩
  · rw [h2 K hK] at hd; cases hd
theorem CallSt.store (hall : ∀ i, i < S → d i = true) (v : Value) (hf : Fin w') : CallSt K S Pre Mid Fin (setD d S) (fun j => if j = S then v else x j) w' :=
  .inr ⟨setD_self d S, fun i hi => setD_le d S i (hall i hi), hf⟩
theorem CallSt.fin (h : CallSt K S Pre Mid Fin d x w) (hd : d S = true) : Fin w := by
  rcases h with ⟨h1, _⟩ | ⟨_, _, h3⟩
  · rw [hd] at h1; cases h1
  · exact h3
end
/-- Nothing is said of a slot. -/
def anyX : WordX := fun _ _ _ => True
theorem anyX_stays : StaysX anyX := fun _ _ _ _ _ _ _ _ => trivial
/-- A word that speaks of the value alone keeps. -/
theorem isX_keep {u : Value} {d d' : Nat → Bool} {v : Value} {w w' : World} (h : isX u d v w) : isX u d' v w' := h
end Go.Proofs.YtgfoahednmipkaaDoor
