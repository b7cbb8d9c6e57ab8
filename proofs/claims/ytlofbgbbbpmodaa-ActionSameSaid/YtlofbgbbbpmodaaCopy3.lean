/- 'd, e, f := a, a, a' of structs of four cells: three loads, three blocks, three stores, in whatever order. It speaks of no program. -/
import Derived.Test.YtlofbgbbbpmodaaReg7
import Derived.Test.YtlofbgbbbpmodaaCs
namespace Go.Proofs.Ytlofbgbbbpmodaa
open Go.RowKit
set_option linter.unusedVariables false
theorem Cs.set4 {w : World} {g : Nat} {a0 a1 a2 a3 : Value} (h : Cs w g [a0, a1, a2, a3]) (v0 v1 v2 v3 : Value) :
    Cs ((((w.setCell ⟨g, 0, none⟩ v0).setCell ⟨g, 1, none⟩ v1).setCell ⟨g, 2, none⟩ v2).setCell ⟨g, 3, none⟩ v3) g [v0, v1, v2, v3] :=
  (((h.set' 0 v0 (by simp)).set' 1 v1 (by simp)).set' 2 v2 (by simp)).set' 3 v3 (by simp)
theorem Cs.other4 {w : World} {b g : Nat} {l : List Value} (h : Cs w b l) (hg : g ≠ b) (v0 v1 v2 v3 : Value) :
    Cs ((((w.setCell ⟨g, 0, none⟩ v0).setCell ⟨g, 1, none⟩ v1).setCell ⟨g, 2, none⟩ v2).setCell ⟨g, 3, none⟩ v3) b l :=
  (((h.other g 0 v0 hg).other g 1 v1 hg).other g 2 v2 hg).other g 3 v3 hg
theorem setD_or (d : Nat → Bool) (i : Nat) : setD d i = fun j => decide (j = i) || d j := by
  funext j; unfold setD; by_cases h : j = i <;> simp [h]
/-- Three copies of a struct of four cells: what is done of it. -/
structure C3 (B : Nat) (W : World) (z0 z1 z2 z3 v0 v1 v2 v3 : Value) (d : Nat → Bool) (x : Nat → Value) (w : World) : Prop where
  bel : Below B W w
  base : B ≤ w.heap.size
  loads : ∀ i, i < 3 → d i = true → x i = .agg #[v0, v1, v2, v3]
  apart : Apart [3, 4, 5] d x w
  src : ∀ i, i < 3 → d (i + 6) = true → d (i + 3) = true
  boxes : ∀ i, i < 3 → d (i + 3) = true → ∃ g, x (i + 3) = .pointer (some ⟨g, 0, none⟩) ∧ B ≤ g ∧ (d (i + 6) = false → Cs w g [z0, z1, z2, z3]) ∧ (d (i + 6) = true → Cs w g [v0, v1, v2, v3])
section
variable {B : Nat} {W w : World} {z0 z1 z2 z3 v0 v1 v2 v3 : Value} {d : Nat → Bool} {x : Nat → Value}
theorem C3.start (hB : B ≤ w.heap.size) (h : Below B W w) (x : Nat → Value) : C3 B W z0 z1 z2 z3 v0 v1 v2 v3 (fun _ => false) x w :=
  ⟨h, hB, fun _ _ h => (by cases h), ⟨fun _ _ h => (by cases h), fun _ _ _ _ _ h => (by cases h)⟩, fun _ _ h => (by cases h), fun _ _ h => (by cases h)⟩
theorem C3.load (h : C3 B W z0 z1 z2 z3 v0 v1 v2 v3 d x w) (i : Nat) (hi : i < 3) (hd : d i = false) : C3 B W z0 z1 z2 z3 v0 v1 v2 v3 (setD d i) (fun j => if j = i then .agg #[v0, v1, v2, v3] else x j) w := by
  refine ⟨h.bel, h.base, fun k hk hdk => ?_, h.apart.next hd (Nat.le_refl _) (fun hc => by exfalso; have : i = 3 ∨ i = 4 ∨ i = 5 := (by simpa using hc); omega), fun k hk hdk => ?_, fun k hk hdk => ?_⟩
  · by_cases e : k = i
    · simp [e]
    · rw [setD_ne d e] at hdk
      simpa [e] using h.loads k hk hdk
  · rw [setD_ne d (by omega)] at hdk ⊢
    exact h.src k hk hdk
  · have e3 : k + 3 ≠ i := by omega
    have e6 : k + 6 ≠ i := by omega
    rw [setD_ne d e3] at hdk
    rw [setD_ne d e6]
    simpa [e3] using h.boxes k hk hdk
theorem C3.alloc (h : C3 B W z0 z1 z2 z3 v0 v1 v2 v3 d x w) (t : TypeId) (i : Nat) (hi : i < 3) (hd : d (i + 3) = false) :
    C3 B W z0 z1 z2 z3 v0 v1 v2 v3 (setD d (i + 3)) (fun j => if j = i + 3 then .pointer (some ⟨w.heap.size, 0, none⟩) else x j) (w.alloc (.cells #[z0, z1, z2, z3] t)) := by
  have hd6 : d (i + 6) = false := by
    cases e : d (i + 6) with
    | false => rfl
    | true => rw [h.src i hi e] at hd; cases hd
  refine ⟨h.bel.alloc h.base _, by have := h.base; simp; omega, fun k hk hdk => ?_, h.apart.next hd (by simp) (fun _ => ⟨rfl, by simp⟩), fun k hk hdk => ?_, fun k hk hdk => ?_⟩
  · have e : k ≠ i + 3 := by omega
    rw [setD_ne d e] at hdk
    simpa [e] using h.loads k hk hdk
  · rw [setD_ne d (by omega)] at hdk
    exact setD_le d _ _ (h.src k hk hdk)
  · have e6 : k + 6 ≠ i + 3 := by omega
    rw [setD_ne d e6]
    by_cases e : k = i
    · subst e
      exact ⟨_, by simp, h.base, fun _ => Cs.new _ _ _ _, fun hx => (by rw [hd6] at hx; cases hx)⟩
    · have e3 : k + 3 ≠ i + 3 := by omega
      rw [setD_ne d e3] at hdk
      obtain ⟨g, a1, a2, a3, a4⟩ := h.boxes k hk hdk
      have e3' : ¬ k = i := e
      exact ⟨g, by simpa [e3'] using a1, a2, fun q => (a3 q).alloc _, fun q => (a4 q).alloc _⟩
theorem C3.store (h : C3 B W z0 z1 z2 z3 v0 v1 v2 v3 d x w) (i : Nat) (hi : i < 3) (hd3 : d (i + 3) = true) (hd6 : d (i + 6) = false) (g : Nat) (hx : x (i + 3) = .pointer (some ⟨g, 0, none⟩)) (u : Value) :
    C3 B W z0 z1 z2 z3 v0 v1 v2 v3 (setD d (i + 6)) (fun j => if j = i + 6 then u else x j) ((((w.setCell ⟨g, 0, none⟩ v0).setCell ⟨g, 1, none⟩ v1).setCell ⟨g, 2, none⟩ v2).setCell ⟨g, 3, none⟩ v3) := by
  obtain ⟨g', b1, b2, b3, b4⟩ := h.boxes i hi hd3
  have hgg : g' = g := by rw [hx] at b1; injection b1 with b1; injection b1 with b1; injection b1 with b1; exact b1.symm
  subst hgg
  refine ⟨?_, by simpa using h.base, fun k hk hdk => ?_, h.apart.next hd6 (by simp) (fun hc => by exfalso; simp at hc), fun k hk hdk => ?_, fun k hk hdk => ?_⟩
  · iterate 4 (refine Below.setCell ?_ b2 _)
    exact h.bel
  · have e : k ≠ i + 6 := by omega
    rw [setD_ne d e] at hdk
    simpa [e] using h.loads k hk hdk
  · by_cases e : k = i
    · subst e; exact setD_le d _ _ hd3
    · rw [setD_ne d (by omega)] at hdk
      exact setD_le d _ _ (h.src k hk hdk)
  · have e3 : k + 3 ≠ i + 6 := by omega
    rw [setD_ne d e3] at hdk
    by_cases e : k = i
    · subst e
      exact ⟨g', by simpa [e3] using b1, b2, fun q => (by rw [setD_self] at q; cases q), fun _ => (b3 hd6).set4 _ _ _ _⟩
    · have e6 : k + 6 ≠ i + 6 := by omega
      rw [setD_ne d e6]
      obtain ⟨g, a1, a2, a3, a4⟩ := h.boxes k hk hdk
      have hne : g' ≠ g := by
        rintro rfl
        have hm : ∀ q, q < 3 → q + 3 ∈ [3, 4, 5] := fun q hq => by have : q = 0 ∨ q = 1 ∨ q = 2 := by omega
                                                                   rcases this with rfl | rfl | rfl <;> simp
        exact h.apart.2 (k + 3) (hm k hk) (i + 3) (hm i hi) (by omega) hdk hd3 (by rw [a1, b1])
      exact ⟨g, by show (if k + 3 = i + 6 then u else x (k + 3)) = _; rw [if_neg e3]; exact a1, a2, fun q => (a3 q).other4 hne _ _ _ _, fun q => (a4 q).other4 hne _ _ _ _⟩
theorem C3.dec {i : Nat} (h : C3 B W z0 z1 z2 z3 v0 v1 v2 v3 (setD d i) x w) : C3 B W z0 z1 z2 z3 v0 v1 v2 v3 (fun j => decide (j = i) || d j) x w := by rw [← setD_or]; exact h
theorem C3.done (h : C3 B W z0 z1 z2 z3 v0 v1 v2 v3 d x w) (hd : ∀ i, i < 9 → d i = true) :
    ∃ a b c, x 3 = .pointer (some ⟨a, 0, none⟩) ∧ x 4 = .pointer (some ⟨b, 0, none⟩) ∧ x 5 = .pointer (some ⟨c, 0, none⟩) ∧ (a ≠ b ∧ a ≠ c ∧ b ≠ c) ∧ (B ≤ a ∧ B ≤ b ∧ B ≤ c) ∧ Cs w a [v0, v1, v2, v3] ∧ Cs w b [v0, v1, v2, v3] ∧ Cs w c [v0, v1, v2, v3] := by
  obtain ⟨a, a1, a2, -, a4⟩ := h.boxes 0 (by decide) (hd 3 (by decide))
  obtain ⟨b, b1, b2, -, b4⟩ := h.boxes 1 (by decide) (hd 4 (by decide))
  obtain ⟨c, c1, c2, -, c4⟩ := h.boxes 2 (by decide) (hd 5 (by decide))
  have ap := h.apart.2
  refine ⟨a, b, c, a1, b1, c1, ⟨?_, ?_, ?_⟩, ⟨a2, b2, c2⟩, a4 (hd 6 (by decide)), b4 (hd 7 (by decide)), c4 (hd 8 (by decide))⟩
  · rintro rfl; exact ap 3 (by simp) 4 (by simp) (by decide) (hd 3 (by decide)) (hd 4 (by decide)) (by rw [a1, b1])
  · rintro rfl; exact ap 3 (by simp) 5 (by simp) (by decide) (hd 3 (by decide)) (hd 5 (by decide)) (by rw [a1, c1])
  · rintro rfl; exact ap 4 (by simp) 5 (by simp) (by decide) (hd 4 (by decide)) (hd 5 (by decide)) (by rw [b1, c1])
end
end Go.Proofs.Ytlofbgbbbpmodaa
