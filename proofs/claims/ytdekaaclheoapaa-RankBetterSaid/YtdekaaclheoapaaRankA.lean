/- The contracts of layer 18: whole floats in order, Better, First. -/
import Derived.Test.YtdekaaclheoapaaRows
import Derived.Test.YtdekaaclheoapaaOb
import Derived.Test.YtdekaaclheoapaaView
import Derived.WalkLawsBesides
import Derived.Deep.DeepCutAuto
import Derived.Outline
namespace Go.Proofs.Ytdekaaclheoapaa
open Go.RowKit
set_option linter.unusedVariables false

/-- A whole number as a float. -/
def fl (n : Nat) : Nat := floatOfInt .f64 (n : Int)
theorem fl_order8 (a c : Nat) (ha : a < 8) (hc : c < 8) : FloatKind.f64.format.order (fl a) (fl c) = some (compare a c) := by
  have h : ∀ i j : Fin 8, FloatKind.f64.format.order (fl i.val) (fl j.val) = some (compare i.val j.val) := by decide +kernel
  exact h ⟨a, ha⟩ ⟨c, hc⟩
/-- A rank of small numbers. -/
def cx (k : Nat) : Value := .complex .f64 (fl (k / 8)) (fl (k % 8))
theorem better_cx (j k : Nat) (hj : j < 64) (hk : k < 64) (w : World) :
    Calls Try.prog 32 #[cx j, cx k] w fun e w' => e = .returned (.bool (decide (j < k))) ∧ w = w' := by
  have h1 := fl_order8 (j / 8) (k / 8) (by omega) (by omega)
  have h2 := fl_order8 (j % 8) (k % 8) (by omega) (by omega)
  unfold cx
  generalize fl (j / 8) = a at *
  generalize fl (k / 8) = b at *
  generalize fl (j % 8) = c at *
  generalize fl (k % 8) = d at *
  rcases Nat.lt_trichotomy (j / 8) (k / 8) with h | h | h
  · rw [Nat.compare_eq_lt.2 h] at h1
    have hr : decide (j < k) = true := by simp; omega
    rw [hr]
    clear hr h h2
    go_enter Try.func32, Try.ntmps32
    go_wp2_with fail
    go_ret
    exact ⟨rfl, rfl⟩
  · rw [Nat.compare_eq_eq.2 h] at h1
    rcases Nat.lt_trichotomy (j % 8) (k % 8) with g | g | g
    · rw [Nat.compare_eq_lt.2 g] at h2
      have hr : decide (j < k) = true := by simp; omega
      rw [hr]
      clear hr h g
      go_enter Try.func32, Try.ntmps32
      go_wp2_with fail
      go_ret
      exact ⟨rfl, rfl⟩
    · rw [Nat.compare_eq_eq.2 g] at h2
      have hr : decide (j < k) = false := by simp; omega
      rw [hr]
      clear hr h g
      go_enter Try.func32, Try.ntmps32
      go_wp2_with fail
      go_ret
      exact ⟨rfl, rfl⟩
    · rw [Nat.compare_eq_gt.2 g] at h2
      have hr : decide (j < k) = false := by simp; omega
      rw [hr]
      clear hr h g
      go_enter Try.func32, Try.ntmps32
      go_wp2_with fail
      go_ret
      exact ⟨rfl, rfl⟩
  · rw [Nat.compare_eq_gt.2 h] at h1
    have hr : decide (j < k) = false := by simp; omega
    rw [hr]
    clear hr h h2
    go_enter Try.func32, Try.ntmps32
    go_wp2_with fail
    go_ret
    exact ⟨rfl, rfl⟩
end Go.Proofs.Ytdekaaclheoapaa
