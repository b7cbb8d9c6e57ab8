/- The contracts of layer 18: whole floats in order, Better, First. -/
import Derived.Test.YtioichenjoeonaaRows
import Derived.Test.YtioichenjoeonaaOb
import Derived.Test.YtioichenjoeonaaView
import Derived.WalkLawsBesides
import Derived.Deep.DeepCutAuto
import Derived.Outline
namespace Go.Proofs.Ytioichenjoeonaa
open Go.RowKit
set_option linter.unusedVariables false

/-- A whole number as a float. -/
def fl (n : Nat) : Nat := floatOfInt .f64 (n : Int)
theorem fl_order8 (a c : Nat) (ha : a < 8) (hc : c < 8) : FloatKind.f64.format.order (fl a) (fl c) = some (compare a c) := by
  have h : ∀ i j : Fin 8, FloatKind.f64.format.order (fl i.val) (fl j.val) = some (compare i.val j.val) := by decide +kernel
  exact h ⟨a, ha⟩ ⟨c, hc⟩
/-- A rank of small numbers. -/
def cx (k : Nat) : Value := .complex .f64 (fl (k / 8)) (fl (k % 8))
theorem better_cx (j k : Nat) (hj : j < 64) (hk : k < 64) (w : World) :
    Calls Try.prog 32 #[cx j, cx k] w fun e w' => e = .returned (.bool (decide (j < k))) ∧ w = w' := by
  have h1 := fl_order8 (j / 8) (k / 8) (by omega) (by omega)
  have h2 := fl_order8 (j % 8) (k % 8) (by omega) (by omega)
  unfold cx
  generalize fl (j / 8) = a at *
  generalize fl (k / 8) = b at *
  generalize fl (j % 8) = c at *
  generalize fl (k % 8) = d at *
  rcases Nat.lt_trichotomy (j / 8) (k / 8) with h | h | h
  · rw [Nat.compare_eq_lt.2 h] at h1
    have hr : decide (j < k) = true := by simp; omega
    rw [hr]
    clear hr h h2
    go_enter Try.func32, Try.ntmps32
    go_wp2_with fail
    go_ret
    exact ⟨rfl, rfl⟩
  · rw [Nat.compare_eq_eq.2 h] at h1
    rcases Nat.lt_trichotomy (j % 8) (k % 8) with g | g | g
    · rw [Nat.compare_eq_lt.2 g] at h2
      have hr : decide (j < k) = true := by simp; omega
      rw [hr]
      clear hr h g
      go_enter Try.func32, Try.ntmps32
      go_wp2_with fail
      go_ret
      exact ⟨rfl, rfl⟩
    · rw [Nat.compare_eq_eq.2 g] at h2
      have hr : decide (j < k) = false := by simp; omega
      rw [hr]
      clear hr h g
      go_enter Try.func32, Try.ntmps32
      go_wp2_with fail
      go_ret
      exact ⟨rfl, rfl⟩
    · rw [Nat.compare_eq_gt.2 g] at h2
      have hr : decide (j < k) = false := by simp; omega
      rw [hr]
      clear hr h g
      go_enter Try.func32, Try.ntmps32
      go_wp2_with fail
      go_ret
      exact ⟨rfl, rfl⟩
  · rw [Nat.compare_eq_gt.2 h] at h1
    have hr : decide (j < k) = false := by simp; omega
    rw [hr]
    clear hr h h2
    go_enter Try.func32, Try.ntmps32
    go_wp2_with fail
    go_ret
    exact ⟨rfl, rfl⟩
/-- The place of the first of the least. -/
def IsFirst (ks : List Nat) (r : Nat) : Prop := ∃ h : r < ks.length, ∀ i (hi : i < ks.length), ks[r] ≤ ks[i] ∧ (i < r → ks[r] < ks[i])
set_option maxHeartbeats 800000 in
theorem first_cx (A : Option Addr) (n c : Nat) (ks : List Nat) (w : World) (hA : Sl w w.heap.size 1 A n (ks.map cx)) (hks : ∀ k ∈ ks, k < 64) (hn : n ≤ maxLen) :
    Calls Try.prog 33 #[.slice A n c] w fun e w' => ∃ r : Int, e = .returned (.int .i64 r) ∧ ((n = 0 ∧ r = -1) ∨ ∃ b : Nat, r = b ∧ IsFirst ks b) ∧ w = w' := by
  unfold maxLen at hn
  have hl : ks.length = n := by simpa using hA.1
  go_enter Try.func33, Try.ntmps33
  go_wp2_with fail
  go_loop [3, 8] (fun v i => ∃ (k : Nat) (r : Int), k ≤ n ∧ i = .int .i64 k ∧ v = .int .i64 r ∧ Hid ((k = 0 ∧ r = -1) ∨ ∃ b : Nat, r = b ∧ IsFirst (ks.take k) b)) (fun _ i => n - (intOf i).toNat)
  case atStart => exact ⟨0, -1, Nat.zero_le _, rfl, rfl, Lib.hid (.inl ⟨rfl, rfl⟩)⟩
  case round =>
    obtain ⟨k, r, hk, rfl, rfl, hF⟩ := hrel
    by_cases hlt : k < n
    · obtain ⟨b, off, u, rfl, hbb, hu, hc⟩ := hA.at_ hlt
      have hkl : k < ks.length := by omega
      rw [List.getElem?_map, List.getElem?_eq_getElem hkl, Option.map_some, Option.some.injEq] at hu
      subst hu
      have hk64 := hks _ (List.getElem_mem hkl)
      have hcx : cx ks[k] = .complex .f64 (fl (ks[k] / 8)) (fl (ks[k] % 8)) := rfl
      rw [hcx] at hc
      rcases hF.out with ⟨rfl, rfl⟩ | ⟨b0, rfl, hr, hf⟩
      · have hnew : Hid ((0 + 1 = 0 ∧ (0 : Int) = -1) ∨ ∃ b : Nat, (0 : Int) = b ∧ IsFirst (ks.take (0 + 1)) b) := Lib.hid (.inr ⟨0, rfl, by
          refine ⟨by simp; omega, fun i hi => ?_⟩
          have : i = 0 := by simp at hi; omega
          subst this
          exact ⟨Nat.le_refl _, fun h => absurd h (by omega)⟩⟩)
        rw [Nat.add_zero] at hc
        clear hF hcx hl
        go_wp2_with fail
        go_round
        case rel => exact ⟨1, 0, by omega, rfl, rfl, hnew⟩
        case measure => simp [intOf]; omega
      · have hb0 : b0 < k := by simp at hr; omega
        have hb0l : b0 < ks.length := by omega
        have hc2 := hA.cell b0 (cx ks[b0]) (by rw [List.getElem?_map, List.getElem?_eq_getElem hb0l]; rfl)
        rw [show cx ks[b0] = .complex .f64 (fl (ks[b0] / 8)) (fl (ks[b0] % 8)) from rfl] at hc2
        have hb := fun w => better_cx ks[k] ks[b0] hk64 (hks _ (List.getElem_mem hb0l)) w
        have hnew1 : ks[k] < ks[b0] → Hid ((k + 1 = 0 ∧ (k : Int) = -1) ∨ ∃ b : Nat, (k : Int) = b ∧ IsFirst (ks.take (k + 1)) b) := fun hlt2 => Lib.hid (.inr ⟨k, rfl, by
          refine ⟨by simp; omega, fun i hi => ?_⟩
          simp only [List.getElem_take]
          by_cases hik : i = k
          · subst hik; exact ⟨Nat.le_refl _, fun h => absurd h (by omega)⟩
          · have hi2 : i < k := by simp at hi; omega
            have := (hf i (by simp; omega)).1
            simp only [List.getElem_take] at this
            exact ⟨by omega, fun _ => by omega⟩⟩)
        have hnew2 : ¬ ks[k] < ks[b0] → Hid ((k + 1 = 0 ∧ (b0 : Int) = -1) ∨ ∃ b : Nat, (b0 : Int) = b ∧ IsFirst (ks.take (k + 1)) b) := fun hlt2 => Lib.hid (.inr ⟨b0, rfl, by
          refine ⟨by simp; omega, fun i hi => ?_⟩
          simp only [List.getElem_take]
          by_cases hik : i = k
          · subst hik; exact ⟨by omega, fun h => absurd h (by omega)⟩
          · have hi2 : i < k := by simp at hi; omega
            have := hf i (by simp; omega)
            simp only [List.getElem_take] at this
            exact this⟩)
        unfold cx at hb
        have HB := Lib.hid hb
        have H1 := Lib.hid hnew1
        have H2 := Lib.hid hnew2
        have hb0i : (b0 : Int) < n := by omega
        clear hF hcx hl hb hnew1 hnew2 hf hr hk64
        by_cases hlt2 : ks[k] < ks[b0]
        · have hd : decide (ks[k] < ks[b0]) = true := by simpa using hlt2
          have h1 := H1.out hlt2
          rw [hd] at HB
          clear hlt2 hd H1 H2
          generalize ks[k] = x at *
          generalize ks[b0] = y at *
          go_wp2_with fail
          refine (HB.out _).mono ?_
          rintro e w1 ⟨rfl, rfl⟩
          go_wp2_with fail
          go_round
          case rel => exact ⟨k + 1, k, by omega, by go_num, rfl, h1⟩
          case measure => simp [intOf]; omega
        · have hd : decide (ks[k] < ks[b0]) = false := by simpa using hlt2
          have h2 := H2.out hlt2
          rw [hd] at HB
          clear hlt2 hd H1 H2
          generalize ks[k] = x at *
          generalize ks[b0] = y at *
          go_wp2_with fail
          refine (HB.out _).mono ?_
          rintro e w1 ⟨rfl, rfl⟩
          go_wp2_with fail
          go_round
          case rel => exact ⟨k + 1, b0, by omega, by go_num, rfl, h2⟩
          case measure => simp [intOf]; omega
    · obtain rfl : k = n := by omega
      have hfin : Hid ((k = 0 ∧ r = -1) ∨ ∃ b : Nat, r = b ∧ IsFirst ks b) := Lib.hid (by have h := hF.out; rwa [List.take_of_length_le (by omega)] at h)
      clear hl hF
      go_wp2_with fail
      go_ret
      exact ⟨r, rfl, hfin.out, rfl⟩
end Go.Proofs.Ytioichenjoeonaa
