/- The walks of NameFold and NameLabels. -/
import Derived.Test.YthhlgogokcblgaaNameAw
import Derived.Test.YthhlgogokcblgaaLawNameS
import Derived.Test.YthhlgogokcblgaaLawNameL
import Derived.OpenShut
namespace Go.Proofs.Ythhlgogokcblgaa
open Go.RowKit
set_option linter.unusedVariables false

set_option maxHeartbeats 1600000 in
theorem nameFold_walk (w : World) (c : Int) (hc : (Lit.int .u8 c).wf = true) :
    Calls Try.prog 10 #[.int .u8 c] w fun e w' => e = .returned (.bool true) ∧ Below w.heap.size w w' := by
  have hb : 0 ≤ c ∧ c < 256 := by
    have := bounds_u8 hc
    omega
  obtain ⟨n, rfl⟩ := Int.eq_ofNat_of_zero_le hb.1
  obtain ⟨x, hx⟩ : ∃ x : UInt8, x.toNat = n := ⟨UInt8.ofNat n, UInt8.toNat_ofNat_of_lt' (by have : UInt8.size = 256 := rfl; omega)⟩
  have f1 := fun w => fold_any x w
  have f2 := fun w => fold_any (fold8 x) w
  have v1 := fold8_val x
  have v2 := fold8_val (fold8 x)
  have hu : isUp (fold8 x) = false := by
    cases h : isUp x with
    | true =>
      have h' := h
      simp only [isUp, decide_eq_true_eq] at h'
      rw [if_pos h] at v1
      simp only [isUp, decide_eq_false_iff_not]
      omega
    | false => simp only [fold8, h]; exact h
  rw [hu, if_neg (by simp)] at v2
  rw [v2] at f2
  have hup : isUp x = decide (65 ≤ n ∧ n ≤ 90) := by unfold isUp; rw [hx]
  rw [hx] at f1 v1
  generalize ((fold8 x).toNat : Int) = r at *
  have HV := Lib.hid v1
  have HU := Lib.hid hup
  have F1 := Lib.hid f1
  have F2 := Lib.hid f2
  clear f1 f2 v1 v2 hup hu hc hx
  have hrr : (r == r) = true := by simp
  by_cases hA : 65 ≤ n ∧ n ≤ 90
  · have hr : r = (n : Int) + 32 := by
      have := HV.out
      rw [HU.out, decide_eq_true hA, if_pos rfl] at this
      exact this
    have a1 : (65 : Int) ≤ n := by omega
    have a2 : (n : Int) ≤ 90 := by omega
    have e1 : IntKind.u8.wrap ((n : Int) + 32) = (n : Int) + 32 := by simp [IntKind.wrap, IntKind.bits, IntKind.signed]; omega
    subst hr
    clear hA hb
    go_enter Try.func10, Try.ntmps10
    go_wp2_with fail
    refine (awake2_any _).mono ?_
    rintro e w1 ⟨rfl, hb1⟩
    go_wp2_with fail
    refine (F1.out _).mono ?_
    rintro e w2 ⟨rfl, rfl⟩
    go_wp2_with fail
    refine (F2.out _).mono ?_
    rintro e w2 ⟨rfl, rfl⟩
    go_wp2_with fail
    go_ret
    exact ⟨rfl, hb1⟩
  · have hr : r = (n : Int) := by
      have := HV.out
      rw [HU.out, decide_eq_false hA, if_neg (by simp)] at this
      exact this
    subst hr
    have hc3 : n < 65 ∨ 90 < n := by omega
    clear hA
    rcases hc3 with h | h
    · have a1 : ¬ (65 : Int) ≤ n := by omega
      clear h hb
      go_enter Try.func10, Try.ntmps10
      go_wp2_with fail
      refine (awake2_any _).mono ?_
      rintro e w1 ⟨rfl, hb1⟩
      go_wp2_with fail
      refine (F1.out _).mono ?_
      rintro e w2 ⟨rfl, rfl⟩
      go_wp2_with fail
      refine (F2.out _).mono ?_
      rintro e w2 ⟨rfl, rfl⟩
      go_wp2_with fail
      go_ret
      exact ⟨rfl, hb1⟩
    · have a1 : (65 : Int) ≤ n := by omega
      have a2 : ¬ (n : Int) ≤ 90 := by omega
      clear h hb
      go_enter Try.func10, Try.ntmps10
      go_wp2_with fail
      refine (awake2_any _).mono ?_
      rintro e w1 ⟨rfl, hb1⟩
      go_wp2_with fail
      refine (F1.out _).mono ?_
      rintro e w2 ⟨rfl, rfl⟩
      go_wp2_with fail
      refine (F2.out _).mono ?_
      rintro e w2 ⟨rfl, rfl⟩
      go_wp2_with fail
      go_ret
      exact ⟨rfl, hb1⟩

set_option maxHeartbeats 1600000 in
theorem nameLabels_walk (w : World) (s : ByteArray) (hs : s.size ≤ 140737488351232) :
    Calls Try.prog 9 #[.string s] w fun e w' => e = .returned (.bool true) ∧ Below w.heap.size w w' := by
  have hs' : s.size ≤ maxLen := by unfold maxLen; omega
  have l1 := fun w => labels_any s w hs'
  have l2 := fun w => lawlabels_any s w hs'
  have m1 := fun w => may_any s w hs'
  have c1 := fun w => count_any s w hs'
  generalize (labelsOf s).isSome = ok at *
  generalize labelsL s = ls at *
  have L1 := Lib.hid l1
  have L2 := Lib.hid l2
  have M1 := Lib.hid m1
  have C1 := Lib.hid c1
  clear l1 l2 m1 c1
  have hok : (ok == ok) = true := by simp
  have hls : (((ls.length : Nat) : Int) == ls.length) = true := by simp
  go_enter Try.func9, Try.ntmps9
  go_wp2_with fail
  refine (awake2_any _).mono ?_
  rintro e w1 ⟨rfl, hb1⟩
  go_wp2_with fail
  refine (L1.out _).mono ?_
  rintro e w2 ⟨v, rfl, hb2⟩
  obtain ⟨A, c, rfl, hc1, hc2, hc3⟩ := hb2.slice
  have hB2 := below_trans hb1 hb1.size hb2.below
  have hS2 := hb2.sl
  go_wp2_with fail
  refine (L2.out _).mono ?_
  rintro e w3 ⟨v, rfl, hb3⟩
  obtain ⟨D, d, rfl, hd1, hd2, hd3⟩ := hb3.slice
  have hB3 := below_trans hB2 hB2.size hb3.below
  have hS3 := hb3.sl
  have hS23 := (hS2.below hb3.below).more hb3.below.size
  have hz3 := hB3.size
  clear hb2 hb3 hS2 hB2
  go_wp2_with fail
  refine (same_any _ _ _ ls _ _ _ ls _ _ hS23 hS3 (by omega)).mono ?_
  rintro e w4 ⟨rfl, k, rfl⟩
  rw [decide_eq_true rfl]
  have hB4 := below_drewN hB3 k
  have hz4 := hB4.size
  clear hB3
  go_wp2_with fail
  refine (M1.out _).mono ?_
  rintro e w5 ⟨rfl, hb5⟩
  have hB5 := below_trans hB4 hz4 hb5
  have hz5 := hB5.size
  clear hB4 hb5
  go_wp2_with fail
  refine (C1.out _).mono ?_
  rintro e w6 ⟨rfl, hb6⟩
  have hB6 := below_trans hB5 hz5 hb6
  go_wp2_with fail
  go_ret
  exact ⟨rfl, hB6⟩
end Go.Proofs.Ythhlgogokcblgaa
