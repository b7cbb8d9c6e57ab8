/- Whole numbers below 2^53 as floats: their order, and back. It speaks of no program. -/
import Derived.Laws.FloatArith
import Derived.WalkKit
namespace Go.Proofs.Ytdekaaclheoapaa
set_option linter.unusedVariables false

theorem wh_log {n : Nat} (h1 : 1 ≤ n) (h2 : n < 2 ^ 53) : n.log2 ≤ 52 ∧ 2 ^ n.log2 ≤ n ∧ n < 2 ^ (n.log2 + 1) := by
  have hn : n ≠ 0 := by omega
  have ha : 2 ^ n.log2 ≤ n := (Nat.le_log2 hn).1 (Nat.le_refl _)
  have hb : n < 2 ^ (n.log2 + 1) := (Nat.log2_lt hn).1 (Nat.lt_succ_self _)
  refine ⟨?_, ha, hb⟩
  have : n.log2 < 53 := (Nat.log2_lt hn).2 h2
  omega
/-- The significand of a whole number, and its place. -/
def whM (n : Nat) : Nat := n * 2 ^ (52 - n.log2)
theorem whM_bounds {n : Nat} (h1 : 1 ≤ n) (h2 : n < 2 ^ 53) : 4503599627370496 ≤ whM n ∧ whM n < 9007199254740992 := by
  show 2 ^ 52 ≤ whM n ∧ whM n < 2 ^ 53
  obtain ⟨hl, ha, hb⟩ := wh_log h1 h2
  unfold whM
  constructor
  · calc 2 ^ 52 = 2 ^ n.log2 * 2 ^ (52 - n.log2) := by rw [← Nat.pow_add]; congr 1; omega
      _ ≤ _ := Nat.mul_le_mul_right _ ha
  · calc n * 2 ^ (52 - n.log2) < 2 ^ (n.log2 + 1) * 2 ^ (52 - n.log2) := Nat.mul_lt_mul_of_pos_right hb (Nat.pow_pos (by omega))
      _ = 2 ^ 53 := by rw [← Nat.pow_add]; congr 1; omega
theorem wh_bits {n : Nat} (h1 : 1 ≤ n) (h2 : n < 2 ^ 53) : floatOfInt .f64 (n : Int) = (n.log2 + 1022) * 4503599627370496 + whM n := by
  obtain ⟨hl, ha, hb⟩ := wh_log h1 h2
  obtain ⟨hm1, hm2⟩ := whM_bounds h1 h2
  show Ieee.double.nearest (decide ((n : Int) < 0)) (n : Int).natAbs 0 = _
  have hneg : decide ((n : Int) < 0) = false := by simp
  rw [hneg, Int.natAbs_natCast]
  unfold Ieee.Format.nearest
  rw [if_neg (by omega)]
  have hlast : max ((0 : Int) + (n.log2 : Int) - (Ieee.double.fractionBits : Int)) Ieee.double.leastPlace = (n.log2 : Int) - 52 := by
    rw [show Ieee.double.leastPlace = -1074 by decide, show (Ieee.double.fractionBits : Int) = 52 from rfl]; omega
  simp only [hlast]
  rw [show (0 - ((n.log2 : Int) - 52)).toNat = 52 - n.log2 by omega, show ((n.log2 : Int) - 52 - 0).toNat = 0 by omega, Nat.shiftLeft_eq]
  show Ieee.double.word false (min (((n.log2 : Int) - 52 - Ieee.double.leastPlace).toNat * Ieee.double.binade + Ieee.Toward.even.cut false (whM n) 0) Ieee.double.infRung) = _
  have hcut : Ieee.Toward.even.cut false (whM n) 0 = whM n := by
    unfold Ieee.Toward.cut
    simp [Nat.mod_one]
  rw [hcut, show ((n.log2 : Int) - 52 - Ieee.double.leastPlace).toNat = n.log2 + 1022 by rw [show Ieee.double.leastPlace = -1074 by decide]; omega,
    show Ieee.double.binade = 4503599627370496 by decide +kernel, show Ieee.double.infRung = 9218868437227405312 by decide +kernel]
  unfold Ieee.Format.word
  rw [if_neg (by simp)]
  exact Nat.min_eq_left (by omega)
theorem wh_arith (L r : Nat) (hl : L ≤ 52) (hr : r < 4503599627370496) :
    ((L + 1023) * 4503599627370496 + r) % 9223372036854775808 = (L + 1023) * 4503599627370496 + r ∧ ((L + 1023) * 4503599627370496 + r) / 9223372036854775808 = 0 ∧ ¬ ((L + 1023) * 4503599627370496 + r < 4503599627370496) ∧
    (L + 1023) * 4503599627370496 + r < 9218868437227405312 ∧ ((L + 1023) * 4503599627370496 + r) / 4503599627370496 = L + 1023 ∧ ((L + 1023) * 4503599627370496 + r) % 4503599627370496 = r := by
  refine ⟨?_, ?_, ?_, ?_, ?_, ?_⟩ <;> omega
theorem wh_read {n : Nat} (h1 : 1 ≤ n) (h2 : n < 2 ^ 53) : FloatKind.f64.format.read (floatOfInt .f64 (n : Int)) = .number false (whM n) ((n.log2 : Int) - 52) := by
  obtain ⟨hl, ha, hb⟩ := wh_log h1 h2
  obtain ⟨hm1, hm2⟩ := whM_bounds h1 h2
  rw [wh_bits h1 h2]
  show Ieee.double.read _ = _
  obtain ⟨r, hr, hrl⟩ : ∃ r, whM n = 4503599627370496 + r ∧ r < 4503599627370496 := ⟨whM n - 4503599627370496, by omega, by omega⟩
  have hx : (n.log2 + 1022) * 4503599627370496 + whM n = (n.log2 + 1023) * 4503599627370496 + r := by rw [hr]; omega
  rw [hx]
  unfold Ieee.Format.read
  have hsw : Ieee.double.signWeight = 9223372036854775808 := by decide +kernel
  have hbi : Ieee.double.binade = 4503599627370496 := by decide +kernel
  have hin : Ieee.double.infRung = 9218868437227405312 := by decide +kernel
  have hlp : Ieee.double.leastPlace = -1074 := by decide
  obtain ⟨q1, q2, q3, q4, q5, q6⟩ := wh_arith n.log2 r hl hrl
  obtain ⟨X, hX⟩ : ∃ X, X = (n.log2 + 1023) * 4503599627370496 + r := ⟨_, rfl⟩
  rw [← hX] at q1 q2 q3 q4 q5 q6 ⊢
  clear hX hx
  simp only [hsw, hbi, hin, hlp]
  rw [q1, q2, if_neg q3, if_pos q4, q5, q6, hr]
  have e : (-1074 : Int) + ((n.log2 + 1023 - 1 : Nat) : Int) = (n.log2 : Int) - 52 := by clear hr hrl q1 q2 q3 q4 q5 q6; omega
  rw [e, show ((0 : Nat) % 2 == 1) = false by decide]
theorem wh_zero : FloatKind.f64.format.read (floatOfInt .f64 ((0 : Nat) : Int)) = .number false 0 (-1074) := by decide +kernel
theorem compare_mul (a b c : Nat) (hc : 0 < c) : compare ((a * c : Nat) : Int) ((b * c : Nat) : Int) = compare a b := by
  rcases Nat.lt_trichotomy a b with h | h | h
  · rw [Nat.compare_eq_lt.2 h, Int.compare_eq_lt]
    exact Int.ofNat_lt.2 (Nat.mul_lt_mul_of_pos_right h hc)
  · subst h; rw [Nat.compare_eq_eq.2 rfl, Int.compare_eq_eq]
  · rw [Nat.compare_eq_gt.2 h, Int.compare_eq_gt]
    exact Int.ofNat_lt.2 (Nat.mul_lt_mul_of_pos_right h hc)
/-- The order of whole floats is that of the numbers. -/
theorem wh_order (a b : Nat) (ha : a < 2 ^ 53) (hb : b < 2 ^ 53) : FloatKind.f64.format.order (floatOfInt .f64 (a : Int)) (floatOfInt .f64 (b : Int)) = some (compare a b) := by
  unfold Ieee.Format.order
  rcases Nat.eq_zero_or_pos a with ha0 | ha0
  · subst ha0
    rw [wh_zero]
    rcases Nat.eq_zero_or_pos b with hb0 | hb0
    · subst hb0; rw [wh_zero]; decide +kernel
    · rw [wh_read hb0 hb]
      obtain ⟨hl, _, _⟩ := wh_log hb0 hb
      obtain ⟨hm1, _⟩ := whM_bounds hb0 hb
      unfold Ieee.Datum.order
      simp only [Ieee.signed, Bool.false_eq_true, if_false, Nat.shiftLeft_eq]
      rw [Nat.compare_eq_lt.2 hb0, Option.some.injEq, Int.compare_eq_lt]
      rw [Nat.zero_mul]; exact Int.ofNat_lt.2 (Nat.mul_pos (by omega) (Nat.pow_pos (by omega)))
  · rw [wh_read ha0 ha]
    rcases Nat.eq_zero_or_pos b with hb0 | hb0
    · subst hb0
      rw [wh_zero]
      obtain ⟨hl, _, _⟩ := wh_log ha0 ha
      obtain ⟨hm1, _⟩ := whM_bounds ha0 ha
      unfold Ieee.Datum.order
      simp only [Ieee.signed, Bool.false_eq_true, if_false, Nat.shiftLeft_eq]
      rw [Nat.compare_eq_gt.2 ha0, Option.some.injEq, Int.compare_eq_gt]
      rw [Nat.zero_mul]; exact Int.ofNat_lt.2 (Nat.mul_pos (by omega) (Nat.pow_pos (by omega)))
    · rw [wh_read hb0 hb]
      obtain ⟨hla, _, _⟩ := wh_log ha0 ha
      obtain ⟨hlb, _, _⟩ := wh_log hb0 hb
      unfold Ieee.Datum.order
      simp only [Ieee.signed, Bool.false_eq_true, if_false, Nat.shiftLeft_eq, Option.some.injEq]
      obtain ⟨m, hm⟩ : ∃ m, min a.log2 b.log2 = m := ⟨_, rfl⟩
      have hmin : min ((a.log2 : Int) - 52) ((b.log2 : Int) - 52) = (m : Int) - 52 := by omega
      rw [hmin, show ((a.log2 : Int) - 52 - ((m : Int) - 52)).toNat = a.log2 - m by omega, show ((b.log2 : Int) - 52 - ((m : Int) - 52)).toNat = b.log2 - m by omega]
      unfold whM
      rw [Nat.mul_assoc, Nat.mul_assoc, ← Nat.pow_add, ← Nat.pow_add, show 52 - a.log2 + (a.log2 - m) = 52 - m by omega, show 52 - b.log2 + (b.log2 - m) = 52 - m by omega]
      exact compare_mul _ _ _ (Nat.pow_pos (by omega))
/-- A whole float as a number again. -/
theorem wh_int (n : Nat) (h : n < 2 ^ 53) : floatToIntVal .f64 (floatOfInt .f64 (n : Int)) .i64 = some (n : Int) := by
  have key : ((FloatKind.f64.decode (floatOfInt .f64 (n : Int))).toInt .zero) = some (n : Int) := by
    show ((FloatKind.f64.format.read (floatOfInt .f64 (n : Int))).toInt .zero) = some (n : Int)
    rcases Nat.eq_zero_or_pos n with h0 | h0
    · subst h0; rw [wh_zero]; decide +kernel
    · rw [wh_read h0 h]
      obtain ⟨hl, ha, hb⟩ := wh_log h0 h
      obtain ⟨hm1, hm2⟩ := whM_bounds h0 h
      unfold Ieee.Datum.toInt Ieee.Datum.integral
      simp only [Ieee.signed, Bool.false_eq_true, if_false, Nat.shiftLeft_eq, Nat.pow_zero, Nat.mul_one, Option.some.injEq]
      rw [show ((n.log2 : Int) - 52).toNat = 0 by omega, show (-((n.log2 : Int) - 52)).toNat = 52 - n.log2 by omega, Nat.pow_zero, Nat.mul_one]
      have hlog : (whM n).log2 = 52 := by
        have h1 : whM n ≠ 0 := by omega
        have h2 : (whM n).log2 < 53 := (Nat.log2_lt h1).2 hm2
        have h3 : 52 ≤ (whM n).log2 := (Nat.le_log2 h1).2 hm1
        omega
      unfold Ieee.Toward.cut
      simp only [Bool.toNat_false, Nat.add_zero]
      rw [hlog, Nat.min_eq_left (by omega), Nat.shiftLeft_eq, Nat.one_mul]
      unfold whM
      rw [Nat.mul_div_cancel _ (Nat.pow_pos (by omega))]
  unfold floatToIntVal
  rw [key]
  have h1 : IntKind.i64.min ≤ (n : Int) := by show (-9223372036854775808 : Int) ≤ _; omega
  have h2 : (n : Int) ≤ IntKind.i64.max := by show _ ≤ (9223372036854775807 : Int); omega
  simp only [h1, h2, and_self, if_true]
end Go.Proofs.Ytdekaaclheoapaa
