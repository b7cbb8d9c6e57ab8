/- The contracts of layer 18: step, length, Of; the document's examples. -/
import Derived.Test.YtdekaaclheoapaaRankA
import Derived.Test.YtdekaaclheoapaaNameC
namespace Go.Proofs.Ytdekaaclheoapaa
open Go.RowKit
set_option linter.unusedVariables false

def stepN (k : Int) : Int := if 0 ≤ k ∧ k < 7 then k else 7
theorem step_any (k : Int) (w : World) : Calls Try.prog 56 #[.int .i64 k] w fun e w' => e = .returned (.int .i64 (stepN k)) ∧ w = w' := by
  have h : k = 0 ∨ k = 1 ∨ k = 2 ∨ k = 3 ∨ k = 4 ∨ k = 5 ∨ k = 6 ∨ (k < 0 ∨ 7 ≤ k) := by omega
  rcases h with rfl | rfl | rfl | rfl | rfl | rfl | rfl | h
  iterate 7
    (· rw [show ∀ n : Int, stepN n = if 0 ≤ n ∧ n < 7 then n else 7 from fun _ => rfl]
       go_enter Try.func56, Try.ntmps56
       go_wp2_with fail
       go_ret
       exact ⟨rfl, rfl⟩)
  · rw [show stepN k = 7 by unfold stepN; rw [if_neg (by omega)]]
    have h0 : (k == 0) = false := by simp; omega
    have h1 : (k == 1) = false := by simp; omega
    have h2 : (k == 2) = false := by simp; omega
    have h3 : (k == 3) = false := by simp; omega
    have h4 : (k == 4) = false := by simp; omega
    have h5 : (k == 5) = false := by simp; omega
    have h6 : (k == 6) = false := by simp; omega
    clear h
    go_enter Try.func56, Try.ntmps56
    go_wp2_with fail
    go_ret
    exact ⟨rfl, rfl⟩
def lenT (nm pa : ByteArray) (bits : Int) : Int := if pa.size = 0 then ((labelsL nm).length : Int) else bits
def trig (k : Int) (nm pa : ByteArray) (bits : Int) : Value := .agg #[.int .i64 k, .string nm, .string pa, .int .i64 bits]
theorem length_any (k : Int) (nm pa : ByteArray) (bits : Int) (w : World) (hs : nm.size ≤ maxLen) :
    Calls Try.prog 57 #[trig k nm pa bits] w fun e w' => e = .returned (.int .i64 (lenT nm pa bits)) ∧ Below w.heap.size w w' := by
  unfold trig lenT
  have HC := Lib.hid (fun w => count_any nm w hs)
  by_cases h : pa.size = 0
  · obtain rfl : pa = ⟨#[]⟩ := by
      apply ByteArray.ext; exact Array.eq_empty_of_size_eq_zero h
    rw [if_pos h]
    clear h
    go_enter Try.func57, Try.ntmps57
    go_wp2_with fail
    refine (HC.out _).mono ?_
    rintro e w1 ⟨rfl, hb⟩
    have hbel := below_alloc _ (Below.refl _ _) (Nat.le_refl _) hb
    go_wp2_with fail
    go_ret
    exact ⟨rfl, hbel⟩
  · rw [if_neg h]
    have he := str_empty' pa h
    have he2 : (!pa.toList.isEmpty) = true := by rw [he]; rfl
    have he3 := str_empty pa h
    clear h
    go_enter Try.func57, Try.ntmps57
    go_wp2_with fail
    go_ret
    exact ⟨rfl, (Below.refl _ _).alloc (Nat.le_refl _) _⟩
def acrossN (k : Int) (nm pa : ByteArray) (bits : Int) : Int := if 0 ≤ k ∧ k < 7 then 256 * k + 255 - lenT nm pa bits else 1792
theorem of_any (zone k : Int) (nm pa : ByteArray) (bits : Int) (w : World) (hs : nm.size ≤ maxLen) (h0 : -4503599627370496 ≤ lenT nm pa bits) (h1 : lenT nm pa bits ≤ 4503599627370496) :
    Calls Try.prog 26 #[.int .i64 zone, trig k nm pa bits] w fun e w' => e = .returned (.complex .f64 (floatOfInt .f64 zone) (floatOfInt .f64 (acrossN k nm pa bits))) ∧ Below w.heap.size w w' := by
  have HL := Lib.hid (fun w => length_any k nm pa bits w hs)
  have HS := Lib.hid (fun w => step_any k w)
  by_cases hk : 0 ≤ k ∧ k < 7
  · have hst : stepN k = k := by unfold stepN; rw [if_pos hk]
    have HA : Hid (acrossN k nm pa bits = 256 * k + 255 - lenT nm pa bits) := Lib.hid (by unfold acrossN; rw [if_pos hk])
    unfold trig at *
    generalize lenT nm pa bits = len at *
    obtain ⟨hk0, hk1⟩ := hk
    go_enter Try.func26, Try.ntmps26
    go_wp2_with fail
    refine (HS.out _).mono ?_
    rw [hst]
    rintro e w1 ⟨rfl, rfl⟩
    clear hst
    go_wp2_with fail
    refine (HL.out _).mono ?_
    rintro e w1 ⟨rfl, hb⟩
    have hbel := below_alloc _ (Below.refl _ _) (Nat.le_refl _) hb
    go_wp2_with fail
    go_ret
    refine ⟨?_, hbel⟩
    rw [HA.out]
    have e1 : (256 * k + 256 - 1 - len) = 256 * k + 255 - len := by omega
    first | rfl | (rw [← e1]; rfl)
  · have hst : stepN k = 7 := by unfold stepN; rw [if_neg hk]
    have HA : Hid (acrossN k nm pa bits = 1792) := Lib.hid (by unfold acrossN; rw [if_neg hk])
    unfold trig at *
    clear hk
    go_enter Try.func26, Try.ntmps26
    go_wp2_with fail
    refine (HS.out _).mono ?_
    rw [hst]
    rintro e w1 ⟨rfl, rfl⟩
    clear hst
    go_wp2_with fail
    go_ret
    exact ⟨by rw [HA.out]; rfl, (Below.refl _ _).alloc (Nat.le_refl _) _⟩
theorem step509 (w : World) : Calls Try.prog 29 #[.complex .f64 4613937818241073152 4647662038888218624] w fun e w' => e = .returned (.int .i64 1) ∧ w = w' := by
  have hcv := fun w => run_convert_float_int (P := Try.prog) (w := w) 56 3 .f64 .i64 4647662038888218624 509 (by kernel_rfl) Try.underlying3 (by decide +kernel)
  go_enter Try.func29, Try.ntmps29
  go_wp2_with fail
  go_ret
  exact ⟨rfl, rfl⟩
theorem awake_name : nameOf [⟨#[97]⟩, ⟨#[98]⟩] = [1, 97, 1, 98] := by decide +kernel
theorem awake18_any (w : World) : Calls Try.prog 24 #[] w fun e w' => e = .returned (.bool true) ∧ Below w.heap.size w w' := by
  have hof := fun w => of_any 3 1 ⟨#[1, 97, 1, 98]⟩ ⟨#[]⟩ 0 w (by decide) (by decide +kernel) (by decide +kernel)
  rw [show floatOfInt .f64 3 = 4613937818241073152 by decide +kernel, show floatOfInt .f64 (acrossN 1 ⟨#[1, 97, 1, 98]⟩ ⟨#[]⟩ 0) = 4647662038888218624 by decide +kernel] at hof
  unfold trig at hof
  have HOF := Lib.hid hof
  have hord1 : FloatKind.f64.format.order 4613937818241073152 4613937818241073152 = some .eq := by decide +kernel
  have hord2 : FloatKind.f64.format.order 4647662038888218624 4647662038888218624 = some .eq := by decide +kernel
  clear hof
  go_enter Try.func24, Try.ntmps24
  go_wp2_with fail
  refine (make_any _ 2 2 [⟨#[97]⟩, ⟨#[98]⟩] _ (Sl.fresh _ _ _ _ _ rfl rfl) (by intro t ht; simp at ht; rcases ht with rfl | rfl <;> decide) (by decide)).mono ?_
  rw [awake_name, show sv [1, 97, 1, 98] = .string ⟨#[1, 97, 1, 98]⟩ from rfl]
  rintro e w1 ⟨rfl, hb⟩
  have hbel := below_alloc _ (Below.refl _ _) (Nat.le_refl _) hb
  clear hb
  go_wp2_with fail
  refine (step509 _).mono ?_
  rintro e w2 ⟨rfl, rfl⟩
  go_wp2_with fail
  refine (HOF.out _).mono ?_
  rintro e w3 ⟨rfl, hb⟩
  have hbel2 := hbel.trans (hb.mono hbel.size)
  go_wp2_with fail
  go_ret
  exact ⟨rfl, hbel2⟩
end Go.Proofs.Ytdekaaclheoapaa
