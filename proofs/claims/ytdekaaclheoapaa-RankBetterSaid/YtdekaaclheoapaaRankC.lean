/- A trigger by numbers, of whichever kind; its length; the ranks of such. -/
import Derived.Test.YtdekaaclheoapaaRankB
import Derived.Test.YtdekaaclheoapaaTrigB
import Derived.Test.YtdekaaclheoapaaWhole
import Derived.Test.YtdekaaclheoapaaView
namespace Go.Proofs.Ytdekaaclheoapaa
open Go.RowKit
set_option linter.unusedVariables false
set_option maxRecDepth 20000

theorem rc_wire_len (ls : List (List UInt8)) : ls.length ≤ (wire ls).length := by
  induction ls with
  | nil => simp
  | cons a l ih => rw [wire_cons]; simp; omega
theorem rc_labels_len (s : ByteArray) : (labelsL s).length ≤ 254 := by
  unfold labelsL
  cases h : labelsOf s with
  | none => simp
  | some ls =>
    have h1 := (nameLabels_iff _ _).1 h
    have h3 := rc_wire_len ls
    rw [← h1.2.1] at h3
    simp only [Option.getD_some]
    omega
theorem rc_name_len (ts : List ByteArray) : (nameOf ts).length ≤ 254 := by
  unfold nameOf makeOf makeL
  split
  · rename_i h; exact h.2
  · simp
theorem trigger_all (q t : Nat) (hq : q < 256) (ht : t < 256) (A : Option Addr) (n c : Nat) (l : List UInt8) (six : Bool) (w : World) (hA : Sl w w.heap.size 1 A n (l.map bv)) (hn : n ≤ 140737488355328) :
    Calls Try.prog 25 #[.int .u8 q, .slice A n c, .bool six, .int .u8 t] w fun e w' => ∃ (nm pa : ByteArray) (bits : Int) (len : Nat), e = .returned (trig ((q % 7 : Nat) : Int) nm pa bits) ∧ nm.size ≤ 254 ∧
      lenT nm pa bits = (len : Int) ∧ len ≤ 254 ∧ 0 ≤ bits ∧ bits ≤ 128 ∧ pa.size ≤ 16 ∧ Below w.heap.size w w' := by
  obtain ⟨K, hK⟩ : ∃ K, q % 7 = K := ⟨_, rfl⟩
  have h7 : K = 1 ∨ K = 2 ∨ K = 4 ∨ K = 5 ∨ K = 0 ∨ K = 3 ∨ K = 6 := by omega
  rw [hK]
  by_cases h : K = 1 ∨ K = 2 ∨ K = 4 ∨ K = 5
  · refine (trigger_name q K hq hK h A n c l six (t : Int) w hA hn).mono ?_
    rintro e w' ⟨rfl, hb⟩
    refine ⟨⟨(nameOf (wordsT K l)).toArray⟩, ⟨#[]⟩, 0, (labelsL ⟨(nameOf (wordsT K l)).toArray⟩).length, rfl, by rw [mk_size]; exact rc_name_len _, ?_, rc_labels_len _, by omega, by omega, by decide, hb⟩
    unfold lenT; exact if_pos rfl
  · have h' : K = 0 ∨ K = 3 ∨ K = 6 := by omega
    refine (trigger_addr q K t hq ht hK h' A n c l six w hA hn).mono ?_
    rintro e w' ⟨s, hs, rfl, hb⟩
    have hN : addrN six = 4 ∨ addrN six = 16 := by unfold addrN; cases six <;> simp
    have hm : t % (8 * addrN six + 1) ≤ 128 := by
      have := Nat.mod_lt t (show 0 < 8 * addrN six + 1 by omega)
      rcases hN with h | h <;> (rw [h] at this ⊢; omega)
    have hsz : (ByteArray.mk (cutL s.data.toList (t % (8 * addrN six + 1))).toArray).size = addrN six := by rw [mk_size, cutL_length]; simpa using hs
    refine ⟨⟨#[]⟩, _, _, t % (8 * addrN six + 1), rfl, by decide, ?_, by omega, by omega, by omega, by omega, hb⟩
    unfold lenT
    rw [if_neg (by rw [hsz]; omega)]
theorem length18_any (k : Int) (nm pa : ByteArray) (bits : Int) (w : World) (hs : nm.size ≤ maxLen) :
    Calls Try.prog 27 #[trig k nm pa bits] w fun e w' => e = .returned (.int .i64 (lenT nm pa bits)) ∧ Below w.heap.size w w' := by
  unfold trig lenT
  have HC := Lib.hid (fun w => count_any nm w hs)
  by_cases h : pa.size = 0
  · obtain rfl : pa = ⟨#[]⟩ := by
      apply ByteArray.ext; exact Array.eq_empty_of_size_eq_zero h
    rw [if_pos h]
    clear h
    go_enter Try.func27, Try.ntmps27
    go_wp2_with fail
    refine (HC.out _).mono ?_
    rintro e w1 ⟨rfl, hb⟩
    have hbel := below_alloc _ (Below.refl _ _) (Nat.le_refl _) hb
    go_wp2_with fail
    go_ret
    exact ⟨rfl, hbel⟩
  · rw [if_neg h]
    have he := str_empty' pa h
    have he2 : (!pa.toList.isEmpty) = true := by rw [he]; rfl
    have he3 := str_empty pa h
    clear h
    go_enter Try.func27, Try.ntmps27
    go_wp2_with fail
    go_ret
    exact ⟨rfl, (Below.refl _ _).alloc (Nat.le_refl _) _⟩
/-- A rank of whole numbers. -/
def rk (a c : Nat) : Value := .complex .f64 (floatOfInt .f64 (a : Int)) (floatOfInt .f64 (c : Int))
/-- Which of two ranks goes ahead. -/
def rkLt (a c b d : Nat) : Bool := decide (a < b ∨ a = b ∧ c < d)
set_option maxHeartbeats 800000 in
theorem better_rk (a c b d : Nat) (ha : a < 2 ^ 53) (hc : c < 2 ^ 53) (hb : b < 2 ^ 53) (hd : d < 2 ^ 53) (w : World) :
    Calls Try.prog 32 #[rk a c, rk b d] w fun e w' => e = .returned (.bool (rkLt a c b d)) ∧ w = w' := by
  have h1 := wh_order a b ha hb
  have h2 := wh_order c d hc hd
  unfold rk rkLt
  generalize floatOfInt .f64 (a : Int) = x at *
  generalize floatOfInt .f64 (b : Int) = y at *
  generalize floatOfInt .f64 (c : Int) = z at *
  generalize floatOfInt .f64 (d : Int) = u at *
  rcases Nat.lt_trichotomy a b with h | h | h
  · rw [Nat.compare_eq_lt.2 h] at h1
    have hr : decide (a < b ∨ a = b ∧ c < d) = true := by simp; omega
    rw [hr]
    clear hr h h2 ha hb hc hd
    go_enter Try.func32, Try.ntmps32
    go_wp2_with fail
    go_ret
    exact ⟨rfl, rfl⟩
  · rw [Nat.compare_eq_eq.2 h] at h1
    rcases Nat.lt_trichotomy c d with g | g | g
    · rw [Nat.compare_eq_lt.2 g] at h2
      have hr : decide (a < b ∨ a = b ∧ c < d) = true := by simp; omega
      rw [hr]
      clear hr h g ha hb hc hd
      go_enter Try.func32, Try.ntmps32
      go_wp2_with fail
      go_ret
      exact ⟨rfl, rfl⟩
    · rw [Nat.compare_eq_eq.2 g] at h2
      have hr : decide (a < b ∨ a = b ∧ c < d) = false := by simp; omega
      rw [hr]
      clear hr h g ha hb hc hd
      go_enter Try.func32, Try.ntmps32
      go_wp2_with fail
      go_ret
      exact ⟨rfl, rfl⟩
    · rw [Nat.compare_eq_gt.2 g] at h2
      have hr : decide (a < b ∨ a = b ∧ c < d) = false := by simp; omega
      rw [hr]
      clear hr h g ha hb hc hd
      go_enter Try.func32, Try.ntmps32
      go_wp2_with fail
      go_ret
      exact ⟨rfl, rfl⟩
  · rw [Nat.compare_eq_gt.2 h] at h1
    have hr : decide (a < b ∨ a = b ∧ c < d) = false := by simp; omega
    rw [hr]
    clear hr h h2 ha hb hc hd
    go_enter Try.func32, Try.ntmps32
    go_wp2_with fail
    go_ret
    exact ⟨rfl, rfl⟩
/-- The rank of a trigger of a known kind, of a length. -/
theorem of_rk (zone K : Nat) (nm pa : ByteArray) (bits : Int) (len : Nat) (w : World) (hK : K < 7) (hs : nm.size ≤ 254) (hlen : lenT nm pa bits = (len : Int)) (hl : len ≤ 254) :
    Calls Try.prog 26 #[.int .i64 (zone : Int), trig (K : Int) nm pa bits] w fun e w' => e = .returned (rk zone (256 * K + 255 - len)) ∧ Below w.heap.size w w' := by
  refine (of_any (zone : Int) (K : Int) nm pa bits w (by unfold maxLen; omega) (by omega) (by omega)).mono ?_
  rintro e w' ⟨rfl, hb⟩
  refine ⟨?_, hb⟩
  have : acrossN (K : Int) nm pa bits = ((256 * K + 255 - len : Nat) : Int) := by unfold acrossN; rw [if_pos (by omega), hlen]; omega
  rw [this]
  rfl
theorem zone_rk (a c : Nat) (ha : a < 2 ^ 53) (w : World) : Calls Try.prog 28 #[rk a c] w fun e w' => e = .returned (.int .i64 (a : Int)) ∧ w = w' := by
  have hcv := fun w => run_convert_float_int (P := Try.prog) (w := w) 56 3 .f64 .i64 (floatOfInt .f64 (a : Int)) a (by kernel_rfl) Try.underlying3 (wh_int a ha)
  unfold rk
  clear ha
  generalize floatOfInt .f64 (a : Int) = x at *
  generalize floatOfInt .f64 (c : Int) = z at *
  go_enter Try.func28, Try.ntmps28
  go_wp2_with fail
  go_ret
  exact ⟨rfl, rfl⟩
theorem step_rk (a c : Nat) (hc : c < 2 ^ 53) (w : World) : Calls Try.prog 29 #[rk a c] w fun e w' => e = .returned (.int .i64 ((c / 256 : Nat) : Int)) ∧ w = w' := by
  have hcv := fun w => run_convert_float_int (P := Try.prog) (w := w) 56 3 .f64 .i64 (floatOfInt .f64 (c : Int)) c (by kernel_rfl) Try.underlying3 (wh_int c hc)
  unfold rk
  generalize floatOfInt .f64 (a : Int) = x at *
  generalize floatOfInt .f64 (c : Int) = z at *
  go_enter Try.func29, Try.ntmps29
  go_wp2_with fail
  go_ret
  exact ⟨by simp, rfl⟩
theorem length_rk (a c : Nat) (hc : c < 2 ^ 53) (w : World) : Calls Try.prog 30 #[rk a c] w fun e w' => e = .returned (.int .i64 ((255 - c % 256 : Nat) : Int)) ∧ w = w' := by
  have hcv := fun w => run_convert_float_int (P := Try.prog) (w := w) 56 3 .f64 .i64 (floatOfInt .f64 (c : Int)) c (by kernel_rfl) Try.underlying3 (wh_int c hc)
  have he : (255 : Int) - (c : Int) % 256 = ((255 - c % 256 : Nat) : Int) := by omega
  have HE := Lib.hid he
  unfold rk
  clear he
  generalize floatOfInt .f64 (a : Int) = x at *
  generalize floatOfInt .f64 (c : Int) = z at *
  go_enter Try.func30, Try.ntmps30
  go_wp2_with fail
  go_ret
  exact ⟨by rw [← HE.out]; rfl, rfl⟩
end Go.Proofs.Ytdekaaclheoapaa
