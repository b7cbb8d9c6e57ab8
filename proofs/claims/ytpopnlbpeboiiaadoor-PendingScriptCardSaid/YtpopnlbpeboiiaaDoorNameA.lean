/- The contracts of package name: letters, labels. -/
import Derived.Test.YtpopnlbpeboiiaaDoorRows
import Derived.Test.YtpopnlbpeboiiaaDoorNames
import Derived.Test.YtpopnlbpeboiiaaDoorBuf
import Derived.WalkSmall
import Derived.Deep.DeepCutAuto
import Derived.Outline
import Derived.IntWalk
namespace Go.Proofs.YtpopnlbpeboiiaaDoor
open Go.RowKit
set_option linter.unusedVariables false

theorem isUpper_any (c : UInt8) (w : World) : Calls Tryd.prog 33 #[.int .u8 (c.toNat : Int)] w fun e w' => e = .returned (.bool (isUp c)) ∧ w = w' := by
  have hc := UInt8.toNat_lt c
  have hd : isUp c = decide (65 ≤ c.toNat ∧ c.toNat ≤ 90) := rfl
  generalize c.toNat = n at *
  have HD := Lib.hid hd
  by_cases h1 : 65 ≤ n
  · by_cases h2 : n ≤ 90
    · have e : isUp c = true := by rw [hd]; simp [h1, h2]
      have HE := Lib.hid e
      have h1' : (65 : Int) ≤ n := by omega
      have h2' : (n : Int) ≤ 90 := by omega
      clear hd e
      go_enter Tryd.func33, Tryd.ntmps33
      go_wp2
      go_ret
      exact ⟨by rw [HE.out]; rfl, rfl⟩
    · have e : isUp c = false := by rw [hd]; simp [h2]
      have HE := Lib.hid e
      have h1' : (65 : Int) ≤ n := by omega
      have h2' : ¬ (n : Int) ≤ 90 := by omega
      clear hd e
      go_enter Tryd.func33, Tryd.ntmps33
      go_wp2
      go_ret
      exact ⟨by rw [HE.out]; rfl, rfl⟩
  · have e : isUp c = false := by rw [hd]; simp [h1]
    have HE := Lib.hid e
    have h1' : ¬ (65 : Int) ≤ n := by omega
    clear hd e
    go_enter Tryd.func33, Tryd.ntmps33
    go_wp2
    go_ret
    exact ⟨by rw [HE.out]; rfl, rfl⟩

theorem fold8_val (c : UInt8) : ((fold8 c).toNat : Int) = if isUp c = true then (c.toNat : Int) + 32 else c.toNat := by
  unfold fold8
  split
  · rename_i h
    simp only [isUp, decide_eq_true_eq] at h
    rw [UInt8.toNat_add]
    have : (32 : UInt8).toNat = 32 := rfl
    rw [this]; omega
  · rfl
theorem fold_any (c : UInt8) (w : World) : Calls Tryd.prog 29 #[.int .u8 (c.toNat : Int)] w fun e w' => e = .returned (.int .u8 ((fold8 c).toNat : Int)) ∧ w = w' := by
  have hv := fold8_val c
  have hu := fun w => isUpper_any c w
  have hc := UInt8.toNat_lt c
  have hb : isUp c = true → 65 ≤ c.toNat ∧ c.toNat ≤ 90 := by simp [isUp]
  cases h : isUp c with
  | true =>
    rw [h] at hu hv
    have hb := hb h
    rw [if_pos rfl] at hv
    have HU := Lib.hid hu
    have HV := Lib.hid hv
    clear hu hv h
    generalize c.toNat = n at *
    have h1 : (65 : Int) ≤ n := by omega
    have h2 : (n : Int) ≤ 90 := by omega
    have e1 : IntKind.u8.wrap ((n : Int) - 65) = (n : Int) - 65 := by simp [IntKind.wrap, IntKind.bits, IntKind.signed]; omega
    have e2 : IntKind.u8.wrap ((n : Int) - 65 + 97) = (n : Int) + 32 := by simp [IntKind.wrap, IntKind.bits, IntKind.signed]; omega
    go_enter Tryd.func29, Tryd.ntmps29
    go_wp2_with (go_at_call 33; refine (HU.out _).mono ?_; rintro e w' ⟨rfl, rfl⟩)
    go_ret
    exact ⟨by rw [HV.out]; first | rfl | (simp; omega), rfl⟩
  | false =>
    rw [h] at hu hv
    rw [if_neg (by simp)] at hv
    have HU := Lib.hid hu
    have HV := Lib.hid hv
    clear hu hv h hb
    go_enter Tryd.func29, Tryd.ntmps29
    go_wp2_with (go_at_call 33; refine (HU.out _).mono ?_; rintro e w' ⟨rfl, rfl⟩)
    go_ret
    exact ⟨by rw [HV.out]; rfl, rfl⟩

/-! ### Labels -/
theorem endAt_size {L : List UInt8} {i : Nat} (hi : i < L.length) (h : ¬ (1 ≤ L[i].toNat ∧ L[i].toNat ≤ 63 ∧ i + 1 + L[i].toNat ≤ L.length)) : endAt (L.drop i) = none := by
  rw [List.drop_eq_getElem_cons hi]
  simp only [endAt]
  rw [if_neg]
  rintro ⟨h1, h2, h3, _⟩
  simp at h3
  omega
theorem endAt_upper {L : List UInt8} {i t : Nat} (hi : i < L.length) (ht : t < L[i].toNat) (hb : i + 1 + t < L.length) (h : isUp L[i + 1 + t] = true) : endAt (L.drop i) = none := by
  rw [List.drop_eq_getElem_cons hi]
  simp only [endAt]
  rw [if_neg]
  rintro ⟨h1, h2, h3, h4⟩
  rw [List.all_eq_true] at h4
  have := h4 L[i + 1 + t] (by
    rw [List.mem_take_iff_getElem]
    exact ⟨t, by simp at h3 ⊢; omega, by simp⟩)
  rw [h] at this
  cases this
theorem endAt_ok {L : List UInt8} {i : Nat} (hi : i < L.length) (h : 1 ≤ L[i].toNat ∧ L[i].toNat ≤ 63 ∧ i + 1 + L[i].toNat ≤ L.length) (hu : ∀ t, t < L[i].toNat → ∀ hb : i + 1 + t < L.length, isUp L[i + 1 + t] = false) : endAt (L.drop i) = some (L[i].toNat + 1) := by
  rw [List.drop_eq_getElem_cons hi]
  simp only [endAt]
  rw [if_pos]
  refine ⟨h.1, h.2.1, by simp; omega, ?_⟩
  rw [List.all_eq_true]
  intro x hx
  rw [List.mem_take_iff_getElem] at hx
  obtain ⟨t, ht, rfl⟩ := hx
  simp at ht
  rw [List.getElem_drop, hu t (by omega) (by omega)]
  rfl

def endVal (L : List UInt8) (i : Nat) : Int := match endAt (L.drop i) with | some k => ((i + k : Nat) : Int) | none => -1

end Go.Proofs.YtpopnlbpeboiiaaDoor
