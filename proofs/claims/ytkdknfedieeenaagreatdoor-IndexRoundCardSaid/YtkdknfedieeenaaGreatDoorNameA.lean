/- The contracts of package name: letters, labels. -/
import Derived.Test.YtkdknfedieeenaaGreatDoorRows
import Derived.Test.YtkdknfedieeenaaGreatDoorNames
import Derived.Test.YtkdknfedieeenaaGreatDoorBuf
import Derived.WalkSmall
import Derived.Deep.DeepCutAuto
import Derived.Outline
import Derived.IntWalk
namespace Go.Proofs.YtkdknfedieeenaaGreatDoor
open Go.RowKit
set_option linter.unusedVariables false

theorem isUpper_any (c : UInt8) (w : World) : Calls Tryz.prog 103 #[.int .u8 (c.toNat : Int)] w fun e w' => e = .returned (.bool (isUp c)) ∧ w = w' := by
  have hc := UInt8.toNat_lt c
  have hd : isUp c = decide (65 ≤ c.toNat ∧ c.toNat ≤ 90) := rfl
  generalize c.toNat = n at *
  have HD := Lib.hid hd
  by_cases h1 : 65 ≤ n
  · by_cases h2 : n ≤ 90
    · have e : isUp c = true := by rw [hd]; simp [h1, h2]
      have HE := Lib.hid e
      have h1' : (65 : Int) ≤ n := by omega
      have h2' : (n : Int) ≤ 90 := by omega
      clear hd e
      go_enter Tryz.func103, Tryz.ntmps103
      go_wp2
      go_ret
      exact ⟨by rw [HE.out]; rfl, rfl⟩
    · have e : isUp c = false := by rw [hd]; simp [h2]
      have HE := Lib.hid e
      have h1' : (65 : Int) ≤ n := by omega
      have h2' : ¬ (n : Int) ≤ 90 := by omega
      clear hd e
      go_enter Tryz.func103, Tryz.ntmps103
      go_wp2
      go_ret
      exact ⟨by rw [HE.out]; rfl, rfl⟩
  · have e : isUp c = false := by rw [hd]; simp [h1]
    have HE := Lib.hid e
    have h1' : ¬ (65 : Int) ≤ n := by omega
    clear hd e
    go_enter Tryz.func103, Tryz.ntmps103
    go_wp2
    go_ret
    exact ⟨by rw [HE.out]; rfl, rfl⟩

theorem fold8_val (c : UInt8) : ((fold8 c).toNat : Int) = if isUp c = true then (c.toNat : Int) + 32 else c.toNat := by
  unfold fold8
  split
  · rename_i h
    simp only [isUp, decide_eq_true_eq] at h
    rw [UInt8.toNat_add]
    have : (32 : UInt8).toNat = 32 := rfl
    rw [this]; omega
  · rfl
theorem fold_any (c : UInt8) (w : World) : Calls Tryz.prog 74 #[.int .u8 (c.toNat : Int)] w fun e w' => e = .returned (.int .u8 ((fold8 c).toNat : Int)) ∧ w = w' := by
  have hv := fold8_val c
  have hu := fun w => isUpper_any c w
  have hc := UInt8.toNat_lt c
  have hb : isUp c = true → 65 ≤ c.toNat ∧ c.toNat ≤ 90 := by simp [isUp]
  cases h : isUp c with
  | true =>
    rw [h] at hu hv
    have hb := hb h
    rw [if_pos rfl] at hv
    have HU := Lib.hid hu
    have HV := Lib.hid hv
    clear hu hv h
    generalize c.toNat = n at *
    have h1 : (65 : Int) ≤ n := by omega
    have h2 : (n : Int) ≤ 90 := by omega
    have e1 : IntKind.u8.wrap ((n : Int) - 65) = (n : Int) - 65 := by simp [IntKind.wrap, IntKind.bits, IntKind.signed]; omega
    have e2 : IntKind.u8.wrap ((n : Int) - 65 + 97) = (n : Int) + 32 := by simp [IntKind.wrap, IntKind.bits, IntKind.signed]; omega
    go_enter Tryz.func74, Tryz.ntmps74
    go_wp2_with (go_at_call 103; refine (HU.out _).mono ?_; rintro e w' ⟨rfl, rfl⟩)
    go_ret
    exact ⟨by rw [HV.out]; first | rfl | (simp; omega), rfl⟩
  | false =>
    rw [h] at hu hv
    rw [if_neg (by simp)] at hv
    have HU := Lib.hid hu
    have HV := Lib.hid hv
    clear hu hv h hb
    go_enter Tryz.func74, Tryz.ntmps74
    go_wp2_with (go_at_call 103; refine (HU.out _).mono ?_; rintro e w' ⟨rfl, rfl⟩)
    go_ret
    exact ⟨by rw [HV.out]; rfl, rfl⟩

/-! ### Labels -/
theorem endAt_size {L : List UInt8} {i : Nat} (hi : i < L.length) (h : ¬ (1 ≤ L[i].toNat ∧ L[i].toNat ≤ 63 ∧ i + 1 + L[i].toNat ≤ L.length)) : endAt (L.drop i) = none := by
  rw [List.drop_eq_getElem_cons hi]
  simp only [endAt]
  rw [if_neg]
  rintro ⟨h1, h2, h3, _⟩
  simp at h3
  omega
theorem endAt_upper {L : List UInt8} {i t : Nat} (hi : i < L.length) (ht : t < L[i].toNat) (hb : i + 1 + t < L.length) (h : isUp L[i + 1 + t] = true) : endAt (L.drop i) = none := by
  rw [List.drop_eq_getElem_cons hi]
  simp only [endAt]
  rw [if_neg]
  rintro ⟨h1, h2, h3, h4⟩
  rw [List.all_eq_true] at h4
  have := h4 L[i + 1 + t] (by
    rw [List.mem_take_iff_getElem]
    exact ⟨t, by simp at h3 ⊢; omega, by simp⟩)
  rw [h] at this
  cases this
theorem endAt_ok {L : List UInt8} {i : Nat} (hi : i < L.length) (h : 1 ≤ L[i].toNat ∧ L[i].toNat ≤ 63 ∧ i + 1 + L[i].toNat ≤ L.length) (hu : ∀ t, t < L[i].toNat → ∀ hb : i + 1 + t < L.length, isUp L[i + 1 + t] = false) : endAt (L.drop i) = some (L[i].toNat + 1) := by
  rw [List.drop_eq_getElem_cons hi]
  simp only [endAt]
  rw [if_pos]
  refine ⟨h.1, h.2.1, by simp; omega, ?_⟩
  rw [List.all_eq_true]
  intro x hx
  rw [List.mem_take_iff_getElem] at hx
  obtain ⟨t, ht, rfl⟩ := hx
  simp at ht
  rw [List.getElem_drop, hu t (by omega) (by omega)]
  rfl

def endVal (L : List UInt8) (i : Nat) : Int := match endAt (L.drop i) with | some k => ((i + k : Nat) : Int) | none => -1

set_option maxHeartbeats 1600000 in
theorem labelEnd_any (s : ByteArray) (i : Nat) (w : World) (hs : s.size ≤ 1048576) (hi : i < s.size) :
    Calls Tryz.prog 111 #[.string s, .int .i64 i] w fun e w' => e = .returned (.int .i64 (endVal s.data.toList i)) ∧ w = w' := by
  have hlen : s.data.toList.length = s.size := by simp
  have hil : i < s.data.toList.length := by omega
  have hi' : (i : Int) < s.size := by omega
  have hc := UInt8.toNat_lt s[i]
  have e1 := @endAt_size s.data.toList i hil
  have e2 := @endAt_upper s.data.toList i
  have e3 := @endAt_ok s.data.toList i hil
  rw [toList_get s i hi] at e1 e3
  have e2' : ∀ t, t < s[i].toNat → ∀ hb : i + 1 + t < s.size, isUp s[i + 1 + t] = true → endAt (s.data.toList.drop i) = none := fun t h1 h2 h3 => e2 hil h1 (by omega) h3
  have e3' : 1 ≤ s[i].toNat ∧ s[i].toNat ≤ 63 ∧ i + 1 + s[i].toNat ≤ s.size → (∀ t, t < s[i].toNat → ∀ hb : i + 1 + t < s.size, isUp s[i + 1 + t] = false) → endAt (s.data.toList.drop i) = some (s[i].toNat + 1) :=
    fun h1 h2 => e3 (by omega) (fun t h3 h4 => h2 t h3 (by omega))
  clear e2 e3
  rw [hlen] at e1
  generalize hn : s[i].toNat = n at *
  by_cases hA : 1 ≤ n ∧ n ≤ 63 ∧ i + 1 + n ≤ s.size
  · have E2 := Lib.hid e2'
    have E3 := Lib.hid e3'
    have HN := Lib.hid hn
    have i1 : IntKind.i64.wrap (n : Int) = n := IntWalk.i64_in _ (by omega)
    have a1 : ¬ (n : Int) < 1 := by omega
    have a2 : ¬ (63 : Int) < n := by omega
    have a3 : ¬ (s.size : Int) < (i : Int) + 1 + n := by omega
    clear e1 e2' e3'
    go_enter Tryz.func111, Tryz.ntmps111
    go_wp2_with fail
    go_loop [7] (fun v => ∃ j : Nat, j ≤ n ∧ v = .int .i64 ((i + 1 + j : Nat) : Int) ∧ Hid (∀ t, t < j → ∀ hb : i + 1 + t < s.size, isUp s[i + 1 + t] = false)) (fun v => i + 1 + n - (intOf v).toNat)
    case atStart => exact ⟨0, Nat.zero_le _, by simp, Lib.hid (fun t ht => absurd ht (Nat.not_lt_zero _))⟩
    case round =>
      obtain ⟨j, hj, rfl, hup⟩ := hrel
      by_cases hlt : j < n
      · have q1 : ((i + 1 + j : Nat) : Int) < (i : Int) + 1 + n := by omega
        have q2 : ((i + 1 + j : Nat) : Int) < s.size := by omega
        have q3 : i + 1 + j < s.size := by omega
        have hu := fun w => isUpper_any s[i + 1 + j] w
        generalize hU : isUp s[i + 1 + j] = U at *
        have HU := Lib.hid hu
        have HE := Lib.hid hU
        clear hu hU
        go_wp2_with fail
        refine (HU.out _).mono ?_
        rintro e w1 ⟨rfl, rfl⟩
        cases U with
        | true =>
          go_wp2
          go_ret
          have hv : endVal s.data.toList i = -1 := by simp only [endVal, E2.out j hlt q3 HE.out]
          exact ⟨by rw [hv]; rfl, rfl⟩
        | false =>
          go_wp2
          go_round
          case rel => exact ⟨j + 1, by omega, by go_num, Lib.hid (fun t ht hb => by
            rcases Nat.lt_or_ge t j with h | h
            · exact hup.out t h hb
            · obtain rfl : t = j := by omega
              exact HE.out)⟩
          case measure => simp [intOf]; omega
      · obtain rfl : j = n := by omega
        have q1 : ¬ ((i + 1 + j : Nat) : Int) < (i : Int) + 1 + j := by omega
        go_wp2
        go_ret
        exact ⟨by rw [endVal, E3.out hA (fun t ht hb => hup.out t ht hb)]; simp; omega, rfl⟩
  · have E1 := Lib.hid (e1 hA)
    have HN := Lib.hid hn
    have i1 : IntKind.i64.wrap (n : Int) = n := IntWalk.i64_in _ (by omega)
    clear e1 e2' e3'
    have hc3 : (n : Int) < 1 ∨ (1 ≤ (n : Int) ∧ (63 : Int) < n) ∨ (1 ≤ (n : Int) ∧ (n : Int) ≤ 63 ∧ (s.size : Int) < (i : Int) + 1 + n) := by omega
    clear hA
    have hv : endVal s.data.toList i = -1 := by simp only [endVal, E1.out]
    rw [hv]
    rcases hc3 with h | ⟨h, h'⟩ | ⟨h, h', h''⟩
    · obtain rfl : n = 0 := by omega
      go_enter Tryz.func111, Tryz.ntmps111
      go_wp2
      go_ret
      exact ⟨rfl, rfl⟩
    · have h1 : ¬ (n : Int) < 1 := by omega
      go_enter Tryz.func111, Tryz.ntmps111
      go_wp2
      go_ret
      exact ⟨rfl, rfl⟩
    · have h1 : ¬ (n : Int) < 1 := by omega
      have h2 : ¬ (63 : Int) < n := by omega
      go_enter Tryz.func111, Tryz.ntmps111
      go_wp2
      go_ret
      exact ⟨rfl, rfl⟩
end Go.Proofs.YtkdknfedieeenaaGreatDoor
