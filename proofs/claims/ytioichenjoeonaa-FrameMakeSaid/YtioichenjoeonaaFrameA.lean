/- The contracts of package frame: Check, first. -/
import Derived.Test.YtioichenjoeonaaRows
import Derived.Test.YtioichenjoeonaaFrames
import Derived.Test.YtioichenjoeonaaNum
import Derived.Test.YtioichenjoeonaaBuf2
import Derived.Test.YtioichenjoeonaaReg
import Derived.Outline
namespace Go.Proofs.Ytioichenjoeonaa
open Go.RowKit
set_option linter.unusedVariables false

theorem flip_nat (n : Nat) (h : n < 65536) : 65535 ^^^ n = 65535 - n := by
  apply Nat.eq_of_testBit_eq
  intro i
  rw [Nat.testBit_xor, show 65535 = 2 ^ 16 - 1 by rfl, Nat.testBit_two_pow_sub_one, show 2 ^ 16 - 1 - n = 2 ^ 16 - (n + 1) by omega, Nat.testBit_two_pow_sub_succ (by omega)]
  by_cases hi : i < 16
  · simp [hi]
  · rw [Nat.testBit_lt_two_pow (Nat.lt_of_lt_of_le h (Nat.pow_le_pow_right (n := 2) (by omega) (by omega : 16 ≤ i)))]
    simp [hi]
theorem flip16 (n : Nat) (h : n < 65536) : bits .xor .u16 IntKind.u16.max (n : Int) = ((65535 - n : Nat) : Int) := by
  rw [show IntKind.u16.max = ((65535 : Nat) : Int) by rfl, u16_xor_nat _ _ (by omega) h, flip_nat n h]

theorem check_any (A : Option Addr) (n c : Nat) (l : List UInt8) (w : World) (hA : Sl w w.heap.size 1 A n (l.map bv)) (hn : n ≤ maxLen) :
    Calls Try.prog 37 #[.slice A n c] w fun e w' => e = .returned (.int .u16 (chkN l)) ∧ w = w' := by
  unfold maxLen at hn
  have hl : l.length = n := by simpa using hA.1
  go_enter Try.func37, Try.ntmps37
  go_wp2
  go_loop [3, 4, 9] (fun s t i => ∃ k : Nat, k ≤ n ∧ i = .int .i64 k ∧ s = .int .u16 ((chkP (l.take k)).1 : Nat) ∧ t = .int .u16 ((chkP (l.take k)).2 : Nat)) (fun _ _ i => n - (intOf i).toNat)
  case atStart => exact ⟨0, Nat.zero_le _, rfl, rfl, rfl⟩
  case round =>
    obtain ⟨k, hk, rfl, rfl, rfl⟩ := hrel
    have hb := chkP_lt (l.take k)
    by_cases hlt : k < n
    · obtain ⟨b, off, u, rfl, hbb, hu, hc⟩ := hA.at_ hlt
      have hkl : k < l.length := by omega
      have ht := chkP_take hkl
      simp only [List.getElem?_map, List.getElem?_eq_getElem hkl, Option.map_some, Option.some.injEq] at hu
      have h8 := UInt8.toNat_lt l[k]
      subst hu
      simp only [bv] at hc
      generalize (l[k]).toNat = y at *
      generalize (chkP (l.take k)).1 = s at *
      generalize (chkP (l.take k)).2 = t at *
      have HT := Lib.hid ht
      clear ht hl
      go_wp2
      go_round
      case rel => exact ⟨k + 1, by omega, by go_num, by rw [HT.out]; simp, by rw [HT.out]; simp⟩
      case measure => simp [intOf]; omega
    · rw [List.take_of_length_le (by omega)] at hb ⊢
      have hq : chkN l = 256 * (chkP l).2 + (chkP l).1 := rfl
      have HQ := Lib.hid hq
      clear hl hq
      generalize (chkP l).1 = s at *
      generalize (chkP l).2 = t at *
      go_wp2
      go_ret
      exact ⟨by rw [HQ.out]; simp, rfl⟩
end Go.Proofs.Ytioichenjoeonaa
