/- The contract of Common. -/
import Derived.Test.YtioichenjoeonaaPfxB
import Derived.Test.YtioichenjoeonaaPfx3
import Derived.Test.YtioichenjoeonaaShelf
namespace Go.Proofs.Ytioichenjoeonaa
open Go.RowKit
set_option linter.unusedVariables false
def commonN (a b : ByteArray) : Nat := if isAddr a.size = true ∧ a.size = b.size then alike (bitsL a.data.toList) (bitsL b.data.toList) else 0
set_option maxHeartbeats 1600000 in
theorem common_any (a b : ByteArray) (w : World) (ha : a.size ≤ maxLen) (hb : b.size ≤ maxLen) :
    Calls Try.prog 23 #[.string a, .string b] w fun e w' => e = .returned (.int .i64 (commonN a b)) ∧ ∃ j, w.drewN j = w' := by
  have HAD := Lib.hid (fun w => address_any a w ha)
  unfold maxLen at ha hb
  cases hA : isAddr a.size with
  | false =>
    have HR : Hid (commonN a b = 0) := Lib.hid (by unfold commonN; rw [if_neg (by rw [hA]; simp)])
    go_enter Try.func23, Try.ntmps23
    go_wp2_with fail
    refine (HAD.out _).mono ?_
    rw [hA]
    rintro e w1 ⟨rfl, rfl⟩
    go_wp2_with fail
    go_ret
    exact ⟨by rw [HR.out]; rfl, 0, rfl⟩
  | true =>
    by_cases hs : a.size = b.size
    · have HR : Hid (commonN a b = alike (bitsL a.data.toList) (bitsL b.data.toList)) := Lib.hid (by unfold commonN; rw [if_pos ⟨hA, hs⟩])
      have h16 := isAddr_le hA
      have hal : a.data.toList.length = a.size := by simp
      have hbl : b.data.toList.length = b.size := by simp
      have HAL := Lib.hid hal
      have HBL := Lib.hid hbl
      have HS := Lib.hid hs
      have hne : ((a.size : Int) != b.size) = false := by rw [hs]; simp
      clear hal hbl
      go_enter Try.func23, Try.ntmps23
      go_wp2_with fail
      refine (HAD.out _).mono ?_
      rw [hA]
      rintro e w1 ⟨rfl, rfl⟩
      clear hA hne
      go_wp2_with fail
      go_loopw [18] (fun i wr => ∃ k : Nat, k ≤ b.size ∧ i = .int .i64 k ∧ Hid (a.data.toList.take k = b.data.toList.take k) ∧ ∃ j, wr = w.drewN j) (fun i _ => b.size - (intOf i).toNat)
      case atStart => exact ⟨0, Nat.zero_le _, rfl, Lib.hid rfl, 0, rfl⟩
      case round =>
        obtain ⟨k, hk, rfl, hT, j, rfl⟩ := hrel
        by_cases hlt : k < b.size
        · have hka : k < a.size := by omega
          have hkal : k < a.data.toList.length := by rw [HAL.out]; exact hka
          have hkbl : k < b.data.toList.length := by rw [HBL.out]; exact hlt
          have hltb : (k : Int) < b.size := by omega
          obtain ⟨x, hx⟩ : ∃ x, a[k]'hka = x := ⟨_, rfl⟩
          obtain ⟨y, hy⟩ : ∃ y, b[k]'hlt = y := ⟨_, rfl⟩
          have h1 : a.data.toList[k] = x := by rw [← hx]; exact toList_get a k hka
          have h2 : b.data.toList[k] = y := by rw [← hy]; exact toList_get b k hlt
          have hnext : x = y → Hid (a.data.toList.take (k + 1) = b.data.toList.take (k + 1)) := fun e => Lib.hid (by
            rw [List.take_succ_eq_append_getElem hkal, List.take_succ_eq_append_getElem hkbl, hT.out, h1, h2, e])
          have hat := fun (e : x ≠ y) => alike_at a.data.toList b.data.toList k (by rw [HAL.out, HBL.out]; exact hs) hkal hT.out (by rw [h1, h2]; exact e)
          rw [h1, h2] at hat
          have HAT := Lib.hid hat
          have HNX := Lib.hid hnext
          clear h1 h2 hat hnext hkal hkbl
          have h8x := UInt8.toNat_lt x
          have h8y := UInt8.toNat_lt y
          obtain ⟨p, hp⟩ : ∃ p, x.toNat = p := ⟨_, rfl⟩
          obtain ⟨q, hq⟩ : ∃ q, y.toNat = q := ⟨_, rfl⟩
          rw [hp, hq] at HAT
          rw [hp] at h8x
          rw [hq] at h8y
          by_cases hxy : x = y
          · have hn := HNX.out hxy
            subst hxy
            obtain rfl : p = q := by omega
            go_upto_region 6 with fail
            go_quiet (fail)
            go_wp2_with fail
            go_roundw
            case rel => exact ⟨k + 1, by omega, by go_num, hn, _, rfl⟩
            case measure => simp [intOf]; omega
          · have hpq : p ≠ q := by
              intro e; apply hxy; apply UInt8.toNat_inj.1; omega
            have hat := HAT.out hxy
            have hne : ((p : Int) != (q : Int)) = true := by simp; omega
            have hxor : bits .xor .u8 (p : Int) (q : Int) = ((p ^^^ q : Nat) : Int) := u8_xor_nat p q h8x h8y
            have hz256 : p ^^^ q < 256 := Nat.xor_lt_two_pow (n := 8) h8x h8y
            have hble := bitLen_le8 (p ^^^ q) hz256
            obtain ⟨z, hz⟩ : ∃ z, p ^^^ q = z := ⟨_, rfl⟩
            rw [hz] at hat hxor hz256 hble
            have HL := Lib.hid hat
            have e1 : IntKind.i64.wrap (8 * (k : Int)) = 8 * (k : Int) := IntWalk.i64_in _ (by omega)
            have e2 : IntKind.i64.wrap (8 * (k : Int) + (8 - (Lib.bitLen z : Int))) = 8 * (k : Int) + (8 - (Lib.bitLen z : Int)) := IntWalk.i64_in _ (by omega)
            clear hat hpq hz hxy HAT HNX
            go_upto_region 6 with fail
            go_quiet (fail)
            go_upto_region 7 with fail
            obtain ⟨w5, hw5⟩ : ∃ w5, (w.drewN j).drewN nq = w5 := ⟨_, rfl⟩
            rw [hw5]
            have HW5 : Hid (w.drewN (j + nq) = w5) := Lib.hid (by rw [← hw5]; simp [World.drewN, Nat.add_assoc])
            clear hw5
            go_quiet ((go_at_call 40; exact Calls.quiet_of_same (Try.bits_LeadingZeros8 _ _ (by omega) (by omega))))
            go_wp2_with fail
            go_ret
            exact ⟨congrArg (fun n => Ending.returned (.int .i64 n)) (by rw [HR.out, HL.out]; omega), _, by rw [← HW5.out, World.drewN_drewN]⟩
        · obtain rfl : k = b.size := by omega
          have hall : Hid (alike (bitsL a.data.toList) (bitsL b.data.toList) = 8 * b.size) := Lib.hid (by
            have h := hT.out
            rw [List.take_of_length_le (by rw [HAL.out, hs]; exact Nat.le_refl _), List.take_of_length_le (by rw [HBL.out]; exact Nat.le_refl _)] at h
            rw [h, alike_self, bitsL_length, HBL.out])
          go_wp2_with fail
          go_ret
          exact ⟨by rw [HR.out, hall.out]; simp, _, rfl⟩
    · have HR : Hid (commonN a b = 0) := Lib.hid (by unfold commonN; rw [if_neg (fun h => hs h.2)])
      have hne : ((a.size : Int) != b.size) = true := by simp; omega
      go_enter Try.func23, Try.ntmps23
      go_wp2_with fail
      refine (HAD.out _).mono ?_
      rw [hA]
      rintro e w1 ⟨rfl, rfl⟩
      clear hA
      go_wp2_with fail
      go_ret
      exact ⟨by rw [HR.out]; rfl, 0, rfl⟩
end Go.Proofs.Ytioichenjoeonaa
