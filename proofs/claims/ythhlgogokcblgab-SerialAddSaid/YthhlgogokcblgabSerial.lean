/- The contracts of package serial, and the walks of layer 6's statements. -/
import Derived.Test.YthhlgogokcblgabView
namespace Go.Proofs.Ythhlgogokcblgab
open Go.RowKit
set_option linter.unusedVariables false

def laterB (a b : Int) : Bool := decide (a ≠ b ∧ (a - b) % 4294967296 < 2147483648)
def apartB (a b : Int) : Bool := decide ((a - b) % 4294967296 = 2147483648)
theorem u32_wrap (n : Int) : IntKind.u32.wrap n = n % 4294967296 := by simp [IntKind.wrap, IntKind.bits, IntKind.signed]

theorem later_any (a b : Int) (w : World) (ha : 0 ≤ a ∧ a ≤ 4294967295) (hb : 0 ≤ b ∧ b ≤ 4294967295) :
    Calls Try.prog 21 #[.int .u32 a, .int .u32 b] w fun e w' => e = .returned (.bool (laterB a b)) ∧ w = w' := by
  by_cases h : a = b
  · have hl : laterB a b = false := by simp [laterB, h]
    have h' : (a != b) = false := by simp [h]
    have HL := Lib.hid hl
    clear hl h
    go_enter Try.func21, Try.ntmps21
    go_wp2
    go_ret
    exact ⟨by rw [HL.out]; rfl, rfl⟩
  · have h' : (a != b) = true := by simp [h]
    by_cases h2 : (a - b) % 4294967296 < 2147483648
    · have hl : laterB a b = true := by simp [laterB, h, h2]
      have HL := Lib.hid hl
      clear hl h
      go_enter Try.func21, Try.ntmps21
      go_wp2
      go_ret
      exact ⟨by rw [HL.out]; rfl, rfl⟩
    · have hl : laterB a b = false := by simp [laterB, h2]
      have HL := Lib.hid hl
      clear hl h
      go_enter Try.func21, Try.ntmps21
      go_wp2
      go_ret
      exact ⟨by rw [HL.out]; rfl, rfl⟩

theorem apart_any (a b : Int) (w : World) (ha : 0 ≤ a ∧ a ≤ 4294967295) (hb : 0 ≤ b ∧ b ≤ 4294967295) :
    Calls Try.prog 22 #[.int .u32 a, .int .u32 b] w fun e w' => e = .returned (.bool (apartB a b)) ∧ w = w' := by
  by_cases h2 : (a - b) % 4294967296 = 2147483648
  · have hl : apartB a b = true := by simp [apartB, h2]
    have h3 : ((a - b) % 4294967296 == 2147483648) = true := by simpa using h2
    have HL := Lib.hid hl
    clear hl h2
    go_enter Try.func22, Try.ntmps22
    go_wp2
    go_ret
    exact ⟨by rw [HL.out]; rfl, rfl⟩
  · have hl : apartB a b = false := by simp [apartB, h2]
    have h3 : ((a - b) % 4294967296 == 2147483648) = false := by simpa using h2
    have HL := Lib.hid hl
    clear hl h2
    go_enter Try.func22, Try.ntmps22
    go_wp2
    go_ret
    exact ⟨by rw [HL.out]; rfl, rfl⟩

theorem add_yes (a n : Int) (w : World) (ha : 0 ≤ a ∧ a ≤ 4294967295) (hn : 0 ≤ n ∧ n < 2147483648) :
    Calls Try.prog 23 #[.int .u32 a, .int .u32 n] w fun e w' => e = .returned (.tuple #[.int .u32 ((a + n) % 4294967296), .bool true]) ∧ w = w' := by
  have h2 : ¬ 2147483648 ≤ n := by omega
  go_enter Try.func23, Try.ntmps23
  go_wp2
  go_ret2
  exact ⟨rfl, rfl⟩
theorem add_no (a n : Int) (w : World) (ha : 0 ≤ a ∧ a ≤ 4294967295) (hn : 2147483648 ≤ n) :
    Calls Try.prog 23 #[.int .u32 a, .int .u32 n] w fun e w' => e = .returned (.tuple #[.int .u32 0, .bool false]) ∧ w = w' := by
  go_enter Try.func23, Try.ntmps23
  go_wp2
  go_ret2
  exact ⟨rfl, rfl⟩

theorem awake6_any (w : World) : Calls Try.prog 20 #[] w fun e w' => e = .returned (.bool true) ∧ w = w' := by
  have h1 : laterB 1 4294967295 = true := by decide
  have h2 : laterB 2147483648 0 = false := by decide
  have h3 : apartB 2147483648 0 = true := by decide
  have l1 := fun w => later_any 1 4294967295 w (by omega) (by omega)
  have l2 := fun w => later_any 2147483648 0 w (by omega) (by omega)
  have l3 := fun w => apart_any 2147483648 0 w (by omega) (by omega)
  rw [h1] at l1
  rw [h2] at l2
  rw [h3] at l3
  have L1 := Lib.hid l1
  have L2 := Lib.hid l2
  have L3 := Lib.hid l3
  clear l1 l2 l3 h1 h2 h3
  go_enter Try.func20, Try.ntmps20
  go_wp2_with fail
  refine (L1.out _).mono ?_
  rintro e w1 ⟨rfl, rfl⟩
  go_wp2_with fail
  refine (L2.out _).mono ?_
  rintro e w1 ⟨rfl, rfl⟩
  go_wp2_with fail
  refine (L3.out _).mono ?_
  rintro e w1 ⟨rfl, rfl⟩
  go_wp2_with fail
  go_ret
  exact ⟨rfl, rfl⟩
end Go.Proofs.Ythhlgogokcblgab
