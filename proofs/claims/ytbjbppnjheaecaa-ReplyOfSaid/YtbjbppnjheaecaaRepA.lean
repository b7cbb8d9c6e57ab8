/- The document's example of layer 21. -/
import Derived.Test.YtbjbppnjheaecaaNameC
import Derived.Test.YtbjbppnjheaecaaNameE
import Derived.Test.YtbjbppnjheaecaaCs
import Derived.Test.YtbjbppnjheaecaaOb
import Derived.Outline
namespace Go.Proofs.Ytbjbppnjheaecaa
open Go.RowKit
set_option linter.unusedVariables false
set_option maxRecDepth 20000
/-- The example's query, and the replies to it. -/
def q21 : Value := .agg #[.int .u16 0, .bool false, .int .i64 0, .bool false, .bool false, .bool false, .bool false, .int .i64 0, .string ⟨#[1, 97]⟩, .int .u16 1, .slice none 0 0, .slice none 0 0, .slice none 0 0, .int .i64 0]
def e21 : Value := .agg #[.int .u16 0, .bool false, .int .i64 0, .bool false, .bool false, .bool false, .bool false, .int .i64 0, .string ⟨#[]⟩, .int .u16 0, .slice none 0 0, .slice none 0 0, .slice none 0 0, .int .i64 0]
def a21 : Value := .agg #[.int .i64 7, .string ⟨#[1, 120]⟩, .bool true, .slice none 0 0]
def b21 (A : Option Addr) (n c : Nat) : Value := .agg #[.int .u16 0, .bool true, .int .i64 0, .bool false, .bool false, .bool false, .bool true, .int .i64 0, .string ⟨#[1, 97]⟩, .int .u16 1, .slice A n c, .slice none 0 0, .slice none 0 0, .int .i64 0]
set_option maxHeartbeats 1600000 in
theorem base21 (w : World) : Calls Try.prog 11 #[q21, .int .i64 0] w fun e w' => e = .returned (b21 none 0 0) ∧ Below w.heap.size w w' := by
  unfold q21 b21
  have hb : bits .and .i64 0 15 = 0 := by kernel_rfl
  go_enter Try.func11, Try.ntmps11
  go_wp2_with fail
  refine bodyPost_ret (v := .agg #[.int .u16 0, .bool true, .int .i64 0, .bool false, .bool false, .bool false, .bool true, .int .i64 0, .string ⟨#[1, 97]⟩, .int .u16 1, .slice none 0 0, .slice none 0 0, .slice none 0 0, .int .i64 0]) (by simp [results, Try.results11, go_sem]) rfl ⟨rfl, ?_⟩
  exact ((Below.refl _ _).alloc (Nat.le_refl _) _).alloc (by simp) _
theorem may21 : (labelsOf ⟨#[1, 120]⟩).isSome = true := by kernel_rfl
theorem join21 : joinOf ⟨#[1, 97]⟩ ⟨#[1, 120]⟩ = some ⟨#[1, 97, 1, 120]⟩ := by kernel_rfl
set_option maxHeartbeats 1600000 in
theorem goal21 (w : World) : Calls Try.prog 22 #[a21, .string ⟨#[1, 97]⟩] w fun e w' => e = .returned (.tuple #[.string ⟨#[1, 97, 1, 120]⟩, .bool true]) ∧ Below w.heap.size w w' := by
  have MA := Lib.hid (fun w => may_any ⟨#[1, 120]⟩ w (by unfold maxLen; decide))
  have JN := Lib.hid (fun w => join_any ⟨#[1, 97]⟩ ⟨#[1, 120]⟩ w (by unfold maxLen; decide) (by unfold maxLen; decide))
  rw [may21] at MA
  rw [join21] at JN
  unfold a21
  have hC := Cs.new w #[.int .i64 7, .string ⟨#[1, 120]⟩, .bool true, .slice none 0 0] 54 [.int .i64 7, .string ⟨#[1, 120]⟩, .bool true, .slice none 0 0]
  go_enter Try.func22, Try.ntmps22
  go_wp2_with fail
  refine (MA.out _).mono ?_
  rintro e w1 ⟨rfl, hb1'⟩
  have hC1 := hC.below hb1'
  have hb1 := below_alloc _ (Below.refl _ _) (Nat.le_refl _) hb1'
  have c1 := hC1.get 1 _
  have c2 := hC1.get 2 _
  clear hC hC1 hb1'
  go_wp2_with fail
  refine (JN.out _).mono ?_
  rintro e w2 ⟨rfl, hb2'⟩
  have hb2 := below_trans hb1 hb1.size hb2'
  go_wp2_with fail
  go_ret2
  exact ⟨rfl, hb2⟩
/-- Whether an action of a kind changes an answer. -/
def chg (k : Int) (tcp : Bool) : Bool := k == 3 || k == 4 || k == 5 || k == 7 || k == 8 || (k == 6 && !tcp)
set_option maxHeartbeats 1600000 in
theorem changes_any (k : Int) (s : ByteArray) (b : Bool) (tcp : Bool) (w : World) : Calls Try.prog 23 #[.agg #[.int .i64 k, .string s, .bool b, .slice none 0 0], .bool tcp] w fun e w' => e = .returned (.bool (chg k tcp)) ∧ Below w.heap.size w w' := by
  have h : k = 3 ∨ k = 4 ∨ k = 5 ∨ k = 7 ∨ k = 8 ∨ k = 6 ∨ (k ≠ 3 ∧ k ≠ 4 ∧ k ≠ 5 ∧ k ≠ 7 ∧ k ≠ 8 ∧ k ≠ 6) := by omega
  rcases h with rfl | rfl | rfl | rfl | rfl | rfl | ⟨h3, h4, h5, h7, h8, h6⟩
  iterate 5
    (· rw [show chg _ tcp = true from rfl]
       go_enter Try.func23, Try.ntmps23
       go_wp2_with fail
       go_ret
       exact ⟨rfl, (Below.refl _ _).alloc (Nat.le_refl _) _⟩)
  · rw [show chg 6 tcp = !tcp from by cases tcp <;> rfl]
    go_enter Try.func23, Try.ntmps23
    go_wp2_with fail
    go_ret
    exact ⟨rfl, (Below.refl _ _).alloc (Nat.le_refl _) _⟩
  · have e3 : (k == 3) = false := by simpa using h3
    have e4 : (k == 4) = false := by simpa using h4
    have e5 : (k == 5) = false := by simpa using h5
    have e7 : (k == 7) = false := by simpa using h7
    have e8 : (k == 8) = false := by simpa using h8
    have e6 : (k == 6) = false := by simpa using h6
    rw [show chg k tcp = false from by unfold chg; rw [e3, e4, e5, e7, e8, e6]; rfl]
    clear h3 h4 h5 h7 h8 h6
    go_enter Try.func23, Try.ntmps23
    go_wp2_with fail
    go_ret
    exact ⟨rfl, (Below.refl _ _).alloc (Nat.le_refl _) _⟩
end Go.Proofs.Ytbjbppnjheaecaa
