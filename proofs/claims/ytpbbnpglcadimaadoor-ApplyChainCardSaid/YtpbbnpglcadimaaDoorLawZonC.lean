/- The walk of ZoneCompare. -/
import Derived.Test.YtpbbnpglcadimaaDoorZonE
import Derived.Test.YtpbbnpglcadimaaDoorView
namespace Go.Proofs.YtpbbnpglcadimaaDoor
open Go.RowKit
set_option linter.unusedVariables false
set_option linter.unusedSimpArgs false
set_option maxRecDepth 20000
attribute [local simp] putsF isV wordOf Deps Region.binds Region.wanted Act.put wantedX isB
/-- What tells two strings apart, or not. -/
theorem cmpS_facts (s t : ByteArray) : (cmpS s t = 0 ∧ (s.toList == t.toList) = true) ∨ (cmpS s t = -1 ∧ (s.toList == t.toList) = false ∧ Op.bytesLess s.toList t.toList = true) ∨ (cmpS s t = 1 ∧ (s.toList == t.toList) = false ∧ Op.bytesLess s.toList t.toList = false) := by
  have hl := less_cmpB s.toList t.toList
  have hz := cmpB_zero s.toList t.toList
  have hr := cmpB_range s.toList t.toList
  unfold cmpS
  rcases hr with h | h | h
  · right; left
    refine ⟨h, ?_, by rw [hl, h]; rfl⟩
    rw [beq_eq_false_iff_ne]; intro e; rw [hz.2 e] at h; cases h
  · left; exact ⟨h, by rw [beq_iff_eq]; exact hz.1 h⟩
  · right; right
    refine ⟨h, ?_, by rw [hl, h]; rfl⟩
    rw [beq_eq_false_iff_ne]; intro e; rw [hz.2 e] at h; cases h
theorem cmpI_facts (a b : Int) : (cmpI a b = 0 ∧ (a != b) = false) ∨ (cmpI a b = -1 ∧ (a != b) = true ∧ a < b) ∨ (cmpI a b = 1 ∧ (a != b) = true ∧ ¬ a < b) := by
  unfold cmpI
  by_cases h1 : a < b
  · right; left; exact ⟨by simp [h1], by simp; omega, h1⟩
  · by_cases h2 : b < a
    · right; right; exact ⟨by simp [h1, h2], by simp; omega, h1⟩
    · left; exact ⟨by simp [h1, h2], by simp; omega⟩
set_option maxHeartbeats 3200000 in
theorem compare8_any (r r' : RecT) (w : World) : Calls Tryd.prog 55 #[recV r, recV r'] w fun e w' => e = .returned (.int .i64 (cmpR r r')) ∧ Below w.heap.size w w' := by
  obtain ⟨q, hq⟩ : ∃ q, eqB r r' = q := ⟨_, rfl⟩
  have hnq := fun w => rec_eql r r' w
  rw [hq] at hnq
  have hqz : q = true ↔ cmpR r r' = 0 := by rw [← hq, eqB_iff, cmpR_is.zero]
  have hC : cmpR r r' = thenC (cmpS r.1 r'.1) (thenC (cmpI r.2.1 r'.2.1) (thenC (cmpS r.2.2.2 r'.2.2.2) (cmpI r.2.2.1 r'.2.2.1))) := rfl
  have f0 := cmpS_facts r.1 r'.1
  have f1 := cmpI_facts r.2.1 r'.2.1
  have f2 := cmpS_facts r.2.2.2 r'.2.2.2
  have f3 := cmpI_facts r.2.2.1 r'.2.2.1
  obtain ⟨C, hCC⟩ : ∃ C, cmpR r r' = C := ⟨_, rfl⟩
  rw [hCC] at hqz hC ⊢
  unfold recV at hnq ⊢
  clear hCC hq
  rcases f0 with ⟨e0, n0⟩ | ⟨e0, n0, l0⟩ | ⟨e0, n0, l0⟩
  · rcases f1 with ⟨e1, n1⟩ | ⟨e1, n1, l1⟩ | ⟨e1, n1, l1⟩
    · rcases f2 with ⟨e2, n2⟩ | ⟨e2, n2, l2⟩ | ⟨e2, n2, l2⟩
      · rcases f3 with ⟨e3, n3⟩ | ⟨e3, n3, l3⟩ | ⟨e3, n3, l3⟩
        · obtain rfl : C = 0 := by rw [hC]; simp [thenC, e0, e1, e2, e3]
          obtain rfl : q = true := by exact hqz.2 rfl
          clear hC hqz e0 e1 e2 e3
          go_enter Tryd.func55, Tryd.ntmps55
          go_wp2_with fail
          go_ret
          exact ⟨rfl, ((Below.refl _ _).alloc (Nat.le_refl _) _).alloc (by simp) _⟩
        · obtain rfl : C = -1 := by rw [hC]; simp [thenC, e0, e1, e2, e3]
          obtain rfl : q = false := by cases q with | false => rfl | true => exact absurd (hqz.1 rfl) (by decide)
          clear hC hqz e0 e1 e2 e3
          go_enter Tryd.func55, Tryd.ntmps55
          go_wp2_with fail
          go_ret
          exact ⟨rfl, ((Below.refl _ _).alloc (Nat.le_refl _) _).alloc (by simp) _⟩
        · obtain rfl : C = 1 := by rw [hC]; simp [thenC, e0, e1, e2, e3]
          obtain rfl : q = false := by cases q with | false => rfl | true => exact absurd (hqz.1 rfl) (by decide)
          clear hC hqz e0 e1 e2 e3
          go_enter Tryd.func55, Tryd.ntmps55
          go_wp2_with fail
          go_ret
          exact ⟨rfl, ((Below.refl _ _).alloc (Nat.le_refl _) _).alloc (by simp) _⟩
      · obtain rfl : C = -1 := by rw [hC]; simp [thenC, e0, e1, e2]
        obtain rfl : q = false := by cases q with | false => rfl | true => exact absurd (hqz.1 rfl) (by decide)
        clear hC hqz e0 e1 e2
        go_enter Tryd.func55, Tryd.ntmps55
        go_wp2_with fail
        go_ret
        exact ⟨rfl, ((Below.refl _ _).alloc (Nat.le_refl _) _).alloc (by simp) _⟩
      · obtain rfl : C = 1 := by rw [hC]; simp [thenC, e0, e1, e2]
        obtain rfl : q = false := by cases q with | false => rfl | true => exact absurd (hqz.1 rfl) (by decide)
        clear hC hqz e0 e1 e2
        go_enter Tryd.func55, Tryd.ntmps55
        go_wp2_with fail
        go_ret
        exact ⟨rfl, ((Below.refl _ _).alloc (Nat.le_refl _) _).alloc (by simp) _⟩
    · obtain rfl : C = -1 := by rw [hC]; simp [thenC, e0, e1]
      obtain rfl : q = false := by cases q with | false => rfl | true => exact absurd (hqz.1 rfl) (by decide)
      clear hC hqz e0 e1
      go_enter Tryd.func55, Tryd.ntmps55
      go_wp2_with fail
      go_ret
      exact ⟨rfl, ((Below.refl _ _).alloc (Nat.le_refl _) _).alloc (by simp) _⟩
    · obtain rfl : C = 1 := by rw [hC]; simp [thenC, e0, e1]
      obtain rfl : q = false := by cases q with | false => rfl | true => exact absurd (hqz.1 rfl) (by decide)
      clear hC hqz e0 e1
      go_enter Tryd.func55, Tryd.ntmps55
      go_wp2_with fail
      go_ret
      exact ⟨rfl, ((Below.refl _ _).alloc (Nat.le_refl _) _).alloc (by simp) _⟩
  · obtain rfl : C = -1 := by rw [hC]; simp [thenC, e0]
    obtain rfl : q = false := by cases q with | false => rfl | true => exact absurd (hqz.1 rfl) (by decide)
    clear hC hqz e0
    go_enter Tryd.func55, Tryd.ntmps55
    go_wp2_with fail
    go_ret
    exact ⟨rfl, ((Below.refl _ _).alloc (Nat.le_refl _) _).alloc (by simp) _⟩
  · obtain rfl : C = 1 := by rw [hC]; simp [thenC, e0]
    obtain rfl : q = false := by cases q with | false => rfl | true => exact absurd (hqz.1 rfl) (by decide)
    clear hC hqz e0
    go_enter Tryd.func55, Tryd.ntmps55
    go_wp2_with fail
    go_ret
    exact ⟨rfl, ((Below.refl _ _).alloc (Nat.le_refl _) _).alloc (by simp) _⟩
end Go.Proofs.YtpbbnpglcadimaaDoor
