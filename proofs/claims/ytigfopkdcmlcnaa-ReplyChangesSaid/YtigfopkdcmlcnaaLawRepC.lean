/- Limit; the walk of ReplyChanges. -/
import Derived.Test.YtigfopkdcmlcnaaRepD
import Derived.Test.YtigfopkdcmlcnaaView
import Derived.Outline
namespace Go.Proofs.Ytigfopkdcmlcnaa
open Go.RowKit
set_option linter.unusedVariables false
set_option maxRecDepth 20000
def lim (z : Int) (tcp : Bool) : Int := if tcp then 4096 else if z < 512 then 512 else if 4096 < z then 4096 else z
set_option maxHeartbeats 1600000 in
theorem limit_any (x0 x1 x2 x3 x4 x5 x6 x7 x8 x9 x10 x11 x12 : Value) (z : Int) (tcp : Bool) (w : World) : Calls Try.prog 27 #[.agg #[x0, x1, x2, x3, x4, x5, x6, x7, x8, x9, x10, x11, x12, .int .i64 z], .bool tcp] w fun e w' => e = .returned (.int .i64 (lim z tcp)) ∧ Below w.heap.size w w' := by
  cases tcp with
  | true =>
    rw [show lim z true = 4096 from rfl]
    go_enter Try.func27, Try.ntmps27
    go_wp2_with fail
    go_ret
    exact ⟨rfl, (Below.refl _ _).alloc (Nat.le_refl _) _⟩
  | false =>
    by_cases h1 : z < 512
    · rw [show lim z false = 512 from by unfold lim; simp [h1]]
      have k1 : z < 4096 := by omega
      have k1 : ¬ 4096 < z := by omega
      have k2 : ¬ 512 < z := by omega
      go_enter Try.func27, Try.ntmps27
      go_wp2_with fail
      go_ret
      exact ⟨rfl, (Below.refl _ _).alloc (Nat.le_refl _) _⟩
    · by_cases h2 : 4096 < z
      · rw [show lim z false = 4096 from by unfold lim; simp [h1, h2]]
        have k1 : ¬ z < 4096 := by omega
        go_enter Try.func27, Try.ntmps27
        go_wp2_with fail
        go_ret
        exact ⟨rfl, (Below.refl _ _).alloc (Nat.le_refl _) _⟩
      · rw [show lim z false = z from by unfold lim; simp [h1, h2]]
        by_cases h3 : z = 512
        · subst h3
          go_enter Try.func27, Try.ntmps27
          go_wp2_with fail
          go_ret
          exact ⟨rfl, (Below.refl _ _).alloc (Nat.le_refl _) _⟩
        · have k1 : ¬ z < 512 := by omega
          have k2 : ¬ z ≤ 512 := by omega
          clear h3
          go_enter Try.func27, Try.ntmps27
          go_wp2_with fail
          go_ret
          exact ⟨rfl, (Below.refl _ _).alloc (Nat.le_refl _) _⟩
end Go.Proofs.Ytigfopkdcmlcnaa
