/- The contract of frame.All where no frame begins. -/
import Derived.Test.YtidpffgdndjgpaaDoorFrameM
namespace Go.Proofs.YtidpffgdndjgpaaDoor
open Go.RowKit
set_option linter.unusedVariables false
set_option maxRecDepth 20000
theorem all_none (A : Option Addr) (n c : Nat) (l : List UInt8) (w : World) (hS : Sl w w.heap.size 1 A n (l.map bv)) (hA0 : A = none → n = 0 ∧ c = 0) (hn : n ≤ c) (hN : n ≤ 281474976710656) (h : firstL l = none) :
    Calls Tryd.prog 19 #[.slice A n c] w fun e w' => e = .returned (.tuple #[.slice none 0 0, .int .i64 0]) ∧ ∃ k, w.drewN k = w' := by
  have HF := Lib.hid ((first_any A n c l w hS (fun h => (hA0 h).1) hn hN).1 h)
  have HA := Lib.hid hA0
  clear h hA0
  cases A with
  | none =>
    obtain ⟨rfl, rfl⟩ := HA.out rfl
    go_enter Tryd.func19, Tryd.ntmps19
    go_wp2_with fail
    refine wp_loop_rounds 1 ?_
    rw [rounds_succ]
    go_wp2_with fail
    refine HF.out.mono ?_
    rintro e w1 ⟨rfl, k1, rfl⟩
    go_wp2_with fail
    go_ret2
    exact ⟨rfl, _, rfl⟩
  | some ad =>
    by_cases h0 : c = 0
    · subst h0
      obtain rfl : n = 0 := by omega
      go_enter Tryd.func19, Tryd.ntmps19
      go_wp2_with fail
      refine wp_loop_rounds 1 ?_
      rw [rounds_succ]
      go_wp2_with fail
      refine HF.out.mono ?_
      rintro e w1 ⟨rfl, k1, rfl⟩
      go_wp2_with fail
      go_ret2
      exact ⟨rfl, _, rfl⟩
    · have hn0 : ¬ 0 = c := fun e => h0 e.symm
      go_enter Tryd.func19, Tryd.ntmps19
      go_wp2_with fail
      refine wp_loop_rounds 1 ?_
      rw [rounds_succ]
      go_wp2_with fail
      refine HF.out.mono ?_
      rintro e w1 ⟨rfl, k1, rfl⟩
      go_wp2_with fail
      go_ret2
      exact ⟨rfl, _, rfl⟩
end Go.Proofs.YtidpffgdndjgpaaDoor
