/- The walk of ReplyChanges. -/
import Derived.Test.YtigfopkdcmlcnaaLawRepD
import Derived.Test.YtigfopkdcmlcnaaLawRepE
import Derived.Test.YtigfopkdcmlcnaaLawRepF
import Derived.Test.YtigfopkdcmlcnaaLawRepG
namespace Go.Proofs.Ytigfopkdcmlcnaa
open Go.RowKit
set_option linter.unusedVariables false
theorem cells14 {cs : Array Value} (h : cs.size = 14) : ∃ x0 x1 x2 x3 x4 x5 x6 x7 x8 x9 x10 x11 x12 y, cs = #[x0, x1, x2, x3, x4, x5, x6, x7, x8, x9, x10, x11, x12, y] := by
  obtain ⟨l⟩ := cs
  have hl : l.length = 14 := h
  rcases l with _ | ⟨x0, _ | ⟨x1, _ | ⟨x2, _ | ⟨x3, _ | ⟨x4, _ | ⟨x5, _ | ⟨x6, _ | ⟨x7, _ | ⟨x8, _ | ⟨x9, _ | ⟨x10, _ | ⟨x11, _ | ⟨x12, _ | ⟨y, l⟩⟩⟩⟩⟩⟩⟩⟩⟩⟩⟩⟩⟩⟩ <;> simp at hl
  subst hl
  exact ⟨_, _, _, _, _, _, _, _, _, _, _, _, _, _, rfl⟩
theorem replyChanges_walk (w : World) (k : Int) (hk : (Lit.int .i64 k).wf = true) (tcp : Bool) (z : Int) (hz : (Lit.int .i64 z).wf = true) (cs : Array Value) (hcs : cs.size = 14) :
    Calls Try.prog 7 #[.int .i64 k, .bool tcp, .int .i64 z, .agg cs] w fun e w' => e = .returned (.bool true) ∧ Below w.heap.size w w' := by
  obtain ⟨x0, x1, x2, x3, x4, x5, x6, x7, x8, x9, x10, x11, x12, y, rfl⟩ := cells14 hcs
  have h : k = 3 ∨ k = 4 ∨ k = 5 ∨ k = 7 ∨ k = 8 ∨ k = 6 ∨ (k ≠ 3 ∧ k ≠ 4 ∧ k ≠ 5 ∧ k ≠ 7 ∧ k ≠ 8 ∧ k ≠ 6) := by omega
  rcases h with rfl | rfl | rfl | rfl | rfl | rfl | ⟨h3, h4, h5, h7, h8, h6⟩ <;> cases tcp
  · exact replyChanges_3f x0 x1 x2 x3 x4 x5 x6 x7 x8 x9 x10 x11 x12 y z w
  · exact replyChanges_3t x0 x1 x2 x3 x4 x5 x6 x7 x8 x9 x10 x11 x12 y z w
  · exact replyChanges_4f x0 x1 x2 x3 x4 x5 x6 x7 x8 x9 x10 x11 x12 y z w
  · exact replyChanges_4t x0 x1 x2 x3 x4 x5 x6 x7 x8 x9 x10 x11 x12 y z w
  · exact replyChanges_5f x0 x1 x2 x3 x4 x5 x6 x7 x8 x9 x10 x11 x12 y z w
  · exact replyChanges_5t x0 x1 x2 x3 x4 x5 x6 x7 x8 x9 x10 x11 x12 y z w
  · exact replyChanges_7f x0 x1 x2 x3 x4 x5 x6 x7 x8 x9 x10 x11 x12 y z w
  · exact replyChanges_7t x0 x1 x2 x3 x4 x5 x6 x7 x8 x9 x10 x11 x12 y z w
  · exact replyChanges_8f x0 x1 x2 x3 x4 x5 x6 x7 x8 x9 x10 x11 x12 y z w
  · exact replyChanges_8t x0 x1 x2 x3 x4 x5 x6 x7 x8 x9 x10 x11 x12 y z w
  · exact replyChanges_6f x0 x1 x2 x3 x4 x5 x6 x7 x8 x9 x10 x11 x12 y z w
  · exact replyChanges_6t x0 x1 x2 x3 x4 x5 x6 x7 x8 x9 x10 x11 x12 y z w
  · exact replyChanges_kf x0 x1 x2 x3 x4 x5 x6 x7 x8 x9 x10 x11 x12 k y z w (by simpa using h3) (by simpa using h4) (by simpa using h5) (by simpa using h6) (by simpa using h7) (by simpa using h8)
  · exact replyChanges_kt x0 x1 x2 x3 x4 x5 x6 x7 x8 x9 x10 x11 x12 k y z w (by simpa using h3) (by simpa using h4) (by simpa using h5) (by simpa using h6) (by simpa using h7) (by simpa using h8)
end Go.Proofs.Ytigfopkdcmlcnaa
