/- A reply without records, as the statements make it. -/
import Derived.Test.YtbjbppnjheaecaaRepE
namespace Go.Proofs.Ytbjbppnjheaecaa
open Go.RowKit
set_option linter.unusedVariables false
set_option linter.unusedSimpArgs false
set_option maxRecDepth 20000
set_option maxHeartbeats 1600000 in
theorem lbase_any (m : MsgT) (code : Int) (w : World) (hc : (Lit.int .i64 code).wf = true) : Calls Try.prog 12 #[m.v, .int .i64 code] w fun e w' => e = .returned (m.base code) ∧ Below w.heap.size w w' := by
  obtain ⟨id, reply, op, auth, trunc, want, avail, cd, qn, qt, A1, n1, c1, r1, A2, n2, c2, r2, A3, n3, c3, r3, z⟩ := m
  unfold MsgT.base MsgT.v minZ
  dsimp only
  have hb : (code.tmod 16 + 16).tmod 16 = code % 16 := mod16 code
  obtain ⟨h1, h2⟩ := tmod16 code
  have e1 : IntKind.i64.wrap (code.tmod 16) = code.tmod 16 := IntWalk.i64_in _ (by omega)
  have e2 : IntKind.i64.wrap (code.tmod 16 + 16) = code.tmod 16 + 16 := IntWalk.i64_in _ (by omega)
  have e3 : IntKind.i64.wrap (code % 16) = code % 16 := IntWalk.i64_in _ (by omega)
  rw [← hb]
  rw [← hb] at e3
  clear hb
  clear hc
  rcases (by omega : z < 4096 ∨ z = 4096 ∨ 4096 < z) with h | h | h
  · have k1 : ¬ 4096 < z := by omega
    have k2 : ¬ 4096 ≤ z := by omega
    rw [if_pos h]
    clear h1 h2
    go_enter Try.func12, Try.ntmps12
    go_wp2_with fail
    refine bodyPost_ret (v := .agg #[.int .u16 id, .bool true, .int .i64 op, .bool false, .bool false, .bool want, .bool true, .int .i64 ((code.tmod 16 + 16).tmod 16), .string qn, .int .u16 qt, .slice none 0 0, .slice none 0 0, .slice none 0 0, .int .i64 z]) (by simp [results, Try.results12, go_sem]) rfl ⟨rfl, ?_⟩
    first
      | exact (Below.refl _ _).alloc (Nat.le_refl _) _
      | exact ((Below.refl _ _).alloc (Nat.le_refl _) _).alloc (by simp) _
  · subst h
    rw [if_neg (by decide)]
    clear h1 h2
    go_enter Try.func12, Try.ntmps12
    go_wp2_with fail
    refine bodyPost_ret (v := .agg #[.int .u16 id, .bool true, .int .i64 op, .bool false, .bool false, .bool want, .bool true, .int .i64 ((code.tmod 16 + 16).tmod 16), .string qn, .int .u16 qt, .slice none 0 0, .slice none 0 0, .slice none 0 0, .int .i64 4096]) (by simp [results, Try.results12, go_sem]) rfl ⟨rfl, ?_⟩
    first
      | exact (Below.refl _ _).alloc (Nat.le_refl _) _
      | exact ((Below.refl _ _).alloc (Nat.le_refl _) _).alloc (by simp) _
  · have k1 : ¬ z < 4096 := by omega
    have k2 : ¬ z ≤ 4096 := by omega
    rw [if_neg k1]
    clear h1 h2
    go_enter Try.func12, Try.ntmps12
    go_wp2_with fail
    refine bodyPost_ret (v := .agg #[.int .u16 id, .bool true, .int .i64 op, .bool false, .bool false, .bool want, .bool true, .int .i64 ((code.tmod 16 + 16).tmod 16), .string qn, .int .u16 qt, .slice none 0 0, .slice none 0 0, .slice none 0 0, .int .i64 4096]) (by simp [results, Try.results12, go_sem]) rfl ⟨rfl, ?_⟩
    first
      | exact (Below.refl _ _).alloc (Nat.le_refl _) _
      | exact ((Below.refl _ _).alloc (Nat.le_refl _) _).alloc (by simp) _
end Go.Proofs.Ytbjbppnjheaecaa
