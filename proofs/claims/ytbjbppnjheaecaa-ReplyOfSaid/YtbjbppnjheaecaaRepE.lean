/- Replies in general: without records; whether two messages are the same. -/
import Derived.Test.YtbjbppnjheaecaaRepD
import Derived.Test.YtbjbppnjheaecaaViewR
import Derived.Test.YtbjbppnjheaecaaRecC
import Derived.Outline
namespace Go.Proofs.Ytbjbppnjheaecaa
open Go.RowKit
set_option linter.unusedVariables false
set_option linter.unusedSimpArgs false
set_option maxRecDepth 20000
theorem and15 (n : Int) : bits .and .i64 n 15 = n % 16 := by
  have h15 : (BitVec.ofInt 64 15).toNat = 2 ^ 4 - 1 := by decide
  have key : (BitVec.ofInt 64 n &&& BitVec.ofInt 64 15).toNat = (n % ((2 ^ 64 : Nat) : Int)).toNat % 2 ^ 4 := by
    rw [BitVec.toNat_and, BitVec.toNat_ofInt, h15, Nat.and_two_pow_sub_one_eq_mod]
  show IntKind.i64.wrap ((BitVec.ofInt 64 n &&& BitVec.ofInt 64 15).toNat : Nat) = n % 16
  rw [key, IntKind.wrap_i64]
  omega
theorem tmod16 (n : Int) : n.tmod 16 < 16 ∧ -16 < n.tmod 16 := by
  have h := Int.natAbs_tmod n 16
  have h2 : n.natAbs % (16 : Int).natAbs < 16 := Nat.mod_lt _ (by decide)
  omega
theorem mod16 (n : Int) : ((n.tmod 16) + 16).tmod 16 = n % 16 := by
  have h := Int.tmod_add_mul_tdiv n 16
  obtain ⟨h1, h2⟩ := tmod16 n
  rw [Int.tmod_eq_emod_of_nonneg (by omega)]
  omega
/-- A slice of a block that is new. -/
def OwnA (B : Nat) (A : Option Addr) : Prop := ∀ b off, A = some ⟨b, off, none⟩ → B ≤ b
theorem OwnA.none (B : Nat) : OwnA B none := fun b off e => by cases e
theorem OwnA.more {B C : Nat} {A : Option Addr} (h : OwnA B A) (hC : C ≤ B) : OwnA C A := fun b off e => Nat.le_trans hC (h b off e)
def minZ (z : Int) : Int := if z < 4096 then z else 4096
/-- A reply without records. -/
def MsgT.base (m : MsgT) (code : Int) : Value := .agg #[.int .u16 m.id, .bool true, .int .i64 m.op, .bool false, .bool false, .bool m.want, .bool true, .int .i64 (code % 16), .string m.qn, .int .u16 m.qt, .slice none 0 0, .slice none 0 0, .slice none 0 0, .int .i64 (minZ m.sz)]
set_option maxHeartbeats 1600000 in
theorem base_any (m : MsgT) (code : Int) (w : World) : Calls Try.prog 11 #[m.v, .int .i64 code] w fun e w' => e = .returned (m.base code) ∧ Below w.heap.size w w' := by
  obtain ⟨id, reply, op, auth, trunc, want, avail, cd, qn, qt, A1, n1, c1, r1, A2, n2, c2, r2, A3, n3, c3, r3, z⟩ := m
  unfold MsgT.base MsgT.v minZ
  dsimp only
  have hb : bits .and .i64 code 15 = code % 16 := and15 code
  rcases (by omega : z < 4096 ∨ z = 4096 ∨ 4096 < z) with h | h | h
  · have k1 : ¬ 4096 < z := by omega
    have k2 : ¬ 4096 ≤ z := by omega
    rw [if_pos h]
    go_enter Try.func11, Try.ntmps11
    go_wp2_with fail
    refine bodyPost_ret (v := .agg #[.int .u16 id, .bool true, .int .i64 op, .bool false, .bool false, .bool want, .bool true, .int .i64 (code % 16), .string qn, .int .u16 qt, .slice none 0 0, .slice none 0 0, .slice none 0 0, .int .i64 z]) (by simp [results, Try.results11, go_sem]) rfl ⟨rfl, ?_⟩
    exact ((Below.refl _ _).alloc (Nat.le_refl _) _).alloc (by simp) _
  · subst h
    rw [if_neg (by decide)]
    go_enter Try.func11, Try.ntmps11
    go_wp2_with fail
    refine bodyPost_ret (v := .agg #[.int .u16 id, .bool true, .int .i64 op, .bool false, .bool false, .bool want, .bool true, .int .i64 (code % 16), .string qn, .int .u16 qt, .slice none 0 0, .slice none 0 0, .slice none 0 0, .int .i64 4096]) (by simp [results, Try.results11, go_sem]) rfl ⟨rfl, ?_⟩
    exact ((Below.refl _ _).alloc (Nat.le_refl _) _).alloc (by simp) _
  · have k1 : ¬ z < 4096 := by omega
    have k2 : ¬ z ≤ 4096 := by omega
    rw [if_neg k1]
    go_enter Try.func11, Try.ntmps11
    go_wp2_with fail
    refine bodyPost_ret (v := .agg #[.int .u16 id, .bool true, .int .i64 op, .bool false, .bool false, .bool want, .bool true, .int .i64 (code % 16), .string qn, .int .u16 qt, .slice none 0 0, .slice none 0 0, .slice none 0 0, .int .i64 4096]) (by simp [results, Try.results11, go_sem]) rfl ⟨rfl, ?_⟩
    exact ((Below.refl _ _).alloc (Nat.le_refl _) _).alloc (by simp) _
end Go.Proofs.Ytbjbppnjheaecaa
