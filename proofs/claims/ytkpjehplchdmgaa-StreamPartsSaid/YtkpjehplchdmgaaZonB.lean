/- The contracts of layer 8: where a record is among others. -/
import Derived.Test.YtkpjehplchdmgaaZonA
namespace Go.Proofs.Ytkpjehplchdmgaa
open Go.RowKit
set_option linter.unusedVariables false
set_option linter.unusedSimpArgs false
set_option maxRecDepth 20000
def eqB (r r' : RecT) : Bool := r.1.toList == r'.1.toList && (r.2.1 == r'.2.1 && (r.2.2.1 == r'.2.2.1 && r.2.2.2.toList == r'.2.2.2.toList))
theorem eqB_iff (r r' : RecT) : eqB r r' = true ↔ r = r' := by
  constructor
  · intro h; exact rec_eq (by rw [show (r.1.toList == r'.1.toList && (r.2.1 == r'.2.1 && (r.2.2.1 == r'.2.2.1 && r.2.2.2.toList == r'.2.2.2.toList))) = true from h]; rfl)
  · rintro rfl; unfold eqB; simp
theorem eqB_false {r r' : RecT} (h : eqB r r' = false) : r ≠ r' := by
  intro e; rw [(eqB_iff r r').2 e] at h; cases h
theorem rec_eql (r r' : RecT) (w : World) : (binOp .eql 32 (recV r) (recV r')).run Try.prog w = .ok (.bool (eqB r r')) w := by
  obtain ⟨f0, f1, f2, f3, hf, ⟨t0, t1, t2, t3⟩, ⟨n0, n1, n2, n3⟩, ⟨o0, o1, o2, o3⟩, ⟨c0, c1, c2, c3⟩⟩ := rec_fields
  unfold recV eqB
  rw [run_eql_struct, run_equalIn_agg (P := Try.prog) w _ _ _ _ Try.underlying32 (by kernel_rfl), hf]
  simp [go_sem, Op.eqFields, isAgg, run_underlying t0, run_underlying t1, run_underlying t2, run_underlying t3, t0, t1, t2, t3, n0, n1, n2, n3, o0, o1, o2, o3]
  by_cases e0 : r.1.toList = r'.1.toList <;> by_cases e1 : r.2.1 = r'.2.1 <;> by_cases e2 : r.2.2.1 = r'.2.2.1 <;> by_cases e3 : r.2.2.2.toList = r'.2.2.2.toList <;> simp [e0, e1, e2, e3]
/-- The first place of a record among others; -1, if there is none. -/
def IdxR (rs : List RecT) (r : RecT) (i : Int) : Prop := (i = -1 ∧ r ∉ rs) ∨ ∃ k : Nat, i = k ∧ rs[k]? = some r ∧ r ∉ rs.take k
def hasB (rs : List RecT) (r : RecT) : Bool := rs.any (eqB r)
theorem hasB_iff (rs : List RecT) (r : RecT) : hasB rs r = true ↔ r ∈ rs := by
  unfold hasB
  rw [List.any_eq_true]
  constructor
  · rintro ⟨q, hq, he⟩; rw [(eqB_iff r q).1 he]; exact hq
  · intro h; exact ⟨r, h, (eqB_iff r r).2 rfl⟩
theorem hasB_false {rs : List RecT} {r : RecT} : hasB rs r = false ↔ r ∉ rs := by
  rw [← hasB_iff]; simp
theorem IdxR.has {rs : List RecT} {r : RecT} {i : Int} (h : IdxR rs r i) : decide (0 ≤ i) = hasB rs r := by
  rcases h with ⟨rfl, h⟩ | ⟨k, rfl, h, _⟩
  · rw [hasB_false.2 h]; rfl
  · rw [(hasB_iff _ _).2 (List.mem_of_getElem? h)]; simp
end Go.Proofs.Ytkpjehplchdmgaa
