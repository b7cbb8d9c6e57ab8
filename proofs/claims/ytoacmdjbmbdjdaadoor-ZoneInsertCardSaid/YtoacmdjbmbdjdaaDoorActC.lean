/- slices.Clone of records, in general. -/
import Derived.Test.YtoacmdjbmbdjdaaDoorNameW
import Derived.Test.YtoacmdjbmbdjdaaDoorObz
import Derived.Lib.SliceRun
namespace Go.Proofs.YtoacmdjbmbdjdaaDoor
open Go.RowKit
set_option linter.unusedVariables false
set_option maxRecDepth 20000
/-- A type's row, by its parts. -/
theorem info_parts4 {P : Program} {t : TypeId} {z : Value} {a b : Nat} (h : (P.info? t).map (fun i => (i.zero, i.size, i.bytes)) = some (some z, a, b)) : ∃ i, P.info? t = some i ∧ i.zero = some z ∧ i.size = a ∧ i.bytes = b := by
  cases hi : P.info? t with
  | none => rw [hi] at h; cases h
  | some i =>
    rw [hi] at h
    simp only [Option.map_some, Option.some.injEq, Prod.mk.injEq] at h
    exact ⟨i, rfl, h.1, h.2.1, h.2.2⟩
theorem rec_info : (Tryd.prog.info? 36).map (fun i => (i.zero, i.size, i.bytes)) = some (some (Value.agg #[.string ⟨#[]⟩, .int .u16 0, .int .u32 0, .string ⟨#[]⟩]), 4, 40) := by kernel_rfl
end Go.Proofs.YtoacmdjbmbdjdaaDoor
