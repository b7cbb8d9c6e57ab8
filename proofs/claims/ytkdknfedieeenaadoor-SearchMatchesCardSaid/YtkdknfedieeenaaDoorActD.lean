/- slices.Equal of records, in general. -/
import Derived.Test.YtkdknfedieeenaaDoorActC
import Derived.Outline
import Derived.BigQuiet
namespace Go.Proofs.YtkdknfedieeenaaDoor
open Go.RowKit
set_option linter.unusedVariables false
set_option maxRecDepth 20000
/-- A record. -/
abbrev RecT := ByteArray × Int × Int × ByteArray
def recCells (r : RecT) : List Value := [.string r.1, .int .u16 r.2.1, .int .u32 r.2.2.1, .string r.2.2.2]
def recV (r : RecT) : Value := .agg #[.string r.1, .int .u16 r.2.1, .int .u32 r.2.2.1, .string r.2.2.2]
/-- Records lie one behind the other, four cells each. -/
def Recs (w : World) (A : Option Addr) (rs : List RecT) : Prop :=
  ∀ i r, rs[i]? = some r → ∃ b off, A = some ⟨b, off, none⟩ ∧ b < w.heap.size ∧ w.cell? ⟨b, off + i * 4, none⟩ = some (.string r.1) ∧ w.cell? ⟨b, off + i * 4 + 1, none⟩ = some (.int .u16 r.2.1) ∧
    w.cell? ⟨b, off + i * 4 + 2, none⟩ = some (.int .u32 r.2.2.1) ∧ w.cell? ⟨b, off + i * 4 + 3, none⟩ = some (.string r.2.2.2)
theorem rec_fields : ∃ f0 f1 f2 f3, (Tryd.prog.fieldsOf 59).toList = [f0, f1, f2, f3] ∧ (Tryd.prog.underlying f0.type = some .string ∧ Tryd.prog.underlying f1.type = some (.int .u16) ∧ Tryd.prog.underlying f2.type = some (.int .u32) ∧ Tryd.prog.underlying f3.type = some .string) ∧
    (f0.name ≠ "_" ∧ f1.name ≠ "_" ∧ f2.name ≠ "_" ∧ f3.name ≠ "_") ∧ (f0.offset = 0 ∧ f1.offset = 1 ∧ f2.offset = 2 ∧ f3.offset = 3) ∧ (Tryd.prog.cellsOf f0.type = 1 ∧ Tryd.prog.cellsOf f1.type = 1 ∧ Tryd.prog.cellsOf f2.type = 1 ∧ Tryd.prog.cellsOf f3.type = 1) :=
  ⟨_, _, _, _, rfl, ⟨by kernel_rfl, by kernel_rfl, by kernel_rfl, by kernel_rfl⟩, ⟨by decide, by decide, by decide, by decide⟩, ⟨rfl, rfl, rfl, rfl⟩, ⟨by kernel_rfl, by kernel_rfl, by kernel_rfl, by kernel_rfl⟩⟩
theorem rec_neq (r r' : RecT) (w : World) : (binOp .neq 59 (recV r) (recV r')).run Tryd.prog w = .ok (.bool (!(r.1.toList == r'.1.toList && (r.2.1 == r'.2.1 && (r.2.2.1 == r'.2.2.1 && r.2.2.2.toList == r'.2.2.2.toList))))) w := by
  obtain ⟨f0, f1, f2, f3, hf, ⟨t0, t1, t2, t3⟩, ⟨n0, n1, n2, n3⟩, ⟨o0, o1, o2, o3⟩, ⟨c0, c1, c2, c3⟩⟩ := rec_fields
  unfold recV
  rw [run_neq_struct, run_equalIn_agg (P := Tryd.prog) w _ _ _ _ Tryd.underlying59 (by kernel_rfl), hf]
  simp [go_sem, Op.eqFields, isAgg, run_underlying t0, run_underlying t1, run_underlying t2, run_underlying t3, t0, t1, t2, t3, n0, n1, n2, n3, o0, o1, o2, o3]
  by_cases e0 : r.1.toList = r'.1.toList <;> by_cases e1 : r.2.1 = r'.2.1 <;> by_cases e2 : r.2.2.1 = r'.2.2.1 <;> by_cases e3 : r.2.2.2.toList = r'.2.2.2.toList <;> simp [e0, e1, e2, e3]
end Go.Proofs.YtkdknfedieeenaaDoor
