/- The contracts of the statements' records by numbers: one record. -/
import Derived.Test.YtpopnlbpeboiiaaDoorActE
import Derived.Test.YtpopnlbpeboiiaaDoorData
import Derived.Test.YtpopnlbpeboiiaaDoorViewA
import Derived.Test.YtpopnlbpeboiiaaDoorReg5
import Derived.Test.YtpopnlbpeboiiaaDoorCs
namespace Go.Proofs.YtpopnlbpeboiiaaDoor
open Go.RowKit
set_option linter.unusedVariables false
set_option linter.unusedSimpArgs false
set_option maxRecDepth 20000
attribute [local simp] putsF isV wordOf Deps Region.binds Region.wanted Act.put wantedX isB
def intsB (l : List UInt8) : List Int := l.map fun b => (b.toNat : Int)
theorem intsB_bv (l : List UInt8) : (intsB l).map (Value.int .u8) = l.map bv := by unfold intsB; rw [List.map_map]; rfl
theorem intsB_ok (l : List UInt8) : ∀ z ∈ intsB l, 0 ≤ z ∧ z < 256 := by
  intro z hz
  obtain ⟨b, _, rfl⟩ := List.mem_map.1 hz
  have := b.toNat_lt
  omega
def nmB (l : List UInt8) : ByteArray := ⟨(nameZ (intsB l)).toArray⟩
/-- A text's first 30 bytes. -/
def txtB (s : ByteArray) : ByteArray := s.extract 0 (min s.size 30)
def recOf (a : ActT) : RecT := (nmB a.1.2.2.2, ((dataOf (a.2.1.toNat % 8) (nmB a.2.2.2.1.2.2.2) (txtB a.2.2.2.2)).1 : Int), a.2.2.1, (dataOf (a.2.1.toNat % 8) (nmB a.2.2.2.1.2.2.2) (txtB a.2.2.2.2)).2)
def actCells (a : ActT) : List Value := [rowV a.1, .int .u8 a.2.1, .int .u32 a.2.2.1, rowV a.2.2.2.1, .string a.2.2.2.2]
def actA (a : ActT) : Value := .agg #[rowV a.1, .int .u8 a.2.1, .int .u32 a.2.2.1, rowV a.2.2.2.1, .string a.2.2.2.2]
structure ActOk (w : World) (a : ActT) : Prop where
  r1 : Sl w w.heap.size 1 a.1.1 a.1.2.1 (a.1.2.2.2.map bv)
  n1 : a.1.2.1 ≤ maxLen
  k : 0 ≤ a.2.1 ∧ a.2.1 < 256
  t : 0 ≤ a.2.2.1 ∧ a.2.2.1 < 4294967296
  r2 : Sl w w.heap.size 1 a.2.2.2.1.1 a.2.2.2.1.2.1 (a.2.2.2.1.2.2.2.map bv)
  n2 : a.2.2.2.1.2.1 ≤ maxLen
  s : a.2.2.2.2.size ≤ maxLen
theorem ActOk.below {w w' : World} {a : ActT} (h : ActOk w a) (hb : Below w.heap.size w w') : ActOk w' a :=
  ⟨(h.r1.below hb).more hb.size, h.n1, h.k, h.t, (h.r2.below hb).more hb.size, h.n2, h.s⟩
theorem nameB_any (r : RowT) (w : World) (h : Sl w w.heap.size 1 r.1 r.2.1 (r.2.2.2.map bv)) (hn : r.2.1 ≤ maxLen) :
    Calls Tryd.prog 13 #[rowV r] w fun e w' => e = .returned (.string (nmB r.2.2.2)) ∧ Below w.heap.size w w' :=
  name_any r.1 r.2.1 r.2.2.1 (intsB r.2.2.2) w (by rw [intsB_bv]; exact h) (intsB_ok _) hn
end Go.Proofs.YtpopnlbpeboiiaaDoor
