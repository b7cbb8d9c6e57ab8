/- The contracts of layer 8: how many bytes records take, whether they fit, which have a name. -/
import Derived.Test.YtoacmdjbmbdjdaaDoorZonE
namespace Go.Proofs.YtoacmdjbmbdjdaaDoor
open Go.RowKit
set_option linter.unusedVariables false
set_option linter.unusedSimpArgs false
set_option maxRecDepth 20000
/-- How many bytes records take. -/
def sizeR (rs : List RecT) : Nat := (rs.map fun r => 10 + r.1.size + r.2.2.2.size).sum
theorem sizeR_next {rs : List RecT} {k : Nat} {r : RecT} (h : rs[k]? = some r) : sizeR (rs.take (k + 1)) = sizeR (rs.take k) + (10 + r.1.size + r.2.2.2.size) := by
  unfold sizeR; rw [List.take_add_one, h]; simp
theorem sizeR_le (rs : List RecT) (k : Nat) : sizeR (rs.take k) ≤ sizeR rs := by
  have h : sizeR rs = sizeR (rs.take k) + sizeR (rs.drop k) := by
    unfold sizeR; rw [← List.sum_append, ← List.map_append, List.take_append_drop]
  omega
def nameB (s : ByteArray) (r : RecT) : Bool := r.1.toList == s.toList
def atR (rs : List RecT) (s : ByteArray) : List RecT := rs.filter (nameB s)
theorem atR_yes {rs : List RecT} {s : ByteArray} {k : Nat} {r : RecT} (hr : rs[k]? = some r) (hb : nameB s r = true) : atR (rs.take (k + 1)) s = atR (rs.take k) s ++ [r] := by
  unfold atR; rw [List.take_add_one, hr]; simp [List.filter_append, hb]
theorem atR_no {rs : List RecT} {s : ByteArray} {k : Nat} {r : RecT} (hr : rs[k]? = some r) (hb : nameB s r = false) : atR (rs.take (k + 1)) s = atR (rs.take k) s := by
  unfold atR; rw [List.take_add_one, hr]; simp [List.filter_append, hb]
theorem atR_le (rs : List RecT) (s : ByteArray) (k : Nat) : (atR (rs.take k) s).length ≤ rs.length := by
  unfold atR
  have h1 := List.length_filter_le (nameB s) (rs.take k)
  have h2 := List.length_take_le k rs
  simp at h1
  omega
theorem src_one' {w : World} {ts : TypeId} (hts : Tryd.prog.underlying ts = some (.slice 36)) (r : RecT) :
    Src Tryd.prog 4 ts (.slice (some ⟨w.heap.size, 0, none⟩) 1 1) 1 (recCells r) (w.alloc (.cells #[.string r.1, .int .u16 r.2.1, .int .u32 r.2.2.1, .string r.2.2.2] 36)) := by
  refine Src.ofSlice _ hts _ 1 1 _ rfl ?_ ?_
  · exact news_at w #[.string r.1, .int .u16 r.2.1, .int .u32 r.2.2.1, .string r.2.2.2] _
  · intro u hu
    unfold recCells at hu
    simp at hu
    rcases hu with rfl | rfl | rfl | rfl <;> rfl
end Go.Proofs.YtoacmdjbmbdjdaaDoor
