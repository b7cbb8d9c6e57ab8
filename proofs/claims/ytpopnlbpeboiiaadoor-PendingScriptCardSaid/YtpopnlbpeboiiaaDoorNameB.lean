/- The contract of Labels, May, Count. -/
import Derived.Test.YtpopnlbpeboiiaaDoorNameA
namespace Go.Proofs.YtpopnlbpeboiiaaDoor
open Go.RowKit
set_option linter.unusedVariables false

theorem str_info : (Tryd.prog.info? 9).map (fun i => (i.zero, i.size, i.bytes)) = some (some (.string ⟨#[]⟩), 1, 16) := by kernel_rfl

/-- The bytes i and those of what is read behind them. -/
def Read (L : List UInt8) (p : Nat) (pre : List (List UInt8)) : Prop := p ≤ L.length ∧ pre.length ≤ p ∧ parseL L = (parseL (L.drop p)).map (pre ++ ·)
theorem Read.start (L : List UInt8) : Read L 0 [] := ⟨Nat.zero_le _, Nat.le_refl _, by simp⟩
theorem Read.next {L : List UInt8} {p k : Nat} {pre : List (List UInt8)} (h : Read L p pre) (hp : p < L.length) (he : endAt (L.drop p) = some k) : Read L (p + k) (pre ++ [L.extract (p + 1) (p + k)]) := by
  have hk := endAt_pos he
  refine ⟨by have := hk.2.1; simp at this; omega, by simp; have := h.2.1; omega, ?_⟩
  rw [h.2.2, parseL_step L p hp, he]
  simp [Function.comp_def]
theorem Read.bad {L : List UInt8} {p : Nat} {pre : List (List UInt8)} (h : Read L p pre) (hp : p < L.length) (he : endAt (L.drop p) = none) : parseL L = none := by
  rw [h.2.2, parseL_step L p hp, he]; rfl
theorem Read.done {L : List UInt8} {p : Nat} {pre : List (List UInt8)} (h : Read L p pre) (hp : ¬ p < L.length) : parseL L = some pre := by
  rw [h.2.2, List.drop_eq_nil_of_le (by omega), parseL_nil]; simp

def labelsOf (s : ByteArray) : Option (List (List UInt8)) := nameLabels s.data.toList
def labelsL (s : ByteArray) : List (List UInt8) := (labelsOf s).getD []

end Go.Proofs.YtpopnlbpeboiiaaDoor
