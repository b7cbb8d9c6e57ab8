/- The contracts of layer 12: Has, May, Key. -/
import Derived.Test.YtdekaaclheoapaaPfxA
import Derived.WalkLawsBesides
namespace Go.Proofs.Ytdekaaclheoapaa
open Go.RowKit
set_option linter.unusedVariables false
set_option maxRecDepth 20000

theorem isCut_addr {n : Nat} {m : Int} (h : isCut n m = true) : isAddr n = true ∧ 0 ≤ m ∧ m ≤ 8 * n := by
  simp only [isCut, Bool.and_eq_true, decide_eq_true_eq] at h
  exact ⟨h.1.1, h.1.2, h.2⟩
theorem isAddr_le {n : Nat} (h : isAddr n = true) : n ≤ 16 := by simp [isAddr] at h; omega
theorem pfx_info : (Try.prog.info? 5).map (fun i => (i.zero, i.size, i.bytes)) = some (some (.int .u8 0), 1, 1) := by kernel_rfl
/-- Does an address begin with given first bits. -/
def hasB (p : ByteArray) (bits : Int) (a : ByteArray) : Bool := isCut a.size bits && (cutL a.data.toList bits.toNat == p.data.toList)
end Go.Proofs.Ytdekaaclheoapaa
