/- The contracts of Plain, Cut; of an SOA's data: Data, Parse, Of; of rdata.May of an SOA's. -/
import Derived.Test.YtliofipccicnfaaCuts
import Derived.Test.YtliofipccicnfaaNum
import Derived.Outline
import Derived.BigQuiet
import Derived.OwnWalk
namespace Go.Proofs.Ytliofipccicnfaa
open Go.RowKit
set_option linter.unusedVariables false
set_option maxRecDepth 20000

theorem sv_append (s t : ByteArray) : Value.string (s ++ t) = sv (s.data.toList ++ t.data.toList) := by
  unfold sv; congr 1
theorem mk_toList (l : List UInt8) : (ByteArray.mk l.toArray).data.toList = l := by simp
theorem may_mayL (s : ByteArray) : (labelsOf s).isSome = true ↔ mayL s.data.toList := Iff.rfl
theorem get_q (s : ByteArray) (i : Nat) (h : i < s.size) : s.data.toList[i]? = some s[i] := by
  rw [List.getElem?_eq_getElem (by simpa using h)]; rfl
theorem below_drew {B : Nat} {w w' : World} (h : Below B w w') (k : Nat) : Below B w (w'.drewN k) := ⟨h.os, h.tape, h.output, h.size, h.block⟩
end Go.Proofs.Ytliofipccicnfaa
