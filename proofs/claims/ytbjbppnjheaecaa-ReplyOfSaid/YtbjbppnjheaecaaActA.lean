/- The contracts of layer 14: specials, ofTarget, Of of a CNAME alone. -/
import Derived.Test.YtbjbppnjheaecaaSm
import Derived.Test.YtbjbppnjheaecaaCs
import Derived.Test.YtbjbppnjheaecaaNameE
import Derived.Test.YtbjbppnjheaecaaNameC
import Derived.Outline
namespace Go.Proofs.Ytbjbppnjheaecaa
open Go.RowKit
set_option linter.unusedVariables false
set_option maxRecDepth 20000

theorem mk_toList' (l : List UInt8) : (ByteArray.mk l.toArray).data.toList = l := by simp
def specL : List (ByteArray × Value) := [(⟨#[]⟩, .int .i64 4), (⟨#[1, 42]⟩, .int .i64 5), (⟨#[12, 114, 112, 122, 45, 112, 97, 115, 115, 116, 104, 114, 117]⟩, .int .i64 2), (⟨#[8, 114, 112, 122, 45, 100, 114, 111, 112]⟩, .int .i64 3), (⟨#[12, 114, 112, 122, 45, 116, 99, 112, 45, 111, 110, 108, 121]⟩, .int .i64 6)]
/-- What a target means: the kind, the target, wild or not. -/
def tgtOf (s : ByteArray) : Int × ByteArray × Bool :=
  match smGet specL s with
  | some (.int .i64 k) => (k, ⟨#[]⟩, false)
  | _ => match labelsOf s with
    | some (l :: m :: ls) => if l = [42] then (7, ⟨(wire (m :: ls)).toArray⟩, true) else (7, s, false)
    | _ => (7, s, false)
def actV (a : Int × ByteArray × Bool) : Value := .agg #[.int .i64 a.1, .string a.2.1, .bool a.2.2, .slice none 0 0]
theorem specL_get (s : ByteArray) : (smHas specL s = false ∧ smGet specL s = none) ∨ ∃ k : Int, smHas specL s = true ∧ smGet specL s = some (.int .i64 k) := by
  unfold smHas smGet specL
  cases h1 : (s.data.toList == (ByteArray.mk #[]).data.toList)
  · cases h2 : (s.data.toList == (ByteArray.mk #[1, 42]).data.toList)
    · cases h3 : (s.data.toList == (ByteArray.mk #[12, 114, 112, 122, 45, 112, 97, 115, 115, 116, 104, 114, 117]).data.toList)
      · cases h4 : (s.data.toList == (ByteArray.mk #[8, 114, 112, 122, 45, 100, 114, 111, 112]).data.toList)
        · cases h5 : (s.data.toList == (ByteArray.mk #[12, 114, 112, 122, 45, 116, 99, 112, 45, 111, 110, 108, 121]).data.toList)
          · left; simp only [List.any_cons, List.any_nil, List.find?_cons, List.find?_nil, h1, h2, h3, h4, h5, Bool.or_false, Option.map_none, and_self]
          · right; exact ⟨6, by simp only [List.any_cons, h1, h2, h3, h4, h5, Bool.false_or, Bool.true_or], by simp only [List.find?_cons, h1, h2, h3, h4, h5, Option.map_some]⟩
        · right; exact ⟨3, by simp only [List.any_cons, h1, h2, h3, h4, Bool.false_or, Bool.true_or], by simp only [List.find?_cons, h1, h2, h3, h4, Option.map_some]⟩
      · right; exact ⟨2, by simp only [List.any_cons, h1, h2, h3, Bool.false_or, Bool.true_or], by simp only [List.find?_cons, h1, h2, h3, Option.map_some]⟩
    · right; exact ⟨5, by simp only [List.any_cons, h1, h2, Bool.false_or, Bool.true_or], by simp only [List.find?_cons, h1, h2, Option.map_some]⟩
  · right; exact ⟨4, by simp only [List.any_cons, h1, Bool.true_or], by simp only [List.find?_cons, h1, Option.map_some]⟩
end Go.Proofs.Ytbjbppnjheaecaa
