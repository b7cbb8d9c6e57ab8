/- The contract of the statements' own data builder: some data of no more than 600 bytes. -/
import Derived.Test.YtpopnlbpeboiiaaDoorNameW
import Derived.Test.YtpopnlbpeboiiaaDoorOb
import Derived.Test.YtpopnlbpeboiiaaDoorReg2
import Derived.StillTailTactics
import Derived.Outline
namespace Go.Proofs.YtpopnlbpeboiiaaDoor
open Go.RowKit
set_option linter.unusedVariables false
set_option linter.unusedSimpArgs false
set_option maxRecDepth 20000
attribute [local simp] putsF isV wordOf Deps Region.binds Region.wanted Act.put wantedX isB
theorem wire_six : ∀ (ls : List (List UInt8)), (∀ x ∈ ls, x.length ≤ 6) → (wire ls).length ≤ 7 * ls.length
  | [], _ => by simp [wire]
  | x :: ls, h => by
    have h1 := wire_six ls (fun y hy => h y (by simp [hy]))
    have h2 := h x (by simp)
    rw [wire_cons, List.length_append, List.length_cons, List.length_cons]; omega
theorem nameZ_le (zs : List Int) (hz : ∀ z ∈ zs, 0 ≤ z ∧ z < 256) : (nameZ zs).length ≤ 254 := by
  have h1 := wire_six (wordsZ zs) (fun x hx => (wordsZ_ok zs hz x hx).2.2)
  have h2 := wordsZ_len zs
  unfold nameZ
  omega
theorem ite_int7 {a b x y : Int} (h : b ≤ a) : (if a < b then x else y) = y := by rw [if_neg (by omega)]
theorem ite_nat7 {a b : Nat} {x y : Int} (h : b ≤ a) : (if a < b then x else y) = y := by rw [if_neg (by omega)]
attribute [local simp] ite_int7 ite_nat7
/-- The type and the data by a number, of a name's bytes, and a text. -/
def dataOf (q : Nat) (X s : ByteArray) : Nat × ByteArray :=
  if q = 0 ∨ q = 1 then (1, (s ++ ByteArray.mk #[1, 2, 3, 4]).extract 0 4)
  else if q = 2 then (2, X) else if q = 3 then (5, X)
  else if q = 4 then (6, X ++ ByteArray.mk #[0] ++ X ++ ByteArray.mk #[0] ++ (s ++ ByteArray.mk #[48, 49, 50, 51, 52, 53, 54, 55, 56, 57, 48, 49, 50, 51, 52, 53, 54, 55, 56, 57]).extract 0 20)
  else if q = 5 then (16, ByteArray.mk #[UInt8.ofNat s.size] ++ s.extract 0 s.size)
  else if q = 6 then (28, (s ++ ByteArray.mk #[48, 49, 50, 51, 52, 53, 54, 55, 56, 57, 97, 98, 99, 100, 101, 102]).extract 0 16)
  else (99, s.extract 0 s.size)
theorem data_follows : Tryd.prog.follows .mixedOrders = true := by kernel_rfl
/-- Some data. -/
def IsData (q : Nat) (X s : ByteArray) (e : Ending) : Prop := ∃ (t : Nat) (d : ByteArray), e = .returned (.tuple #[.int .u16 t, .string d]) ∧ t < 65536 ∧ d.size ≤ 600 ∧ dataOf q X s = (t, d)
end Go.Proofs.YtpopnlbpeboiiaaDoor
