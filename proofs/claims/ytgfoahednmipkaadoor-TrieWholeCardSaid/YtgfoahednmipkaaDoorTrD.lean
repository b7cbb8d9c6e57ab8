/- trie.needed; trie.put of any tree. -/
import Derived.Test.YtgfoahednmipkaaDoorTrC
import Derived.Test.YtgfoahednmipkaaDoorCst
import Derived.Test.YtgfoahednmipkaaDoorReg5
namespace Go.Proofs.YtgfoahednmipkaaDoor
open Go.RowKit
set_option linter.unusedVariables false
set_option maxRecDepth 20000
attribute [local simp] putsF isV wordOf Deps Region.binds Region.wanted Act.put wantedX isB
theorem tri_follows : Tryd.prog.follows .mixedOrders = true := by kernel_rfl
def needP (h : Bool) (p0 p1 : Option Nat) (b : Nat) : Option Nat :=
  match h, p0, p1 with
  | false, none, p => p
  | false, some a, none => some a
  | _, _, _ => some b
set_option maxHeartbeats 1600000 in
theorem needed_any (b : Nat) (k v : Value) (h : Bool) (p0 p1 : Option Nat) (w : World) (hc : Cs w b [k, v, .bool h, ptrV p0, ptrV p1]) :
    Calls Tryd.prog 25 #[.pointer (some ⟨b, 0, none⟩)] w fun e w' => e = .returned (ptrV (needP h p0 p1 b)) ∧ ∃ n, w' = w.drewN n := by
  have c2 := hc.get 2 _
  have c3 := hc.get 3 _
  have c4 := hc.get 4 _
  have hb := hc.lt
  clear hc
  cases h <;> cases p0 <;> cases p1 <;> simp only [ptrV, Option.map_none, Option.map_some, needP] at c3 c4 ⊢
  all_goals
    go_enter Tryd.func25, Tryd.ntmps25
    go_upto_region 1 with fail
    go_quiet (fail)
    go_wp2_with fail
    go_ret
    exact ⟨rfl, _, rfl⟩
/-- What a call leaves that puts a word in. -/
def PutP (w : World) (t' : Tr) (bs : List Nat) (e : Ending) (w' : World) : Prop :=
  ∃ p' bs', e = .returned (ptrV p') ∧ TrM w' t' p' bs' ∧ bs'.Nodup ∧ (∀ x ∈ bs', x ∈ bs ∨ w.heap.size ≤ x) ∧ Only (fun x => x ∈ bs) w w'
theorem put_nil (q : List UInt8) (x : Int) (w : World) :
    Calls Tryd.prog 20 #[.pointer none, .string (sb q), .int .i64 x] w (PutP w (leafR q x) []) := by
  have hC := Lib.hid (Cs.new w #[.string (sb q), .int .i64 x, .bool true, .pointer none, .pointer none] 52 _ rfl)
  go_enter Tryd.func20, Tryd.ntmps20
  go_wp2_with fail
  go_ret
  exact ⟨some w.heap.size, [w.heap.size], rfl, TrM.leaf _ _ _ _ hC.out, by simp, fun y hy => .inr (by simp at hy; omega), (Only.refl _ _).alloc _⟩
end Go.Proofs.YtgfoahednmipkaaDoor
