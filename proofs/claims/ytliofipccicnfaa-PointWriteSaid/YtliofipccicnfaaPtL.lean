/- point's Writer: learn. -/
import Derived.Test.YtliofipccicnfaaCs
import Derived.Test.YtliofipccicnfaaSm
import Derived.Test.YtliofipccicnfaaBuf
import Derived.WalkSmall
import Derived.Carry
import Derived.WalkSpells
import Derived.Test.YtliofipccicnfaaRows
import Derived.IntWalk
import Derived.Laws.BitsAllLaws
import Derived.Deep.DeepCutAuto
import Derived.StillTailTactics
import Derived.Outline
namespace Go.Proofs.Ytliofipccicnfaa
open Go.RowKit
set_option linter.unusedVariables false
set_option maxRecDepth 20000
theorem wpList_update_sm {P : Program} (w : World) {ops : Array Oper} {rest : List Oper} {o : Oper} {a : Act} {Q : Exit → Act → World → Prop}
    (hg : o.guard = none) (m x v : Operand) (t : TypeId) (hop : o.op = Op.mapUpdate t m x v) (k e : TypeId) (ht : P.underlying t = some (.map k e)) (hk : P.underlying k = some .string) (b : Nat) (es : List (ByteArray × Value))
    (hm : a.eval m = .map (some b)) (hown : SM w b es) (s : ByteArray) (val : Value) (hx : a.eval x = .string s) (hv : a.eval v = val) (hs : smHas es s = false)
    (hK : ∀ w', SM w' b (es ++ [(s, val)]) → w.grownBy w' (some b) → wpList P ops Q rest (a.put o.dst undef) w') :
    wpList P ops Q (o :: rest) a w := by
  refine wpList_plain hg fun K' hK' => ?_
  obtain ⟨w', hrun, r1, r2⟩ := hown.insert ht hk s val hs
  unfold Oper.wp
  simp [execOp, hop, hm, hx, hv, hrun, Result.andThen]
  exact hK' _ _ (hK w' r1 r2)
theorem learn_more (w : World) (b g : Nat) (A : Option Addr) (n c : Nat) (es : List (ByteArray × Value)) (s : ByteArray) (hC : Cs w b [.slice A n c, .map (some g)]) (hM : SM w g es) (hbg : b ≠ g) (hs : smHas es s = false) (hn : n < 16384) :
    Calls Try.prog 16 #[.pointer (some ⟨b, 0, none⟩), .string s] w fun e w' => e = .returned (.tuple #[]) ∧ Cs w' b [.slice A n c, .map (some g)] ∧ SM w' g (es ++ [(s, .int .i64 n)]) ∧ w.grownBy w' (some g) := by
  have c0 := hC.get 0 _
  have c1 := hC.get 1 _
  have g1 := hC.lt
  have hnn : ¬ (16384 : Int) ≤ n := by omega
  have hnn2 : (n : Int) < 16384 := by omega
  have HC := Lib.hid hC
  have HM := Lib.hid hM
  clear hC hM
  have hen := fun w => run_eql_map_nil (P := Try.prog) w 31 23 3 (some g) (by kernel_rfl)
  go_enter Try.func16, Try.ntmps16
  go_wp2_with fail
  go_still_tail 10, (by kernel_rfl)
  change wpList _ _ _ _ _ w.drew
  refine wpList_update_sm w.drew rfl _ _ _ _ rfl 23 3 (by kernel_rfl) (by kernel_rfl) g es rfl HM.out s (.int .i64 n) rfl rfl hs ?_
  intro w2 hM2 hg2
  go_wp2
  go_end0
  have hg3 : w.grownBy w2 (some g) := ⟨hg2.os, hg2.tape, hg2.output, hg2.size, hg2.block⟩
  exact ⟨rfl, HC.out.grown hg3 (fun e => hbg (by injection e with e; exact e.symm)), hM2, hg3⟩
theorem learn_first (w : World) (b : Nat) (s : ByteArray) (hC : Cs w b [.slice none 0 0, .map none]) :
    Calls Try.prog 16 #[.pointer (some ⟨b, 0, none⟩), .string s] w fun e w' => e = .returned (.tuple #[]) ∧ ∃ g, Cs w' b [.slice none 0 0, .map (some g)] ∧ SM w' g [(s, .int .i64 0)] ∧ b ≠ g ∧ w.heap.size ≤ g ∧ Below b w w' := by
  have c0 := hC.get 0 _
  have c1 := hC.get 1 _
  have f1 := hC.froz 1 (by simp)
  have g1 := hC.lt
  have HC := Lib.hid hC
  clear hC
  have hen := fun w => run_eql_map_nil (P := Try.prog) w 31 23 3 none (by kernel_rfl)
  have hmm := @run_makeMap Try.prog
  go_enter Try.func16, Try.ntmps16
  go_wp2_with fail
  have hA : Cs ((w.setCell ⟨b, 1, none⟩ (.map (some w.heap.size))).alloc (.map #[] 0)) b [.slice none 0 0, .map (some w.heap.size)] := (HC.out.set' 1 (.map (some w.heap.size)) (by simp)).alloc _
  have hM : SM ((w.setCell ⟨b, 1, none⟩ (.map (some w.heap.size))).alloc (.map #[] 0)) w.heap.size [] := by
    have := SM.new (w.setCell ⟨b, 1, none⟩ (.map (some w.heap.size)))
    rwa [show (w.setCell ⟨b, 1, none⟩ (.map (some w.heap.size))).heap.size = w.heap.size by simp] at this
  have hB : Below b w ((w.setCell ⟨b, 1, none⟩ (.map (some w.heap.size))).alloc (.map #[] 0)) := ((Below.refl b w).setCell (p := ⟨b, 1, none⟩) (Nat.le_refl _) _).alloc (by simpa using Nat.le_of_lt g1) _
  obtain ⟨g, hg⟩ : ∃ g, w.heap.size = g := ⟨_, rfl⟩
  have hle : w.heap.size ≤ g := by omega
  have HL := Lib.hid hle
  rw [hg] at hA hM hB g1 ⊢
  generalize ((w.setCell ⟨b, 1, none⟩ (.map (some g))).alloc (.map #[] 0)) = W3 at *
  have d0 := hA.get 0 _
  have d1 := hA.get 1 _
  have g3 := hA.lt
  have HC3 := Lib.hid hA
  have HM3 := Lib.hid hM
  have HB3 := Lib.hid hB
  clear hA hM hB c0 c1 f1 hle hg hen hmm
  go_still_tail 10, (by kernel_rfl)
  change wpList _ _ _ _ _ W3.drew
  refine wpList_update_sm W3.drew rfl _ _ _ _ rfl 23 3 (by kernel_rfl) (by kernel_rfl) g [] rfl HM3.out s (.int .i64 0) rfl rfl rfl ?_
  intro w2 hM2 hg2
  go_wp2
  go_end0
  have hg3 : W3.grownBy w2 (some g) := ⟨hg2.os, hg2.tape, hg2.output, hg2.size, hg2.block⟩
  exact ⟨rfl, g, HC3.out.grown hg3 (fun e => by injection e with e; omega), hM2, by omega, HL.out, HB3.out.grown hg3 (by omega) (fun k hk => by injection hk with hk; omega)⟩
end Go.Proofs.Ytliofipccicnfaa
