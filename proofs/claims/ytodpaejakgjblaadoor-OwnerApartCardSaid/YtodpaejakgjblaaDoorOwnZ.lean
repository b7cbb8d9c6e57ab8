/- The contract of (Code).Trigger: a trigger by numbers. -/
import Derived.Test.YtodpaejakgjblaaDoorOwnO
import Derived.Test.YtodpaejakgjblaaDoorReg7
namespace Go.Proofs.YtodpaejakgjblaaDoor
open Go.RowKit
set_option linter.unusedVariables false
set_option maxRecDepth 20000

theorem trigA_shape (t : Trig) : ∃ tk TN TA tb, trigA t = .agg #[.int .i64 tk, .string TN, .string TA, .int .i64 tb] ∧ t = toT tk TN TA tb := ⟨t.kind, baL t.name, baL t.addr, t.bits, rfl, by simp [toT, baL]⟩

set_option maxHeartbeats 8000000 in
theorem code_any (kd : Int) (hkd : 0 ≤ kd ∧ kd ≤ 255) (A : Option Addr) (n c : Nat) (zs : List Int) (six : Bool) (bits : Int) (hb : 0 ≤ bits ∧ bits ≤ 255) (w : World)
    (hA : Sl w w.heap.size 1 A n (zs.map (Value.int .u8))) (hz : ∀ z ∈ zs, 0 ≤ z ∧ z < 256) (hn : n ≤ 140737488355328) :
    Calls Tryd.prog 28 #[.agg #[.int .u8 kd, .slice A n c, .bool six, .int .u8 bits]] w fun e w' => ∃ t : Trig, e = .returned (trigA t) ∧ TrigOk kd t ∧ Below w.heap.size w w' := by
  obtain ⟨W0, hW0⟩ : ∃ W0, W0 = (w.alloc (.cells #[.int .u8 kd, .slice A n c, .bool six, .int .u8 bits] 55)).alloc (.cells #[.int .i64 0, .string ⟨#[]⟩, .string ⟨#[]⟩, .int .i64 0] 29) := ⟨_, rfl⟩
  have hc2 : Cs W0 (w.heap.size + 1) [.int .i64 0, .string ⟨#[]⟩, .string ⟨#[]⟩, .int .i64 0] := by
    rw [hW0]
    exact (Cs.new (w.alloc (.cells #[.int .u8 kd, .slice A n c, .bool six, .int .u8 bits] 55)) _ _ _).at_ _ (by simp)
  have hb0 : Below w.heap.size w W0 := by
    rw [hW0]
    have h1 := (Below.refl w.heap.size w).alloc (Nat.le_refl _) (.cells #[.int .u8 kd, .slice A n c, .bool six, .int .u8 bits] 55)
    exact h1.alloc h1.size _
  have htr := trigger13_any kd hkd A n c zs six bits hb W0 ((hA.below hb0).more hb0.size) hz hn
  have HT := Lib.hid htr
  have HC2 := Lib.hid hc2
  have HB0 := Lib.hid hb0
  have HW0 := Lib.hid hW0
  clear htr hc2 hb0 hW0 hA hz hkd hb
  go_enter Tryd.func28, Tryd.ntmps28
  go_wp2_with (go_at_call 15; rw [← HW0.out]; refine HT.out.mono ?_; rintro e w1 ⟨t, rfl, hok, hb1⟩; refine Hid.out ?_)
  refine Lib.hid ?_
  have hC2 := HC2.out.below hb1
  obtain ⟨tk, TN, TA, tb, hsh, htt⟩ := trigA_shape t
  rw [hsh]
  have HOK := Lib.hid hok
  have HSH := Lib.hid hsh
  have HB1 := Lib.hid (HB0.out.trans (hb1.mono HB0.out.size))
  have l0 := hC2.get 0 (.int .i64 0)
  have l1 := hC2.get 1 (.string ⟨#[]⟩)
  have l2 := hC2.get 2 (.string ⟨#[]⟩)
  have l3 := hC2.get 3 (.int .i64 0)
  have lz0 := hC2.froz 0
  have lz1 := hC2.froz 1
  have lz2 := hC2.froz 2
  have lz3 := hC2.froz 3
  have HC := Lib.hid hC2
  clear hC2 hb1 hok hsh htt HC2
  go_wp2_with fail
  refine bodyPost_ret (v := .agg #[.int .i64 tk, .string TN, .string TA, .int .i64 tb]) ?_ rfl ⟨t, by rw [HSH.out], HOK.out, ?_⟩
  · have hfin := Cs.all4 HC.out (a' := .int .i64 tk) (b' := .string TN) (c' := .string TA) (d' := .int .i64 tb)
    have g0 := hfin.get 0 (.int .i64 tk)
    have g1 := hfin.get 1 (.string TN)
    have g2 := hfin.get 2 (.string TA)
    have g3 := hfin.get 3 (.int .i64 tb)
    generalize ((((w1.setCell ⟨w.heap.size + 1, 0, none⟩ (.int .i64 tk)).setCell ⟨w.heap.size + 1, 1, none⟩ (.string TN)).setCell ⟨w.heap.size + 1, 2, none⟩ (.string TA)).setCell ⟨w.heap.size + 1, 3, none⟩ (.int .i64 tb)) = WF at g0 g1 g2 g3 ⊢
    simp [results, Tryd.results28, go_sem, g0, g1, g2, g3]
  · exact below_all4 HB1.out (by omega)
end Go.Proofs.YtodpaejakgjblaaDoor
