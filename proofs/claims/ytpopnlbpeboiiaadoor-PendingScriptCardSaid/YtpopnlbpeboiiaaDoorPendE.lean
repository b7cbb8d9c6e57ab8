/- The conditions by which entries are parted. -/
import Derived.Test.YtpopnlbpeboiiaaDoorPendD
import Derived.Outline
namespace Go.Proofs.YtpopnlbpeboiiaaDoor
open Go.RowKit
set_option linter.unusedVariables false
set_option linter.unusedSimpArgs false
set_option maxRecDepth 20000
theorem q_fields : ∃ f0 f1, (Tryd.prog.fieldsOf 36).toList = [f0, f1] ∧ (Tryd.prog.underlying f0.type = some .string ∧ Tryd.prog.underlying f1.type = some (.int .u16)) ∧
    (f0.name ≠ "_" ∧ f1.name ≠ "_") ∧ (f0.offset = 0 ∧ f1.offset = 1) ∧ (Tryd.prog.cellsOf f0.type = 1 ∧ Tryd.prog.cellsOf f1.type = 1) :=
  ⟨_, _, rfl, ⟨by kernel_rfl, by kernel_rfl⟩, ⟨by decide, by decide⟩, ⟨rfl, rfl⟩, ⟨by kernel_rfl, by kernel_rfl⟩⟩
theorem q_neq (a b : ByteArray) (x y : Int) (w : World) : (binOp .neq 36 (.agg #[.string a, .int .u16 x]) (.agg #[.string b, .int .u16 y])).run Tryd.prog w = .ok (.bool (!(a.toList == b.toList && x == y))) w := by
  obtain ⟨f0, f1, hf, ⟨t0, t1⟩, ⟨n0, n1⟩, ⟨o0, o1⟩, ⟨c0, c1⟩⟩ := q_fields
  rw [run_neq_struct, run_equalIn_agg (P := Tryd.prog) w _ _ _ _ Tryd.underlying36 (by kernel_rfl), hf]
  simp [go_sem, Op.eqFields, isAgg, run_underlying t0, run_underlying t1, t0, t1, n0, n1, o0, o1]
  by_cases e0 : a.toList = b.toList <;> by_cases e1 : x = y <;> simp [e0, e1]
set_option maxHeartbeats 1600000 in
theorem add1_any (e : EntT) (g : Nat) (id : Int) (w : World) (hg : g < w.heap.size) (hc : w.cell? ⟨g, 0, none⟩ = some (.int .u16 id)) :
    Calls Tryd.prog 15 #[entA e, .pointer (some ⟨g, 0, none⟩)] w fun r w' => r = .returned (.bool (e.1 == id)) ∧ Below w.heap.size w w' := by
  obtain ⟨e0, e1, e2, e3, e4, e5⟩ := e
  unfold entA entCells
  simp only
  have hb := (Below.refl w.heap.size w).alloc (Nat.le_refl _) (.cells #[.int .u16 e0, .int .u16 0, .bool false, .int .i64 0, .bool false, .bool false, .bool false, .bool false, .int .i64 0, .string e1, .int .u16 e2, .slice none 0 0, .slice none 0 0, .slice none 0 0, .int .i64 0, .string e3, .int .i64 e4, .bool false, .int .i64 e5] 41)
  have k0 := (hb.cell (p := ⟨g, 0, none⟩) hg).trans hc
  have HB := Lib.hid hb
  clear hb hg hc
  cases hq : (e0 == id) with
  | true =>
    go_enter Tryd.func15, Tryd.ntmps15
    go_wp2_with fail
    go_ret
    exact ⟨rfl, HB.out⟩
  | false =>
    go_enter Tryd.func15, Tryd.ntmps15
    go_wp2_with fail
    go_ret
    exact ⟨rfl, HB.out⟩
set_option maxHeartbeats 1600000 in
theorem exp1_any (e : EntT) (g : Nat) (now : Int) (w : World) (hg : g < w.heap.size) (hc : w.cell? ⟨g, 0, none⟩ = some (.int .i64 now)) :
    Calls Tryd.prog 20 #[entA e, .pointer (some ⟨g, 0, none⟩)] w fun r w' => r = .returned (.bool (decide (e.2.2.2.2.2 ≤ now))) ∧ Below w.heap.size w w' := by
  obtain ⟨e0, e1, e2, e3, e4, e5⟩ := e
  unfold entA entCells
  simp only
  have hb := (Below.refl w.heap.size w).alloc (Nat.le_refl _) (.cells #[.int .u16 e0, .int .u16 0, .bool false, .int .i64 0, .bool false, .bool false, .bool false, .bool false, .int .i64 0, .string e1, .int .u16 e2, .slice none 0 0, .slice none 0 0, .slice none 0 0, .int .i64 0, .string e3, .int .i64 e4, .bool false, .int .i64 e5] 41)
  have k0 := (hb.cell (p := ⟨g, 0, none⟩) hg).trans hc
  have HB := Lib.hid hb
  clear hb hg hc
  by_cases hq : e5 ≤ now
  · rw [decide_eq_true hq]
    go_enter Tryd.func20, Tryd.ntmps20
    go_wp2_with fail
    go_ret
    exact ⟨rfl, HB.out⟩
  · rw [decide_eq_false hq]
    go_enter Tryd.func20, Tryd.ntmps20
    go_wp2_with fail
    go_ret
    exact ⟨rfl, HB.out⟩
def AfterMatch (b : Bool) (g : Nat) (w w' : World) : Prop := ∃ wz, Below w.heap.size w wz ∧ w' = (if b = true then wz.setCell ⟨g, 0, none⟩ (.bool true) else wz)
/-- Is it the entry of this number, and of this question? -/
def hitE (id : Int) (qn : ByteArray) (qt : Int) (e : EntT) : Bool := e.1 == id && (e.2.1.toList == qn.toList && e.2.2.1 == qt)
set_option maxHeartbeats 3200000 in
theorem match1_any (e : EntT) (g0 g1 g3 : Nat) (f : Bool) (id : Int) (qn : ByteArray) (qt : Int) (w : World) (h0 : Cs w g0 [.bool f]) (h1 : Cs w g1 [.int .u16 id]) (h3 : Cs w g3 [.string qn, .int .u16 qt]) :
    Calls Tryd.prog 18 #[entA e, .pointer (some ⟨g0, 0, none⟩), .pointer (some ⟨g1, 0, none⟩), .pointer (some ⟨g3, 0, none⟩)] w fun r w' => r = .returned (.bool (!f && hitE id qn qt e)) ∧ AfterMatch (!f && hitE id qn qt e) g0 w w' := by
  obtain ⟨e0, e1, e2, e3, e4, e5⟩ := e
  unfold entA entCells hitE
  simp only
  have hb := (Below.refl w.heap.size w).alloc (Nat.le_refl _) (.cells #[.int .u16 e0, .int .u16 0, .bool false, .int .i64 0, .bool false, .bool false, .bool false, .bool false, .int .i64 0, .string e1, .int .u16 e2, .slice none 0 0, .slice none 0 0, .slice none 0 0, .int .i64 0, .string e3, .int .i64 e4, .bool false, .int .i64 e5] 41)
  obtain ⟨bb, hbb⟩ : ∃ b, b = (!f && (e0 == id && (e1.toList == qn.toList && e2 == qt))) := ⟨_, rfl⟩
  rw [← hbb]
  have HBB := Lib.hid hbb
  clear hbb
  have k0 := (h0.below hb).get 0 _
  have k1 := (h1.below hb).get 0 _
  have k3 := (h3.below hb).get 0 _
  have k4 := (h3.below hb).get 1 _
  have z0 := (h0.below hb).froz 0 (by simp)
  have hC := (Cs.new w #[.int .u16 e0, .int .u16 0, .bool false, .int .i64 0, .bool false, .bool false, .bool false, .bool false, .int .i64 0, .string e1, .int .u16 e2, .slice none 0 0, .slice none 0 0, .slice none 0 0, .int .i64 0, .string e3, .int .i64 e4, .bool false, .int .i64 e5] 41 [.int .u16 e0, .int .u16 0, .bool false, .int .i64 0, .bool false, .bool false, .bool false, .bool false, .int .i64 0, .string e1, .int .u16 e2, .slice none 0 0, .slice none 0 0, .slice none 0 0, .int .i64 0, .string e3, .int .i64 e4, .bool false, .int .i64 e5])
  have n0 := hC.get 0 _
  have n9 := hC.get 9 _
  have n10 := hC.get 10 _
  have HQ := fun w => q_neq e1 qn e2 qt w
  have HB := Lib.hid hb
  clear hb h0 h1 h3 hC
  go_enter Tryd.func18, Tryd.ntmps18
  go_upto_region 1 with fail
  generalize w.alloc (.cells #[.int .u16 e0, .int .u16 0, .bool false, .int .i64 0, .bool false, .bool false, .bool false, .bool false, .int .i64 0, .string e1, .int .u16 e2, .slice none 0 0, .slice none 0 0, .slice none 0 0, .int .i64 0, .string e3, .int .i64 e4, .bool false, .int .i64 e5] 41) = w0 at *
  cases f with
  | true =>
    obtain rfl : bb = false := by rw [HBB.out]; rfl
    go_wp2_with fail
    go_ret
    exact ⟨rfl, w0, HB.out, rfl⟩
  | false =>
    cases hq : (e0 == id) with
    | false =>
      have hq2 : (e0 != id) = true := by simp only [bne, hq]; rfl
      obtain rfl : bb = false := by rw [HBB.out, hq]; rfl
      go_wp2_with fail
      go_ret
      exact ⟨rfl, w0, HB.out, rfl⟩
    | true =>
      have hq2 : (e0 != id) = false := by simp only [bne, hq]; rfl
      cases hs : (e1.toList == qn.toList && e2 == qt) with
      | false =>
        rw [hs] at HQ
        obtain rfl : bb = false := by rw [HBB.out, hq, hs]; rfl
        go_wp2_with fail
        go_ret
        exact ⟨rfl, w0, HB.out, rfl⟩
      | true =>
        rw [hs] at HQ
        obtain rfl : bb = true := by rw [HBB.out, hq, hs]; rfl
        go_wp2_with fail
        go_ret
        exact ⟨rfl, w0, HB.out, rfl⟩
end Go.Proofs.YtpopnlbpeboiiaaDoor
