/- Whether two messages are the same, as the statements ask it. -/
import Derived.Test.YtbjbppnjheaecaaRepE
import Derived.Outline
namespace Go.Proofs.Ytbjbppnjheaecaa
open Go.RowKit
set_option linter.unusedVariables false
set_option linter.unusedSimpArgs false
set_option maxRecDepth 20000
theorem hdr_fields : ∃ f0 f1 f2 f3 f4 f5 f6 f7, (Try.prog.fieldsOf 24).toList = [f0, f1, f2, f3, f4, f5, f6, f7] ∧ (Try.prog.underlying f0.type = some (.int .u16) ∧ Try.prog.underlying f1.type = some .bool ∧ Try.prog.underlying f2.type = some (.int .i64) ∧ Try.prog.underlying f3.type = some .bool ∧ Try.prog.underlying f4.type = some .bool ∧ Try.prog.underlying f5.type = some .bool ∧ Try.prog.underlying f6.type = some .bool ∧ Try.prog.underlying f7.type = some (.int .i64)) ∧
    (f0.name ≠ "_" ∧ f1.name ≠ "_" ∧ f2.name ≠ "_" ∧ f3.name ≠ "_" ∧ f4.name ≠ "_" ∧ f5.name ≠ "_" ∧ f6.name ≠ "_" ∧ f7.name ≠ "_") ∧ (f0.offset = 0 ∧ f1.offset = 1 ∧ f2.offset = 2 ∧ f3.offset = 3 ∧ f4.offset = 4 ∧ f5.offset = 5 ∧ f6.offset = 6 ∧ f7.offset = 7) ∧ (Try.prog.cellsOf f0.type = 1 ∧ Try.prog.cellsOf f1.type = 1 ∧ Try.prog.cellsOf f2.type = 1 ∧ Try.prog.cellsOf f3.type = 1 ∧ Try.prog.cellsOf f4.type = 1 ∧ Try.prog.cellsOf f5.type = 1 ∧ Try.prog.cellsOf f6.type = 1 ∧ Try.prog.cellsOf f7.type = 1) :=
  ⟨_, _, _, _, _, _, _, _, rfl, ⟨by kernel_rfl, by kernel_rfl, by kernel_rfl, by kernel_rfl, by kernel_rfl, by kernel_rfl, by kernel_rfl, by kernel_rfl⟩, ⟨by decide, by decide, by decide, by decide, by decide, by decide, by decide, by decide⟩, ⟨rfl, rfl, rfl, rfl, rfl, rfl, rfl, rfl⟩, ⟨by kernel_rfl, by kernel_rfl, by kernel_rfl, by kernel_rfl, by kernel_rfl, by kernel_rfl, by kernel_rfl, by kernel_rfl⟩⟩
theorem hdr_eql (id : Int) (reply : Bool) (op : Int) (auth trunc want avail : Bool) (code : Int) (w : World) : (binOp .eql 24 (.agg #[.int .u16 id, .bool reply, .int .i64 op, .bool auth, .bool trunc, .bool want, .bool avail, .int .i64 code]) (.agg #[.int .u16 id, .bool reply, .int .i64 op, .bool auth, .bool trunc, .bool want, .bool avail, .int .i64 code])).run Try.prog w = .ok (.bool true) w := by
  obtain ⟨f0, f1, f2, f3, f4, f5, f6, f7, hf, ⟨t0, t1, t2, t3, t4, t5, t6, t7⟩, ⟨n0, n1, n2, n3, n4, n5, n6, n7⟩, ⟨o0, o1, o2, o3, o4, o5, o6, o7⟩, ⟨c0, c1, c2, c3, c4, c5, c6, c7⟩⟩ := hdr_fields
  rw [run_eql_struct, run_equalIn_agg (P := Try.prog) w _ _ _ _ Try.underlying24 (by kernel_rfl), hf]
  simp [go_sem, Op.eqFields, isAgg, run_underlying t0, run_underlying t1, run_underlying t2, run_underlying t3, run_underlying t4, run_underlying t5, run_underlying t6, run_underlying t7, t0, t1, t2, t3, t4, t5, t6, t7, n0, n1, n2, n3, n4, n5, n6, n7, o0, o1, o2, o3, o4, o5, o6, o7]
theorem qst_fields : ∃ f0 f1, (Try.prog.fieldsOf 28).toList = [f0, f1] ∧ (Try.prog.underlying f0.type = some .string ∧ Try.prog.underlying f1.type = some (.int .u16)) ∧
    (f0.name ≠ "_" ∧ f1.name ≠ "_") ∧ (f0.offset = 0 ∧ f1.offset = 1) ∧ (Try.prog.cellsOf f0.type = 1 ∧ Try.prog.cellsOf f1.type = 1) :=
  ⟨_, _, rfl, ⟨by kernel_rfl, by kernel_rfl⟩, ⟨by decide, by decide⟩, ⟨rfl, rfl⟩, ⟨by kernel_rfl, by kernel_rfl⟩⟩
theorem qst_eql (qn : ByteArray) (qt : Int) (w : World) : (binOp .eql 28 (.agg #[.string qn, .int .u16 qt]) (.agg #[.string qn, .int .u16 qt])).run Try.prog w = .ok (.bool true) w := by
  obtain ⟨f0, f1, hf, ⟨t0, t1⟩, ⟨n0, n1⟩, ⟨o0, o1⟩, ⟨c0, c1⟩⟩ := qst_fields
  rw [run_eql_struct, run_equalIn_agg (P := Try.prog) w _ _ _ _ Try.underlying28 (by kernel_rfl), hf]
  simp [go_sem, Op.eqFields, isAgg, run_underlying t0, run_underlying t1, t0, t1, n0, n1, o0, o1]
set_option maxHeartbeats 1600000 in
/-- Two messages that have the same are the same. -/
theorem same_msg (id : Int) (reply : Bool) (op : Int) (auth trunc want avail : Bool) (code : Int) (qn : ByteArray) (qt z : Int) (A1 A2 A3 B1 B2 B3 : Option Addr) (ac1 ac2 ac3 bc1 bc2 bc3 : Nat) (r1 r2 r3 : List RecT) (w : World)
    (h1 : Recs w A1 r1) (h2 : Recs w A2 r2) (h3 : Recs w A3 r3) (k1 : Recs w B1 r1) (k2 : Recs w B2 r2) (k3 : Recs w B3 r3) (l1 : r1.length ≤ maxLen) (l2 : r2.length ≤ maxLen) (l3 : r3.length ≤ maxLen) :
    Calls Try.prog 10 #[.agg #[.int .u16 id, .bool reply, .int .i64 op, .bool auth, .bool trunc, .bool want, .bool avail, .int .i64 code, .string qn, .int .u16 qt, .slice A1 r1.length ac1, .slice A2 r2.length ac2, .slice A3 r3.length ac3, .int .i64 z], .agg #[.int .u16 id, .bool reply, .int .i64 op, .bool auth, .bool trunc, .bool want, .bool avail, .int .i64 code, .string qn, .int .u16 qt, .slice B1 r1.length bc1, .slice B2 r2.length bc2, .slice B3 r3.length bc3, .int .i64 z]] w fun e w' => e = .returned (.bool true) ∧ Below w.heap.size w w' := by
  have S1 := fun (w : World) h k => same_recs A1 B1 ac1 bc1 r1 r1 w h k l1 l1
  have S2 := fun (w : World) h k => same_recs A2 B2 ac2 bc2 r2 r2 w h k l2 l2
  have S3 := fun (w : World) h k => same_recs A3 B3 ac3 bc3 r3 r3 w h k l3 l3
  simp only [decide_true] at S1 S2 S3
  have S1 := Lib.hid S1
  have S2 := Lib.hid S2
  have S3 := Lib.hid S3
  have HE := fun w => hdr_eql id reply op auth trunc want avail code w
  have QE := fun w => qst_eql qn qt w
  have hA := (Cs.new w #[.int .u16 id, .bool reply, .int .i64 op, .bool auth, .bool trunc, .bool want, .bool avail, .int .i64 code, .string qn, .int .u16 qt, .slice A1 r1.length ac1, .slice A2 r2.length ac2, .slice A3 r3.length ac3, .int .i64 z] 31 _).alloc (.cells #[.int .u16 id, .bool reply, .int .i64 op, .bool auth, .bool trunc, .bool want, .bool avail, .int .i64 code, .string qn, .int .u16 qt, .slice B1 r1.length bc1, .slice B2 r2.length bc2, .slice B3 r3.length bc3, .int .i64 z] 31)
  have hB := (Cs.new (w.alloc (.cells #[.int .u16 id, .bool reply, .int .i64 op, .bool auth, .bool trunc, .bool want, .bool avail, .int .i64 code, .string qn, .int .u16 qt, .slice A1 r1.length ac1, .slice A2 r2.length ac2, .slice A3 r3.length ac3, .int .i64 z] 31)) #[.int .u16 id, .bool reply, .int .i64 op, .bool auth, .bool trunc, .bool want, .bool avail, .int .i64 code, .string qn, .int .u16 qt, .slice B1 r1.length bc1, .slice B2 r2.length bc2, .slice B3 r3.length bc3, .int .i64 z] 31 _).at_ (w.heap.size + 1) (by simp)
  have hb0 := ((Below.refl w.heap.size w).alloc (Nat.le_refl _) (.cells #[.int .u16 id, .bool reply, .int .i64 op, .bool auth, .bool trunc, .bool want, .bool avail, .int .i64 code, .string qn, .int .u16 qt, .slice A1 r1.length ac1, .slice A2 r2.length ac2, .slice A3 r3.length ac3, .int .i64 z] 31)).alloc (by simp) (.cells #[.int .u16 id, .bool reply, .int .i64 op, .bool auth, .bool trunc, .bool want, .bool avail, .int .i64 code, .string qn, .int .u16 qt, .slice B1 r1.length bc1, .slice B2 r2.length bc2, .slice B3 r3.length bc3, .int .i64 z] 31)
  have h1' := Lib.hid (h1.below hb0)
  have h2' := Lib.hid (h2.below hb0)
  have h3' := Lib.hid (h3.below hb0)
  have k1' := Lib.hid (k1.below hb0)
  have k2' := Lib.hid (k2.below hb0)
  have k3' := Lib.hid (k3.below hb0)
  clear h1 h2 h3 k1 k2 k3 l1 l2 l3
  generalize r1.length = N1 at *
  generalize r2.length = N2 at *
  generalize r3.length = N3 at *
  go_enter Try.func10, Try.ntmps10
  go_wp2_with fail
  refine (S1.out _ h1'.out k1'.out).mono ?_
  rintro e w1 ⟨rfl, hb1'⟩
  have hA1 := hA.below hb1'
  have hB1 := hB.below hb1'
  have hb1 := below_trans hb0 hb0.size hb1'
  have h2'' := h2'.out.below hb1'
  have k2'' := k2'.out.below hb1'
  have h3'' := h3'.out.below hb1'
  have k3'' := k3'.out.below hb1'
  have a11 := hA1.get 11 _
  have b11 := hB1.get 11 _
  have S2a := S2.out _ h2'' k2''
  clear hA hB hb0 hb1' h1' h2' h3' k1' k2' k3' S1 S2 h2'' k2''
  have S2a := Lib.hid S2a
  have H3 := Lib.hid h3''
  have K3 := Lib.hid k3''
  clear h3'' k3''
  go_wp2_with fail
  refine S2a.out.mono ?_
  rintro e w2 ⟨rfl, hb2'⟩
  have hA2 := hA1.below hb2'
  have hB2 := hB1.below hb2'
  have hb2 := below_trans hb1 hb1.size hb2'
  have a12 := hA2.get 12 _
  have b12 := hB2.get 12 _
  have S3a := Lib.hid (S3.out _ (H3.out.below hb2') (K3.out.below hb2'))
  clear hA1 hB1 hb1 hb2' H3 K3 S3 a11 b11 S2a
  go_wp2_with fail
  refine S3a.out.mono ?_
  rintro e w3 ⟨rfl, hb3'⟩
  have hb3 := below_trans hb2 hb2.size hb3'
  clear S3a hA2 hB2
  go_wp2_with fail
  go_ret
  exact ⟨rfl, hb3⟩
end Go.Proofs.Ytbjbppnjheaecaa
