/- Two triggers, and two prefixes, are compared. -/
import Derived.Test.YtkdknfedieeenaaGreatDoorOwnL
namespace Go.Proofs.YtkdknfedieeenaaGreatDoor
open Go.RowKit
set_option linter.unusedVariables false
set_option maxRecDepth 20000

theorem pfx_fields : ∃ f0 f1, (Tryz.prog.fieldsOf 44).toList = [f0, f1] ∧ (Tryz.prog.underlying f0.type = some .string ∧ Tryz.prog.underlying f1.type = some (.int .i64)) ∧
    (f0.name ≠ "_" ∧ f1.name ≠ "_") ∧ (f0.offset = 0 ∧ f1.offset = 1) ∧ (Tryz.prog.cellsOf f0.type = 1 ∧ Tryz.prog.cellsOf f1.type = 1) :=
  ⟨_, _, rfl, ⟨by kernel_rfl, by kernel_rfl⟩, ⟨by decide, by decide⟩, ⟨rfl, rfl⟩, ⟨by kernel_rfl, by kernel_rfl⟩⟩
theorem trig_fields : ∃ f0 f1 f2, (Tryz.prog.fieldsOf 46).toList = [f0, f1, f2] ∧ (Tryz.prog.underlying f0.type = some (.int .i64) ∧ Tryz.prog.underlying f1.type = some .string ∧ f2.type = 44) ∧
    (f0.name ≠ "_" ∧ f1.name ≠ "_" ∧ f2.name ≠ "_") ∧ (f0.offset = 0 ∧ f1.offset = 1 ∧ f2.offset = 2) ∧ (Tryz.prog.cellsOf f0.type = 1 ∧ Tryz.prog.cellsOf f1.type = 1 ∧ Tryz.prog.cellsOf f2.type = 2) :=
  ⟨_, _, _, rfl, ⟨by kernel_rfl, by kernel_rfl, rfl⟩, ⟨by decide, by decide, by decide⟩, ⟨rfl, rfl, rfl⟩, ⟨by kernel_rfl, by kernel_rfl, by kernel_rfl⟩⟩
theorem pfx_eq (d : Nat) (a a' : ByteArray) (x x' : Int) (w : World) : (Op.equalIn (d + 2) 44 (.agg #[.string a, .int .i64 x]) (.agg #[.string a', .int .i64 x'])).run Tryz.prog w = .ok (a.toList == a'.toList && x == x') w := by
  obtain ⟨f0, f1, hf, ⟨t0, t1⟩, ⟨n0, n1⟩, ⟨o0, o1⟩, ⟨c0, c1⟩⟩ := pfx_fields
  rw [run_equalIn_agg (P := Tryz.prog) w _ _ _ _ Tryz.underlying44 (by kernel_rfl), hf]
  simp [go_sem, Op.eqFields, isAgg, run_underlying t0, run_underlying t1, t0, t1, n0, n1, o0, o1]
  by_cases e0 : a.toList = a'.toList <;> by_cases e1 : x = x' <;> simp [e0, e1]
def trigEq (k k' : Int) (n n' a a' : ByteArray) (x x' : Int) : Bool := k == k' && (n.toList == n'.toList && (a.toList == a'.toList && x == x'))
theorem trig_eq (k k' : Int) (n n' a a' : ByteArray) (x x' : Int) (w : World) : (Op.equalIn 10000 46 (.agg #[.int .i64 k, .string n, .string a, .int .i64 x]) (.agg #[.int .i64 k', .string n', .string a', .int .i64 x'])).run Tryz.prog w = .ok (trigEq k k' n n' a a' x x') w := by
  obtain ⟨f0, f1, f2, hf, ⟨t0, t1, t2⟩, ⟨n0, n1, n2⟩, ⟨o0, o1, o2⟩, ⟨c0, c1, c2⟩⟩ := trig_fields
  have hpe := fun d w => pfx_eq d a a' x x' w
  rw [run_equalIn_agg (P := Tryz.prog) w _ _ _ _ Tryz.underlying46 (by kernel_rfl), hf]
  simp [go_sem, Op.eqFields, isAgg, run_underlying t0, run_underlying t1, t0, t1, t2, n0, n1, n2, o0, o1, o2, hpe]
  unfold trigEq
  by_cases e0 : k = k' <;> by_cases e1 : n.toList = n'.toList <;> by_cases e2 : a.toList = a'.toList <;> by_cases e3 : x = x' <;> simp [e0, e1, e2, e3]
theorem trig_neq (k k' : Int) (n n' a a' : ByteArray) (x x' : Int) (w : World) : (binOp .neq 46 (.agg #[.int .i64 k, .string n, .string a, .int .i64 x]) (.agg #[.int .i64 k', .string n', .string a', .int .i64 x'])).run Tryz.prog w = .ok (.bool (!trigEq k k' n n' a a' x x')) w := by
  rw [run_neq_struct, trig_eq]; rfl
theorem trig_eql (k k' : Int) (n n' a a' : ByteArray) (x x' : Int) (w : World) : (binOp .eql 46 (.agg #[.int .i64 k, .string n, .string a, .int .i64 x]) (.agg #[.int .i64 k', .string n', .string a', .int .i64 x'])).run Tryz.prog w = .ok (.bool (trigEq k k' n n' a a' x x')) w := by
  rw [run_eql_struct, trig_eq]; rfl
theorem pfx_neq (a a' : ByteArray) (x x' : Int) (w : World) : (binOp .neq 44 (.agg #[.string a, .int .i64 x]) (.agg #[.string a', .int .i64 x'])).run Tryz.prog w = .ok (.bool (!(a.toList == a'.toList && x == x'))) w := by
  rw [run_neq_struct, pfx_eq 9998]; rfl
theorem pfx_eql (a a' : ByteArray) (x x' : Int) (w : World) : (binOp .eql 44 (.agg #[.string a, .int .i64 x]) (.agg #[.string a', .int .i64 x'])).run Tryz.prog w = .ok (.bool (a.toList == a'.toList && x == x')) w := by
  rw [run_eql_struct, pfx_eq 9998]; rfl
/-- A trigger of its parts. -/
def toT (k : Int) (n a : ByteArray) (x : Int) : Trig := ⟨k, n.data.toList, a.data.toList, x⟩
theorem trigEq_iff (k k' : Int) (n n' a a' : ByteArray) (x x' : Int) : trigEq k k' n n' a a' x x' = decide (toT k n a x = toT k' n' a' x') := by
  unfold trigEq toT
  rw [Bool.eq_iff_iff]
  simp [ByteArray.toList_eq]
theorem toT_surj (t : Trig) : t = toT t.kind (baL t.name) (baL t.addr) t.bits := by
  cases t
  simp [toT, baL]
def encV : Option (List UInt8) → Value
  | some n => .tuple #[sv n, .bool true]
  | none => .tuple #[.string ⟨#[]⟩, .bool false]
theorem trigV_shape2 (o : Option Trig) : ∃ tk TN TA tb ok, trigV o = .tuple #[.agg #[.int .i64 tk, .string TN, .string TA, .int .i64 tb], .bool ok] ∧ ok = o.isSome ∧ o.getD noTrig = toT tk TN TA tb :=
  ⟨(o.getD noTrig).kind, baL (o.getD noTrig).name, baL (o.getD noTrig).addr, (o.getD noTrig).bits, o.isSome, rfl, rfl, toT_surj _⟩
theorem digsF_len : ∀ (f b n : Nat), (digsF f b n).length ≤ f + 1
  | 0, b, n => by simp [digsF]
  | f + 1, b, n => by
    rw [digsF]
    split
    · simp
    · have := digsF_len f b (n / b)
      simp; omega
theorem labT_elem (t : Trig) : ∀ y ∈ labT t, y.length ≤ 63 := by
  have hp : ∀ y ∈ prefixR t.addr t.bits, y.length ≤ 63 := by
    intro y hy
    unfold prefixR at hy
    split at hy
    · unfold prefixL at hy
      simp only [List.mem_cons, List.mem_reverse] at hy
      rcases hy with rfl | hy
      · have := digsF_len 2 10 t.bits.toNat; unfold dec; omega
      · unfold body at hy
        split at hy
        · unfold body6 at hy
          obtain ⟨o, _, rfl⟩ := List.mem_map.1 hy
          cases o with
          | none => simp [lab, zz]
          | some k =>
            have := digsF_len 3 16 ((wordsL t.addr).getD k 0)
            show (digsF 3 16 ((wordsL t.addr).getD k 0)).length ≤ 63
            omega
        · obtain ⟨c, _, rfl⟩ := List.mem_map.1 hy
          have := digsF_len 2 10 c.toNat; unfold dec; omega
    · cases hy
  have hn : ∀ y ∈ (nameLabels t.name).getD [], y.length ≤ 63 := by
    intro y hy
    cases h : nameLabels t.name with
    | none => rw [h] at hy; cases hy
    | some X =>
      rw [h] at hy
      have := (labels_ok h).1.1 y hy
      simp only [okLabel, Bool.and_eq_true, decide_eq_true_eq] at this
      omega
  have c1 : cClient.length ≤ 63 := by decide
  have c2 : cAnswer.length ≤ 63 := by decide
  have c3 : cNsip.length ≤ 63 := by decide
  have c4 : cNsname.length ≤ 63 := by decide
  have c5 : star.length ≤ 63 := by decide
  intro y hy
  unfold labT at hy
  repeat' split at hy
  all_goals try simp only [List.mem_append, List.mem_cons, List.not_mem_nil, or_false] at hy
  · rcases hy with h | rfl
    · exact hp y h
    · exact c1
  · rcases hy with h | rfl
    · exact hp y h
    · exact c2
  · rcases hy with h | rfl
    · exact hp y h
    · exact c3
  · exact hn y hy
  · rcases hy with rfl | h
    · exact c5
    · exact hn y h
  · rcases hy with h | rfl
    · exact hn y h
    · exact c4
  · rcases hy with rfl | h | rfl
    · exact c5
    · exact hn y h
    · exact c4
/-- The trigger's value. -/
def trigA (t : Trig) : Value := .agg (trigC t).toArray

set_option maxHeartbeats 16000000 in
theorem encode_any (k : Int) (n a : ByteArray) (x : Int) (w : World) (hn : n.size ≤ 140737488355328) (ha : a.size ≤ 140737488355328) (hL : LaidT w) :
    Calls Tryz.prog 37 #[.agg #[.int .i64 k, .string n, .string a, .int .i64 x]] w fun e w' => e = .returned (encV (encR (toT k n a x))) ∧ Below w.heap.size w w' := by
  have hcs := Cs.new w #[.int .i64 k, .string n, .string a, .int .i64 x] 46 [.int .i64 k, .string n, .string a, .int .i64 x]
  have hbel0 : Below w.heap.size w (w.alloc (.cells #[.int .i64 k, .string n, .string a, .int .i64 x] 46)) := (Below.refl _ _).alloc (Nat.le_refl _) _
  have hlab := labT_any k n a x _ hn ha (hL.alloc (.cells #[.int .i64 k, .string n, .string a, .int .i64 x] 46))
  obtain ⟨L, hLT⟩ : ∃ L, L = labT (toT k n a x) := ⟨_, rfl⟩
  rw [show (⟨k, n.data.toList, a.data.toList, x⟩ : Trig) = toT k n a x from rfl, ← hLT] at hlab
  have hLl : L.length ≤ 256 := by rw [hLT]; exact labT_len _
  have hLx : ∀ y ∈ L, y.length ≤ maxLen := by
    intro y hy
    rw [hLT] at hy
    have := labT_elem _ y hy
    unfold maxLen; omega
  obtain ⟨N, hN⟩ : ∃ N, N = baL (encN (toT k n a x)) := ⟨_, rfl⟩
  have hmk := fun A c w h => makeX_any A L.length c L w h hLx (by unfold maxLen; omega)
  rw [show sv ((makeL L).getD []) = .string N by rw [hN, hLT]; rfl] at hmk
  have hNs : N.size ≤ 254 := by rw [hN, show (baL (encN (toT k n a x))).size = (encN (toT k n a x)).length by simp [baL, ByteArray.size]]; exact encN_len _
  have hNd : N.data.toList = encN (toT k n a x) := by rw [hN]; simp [baL]
  have hdc := fun w h => decode_any N w (by omega) h
  rw [hNd] at hdc
  obtain ⟨tk, TN, TA, tb, ok, hsh, hok, hto⟩ := trigV_shape2 (decR (encN (toT k n a x)))
  rw [hsh] at hdc
  have hq := fun w => trig_neq tk k TN n TA a tb x w
  obtain ⟨q, hqq⟩ : ∃ q, q = trigEq tk k TN n TA a tb x := ⟨_, rfl⟩
  rw [← hqq] at hq
  have hres : encV (encR (toT k n a x)) = if ok = true ∧ q = true then .tuple #[.string N, .bool true] else .tuple #[.string ⟨#[]⟩, .bool false] := by
    rw [hqq, trigEq_iff, ← hto, hok]
    simp only [decide_eq_true_eq]
    unfold encR
    cases hd : decR (encN (toT k n a x)) with
    | none => rfl
    | some u =>
      simp only [Option.isSome_some, Option.getD_some, true_and, Option.some.injEq]
      by_cases hu : u = toT k n a x
      · rw [if_pos hu, if_pos hu, hN]; rfl
      · rw [if_neg hu, if_neg hu]; rfl
  obtain ⟨RES, hRES⟩ : ∃ RES, RES = encV (encR (toT k n a x)) := ⟨_, rfl⟩
  rw [← hRES]
  rw [← hRES] at hres
  have HLAB := Lib.hid hlab
  have HMK := Lib.hid hmk
  have HDC := Lib.hid hdc
  have HCS := Lib.hid hcs
  have HB0 := Lib.hid hbel0
  have HL0 := Lib.hid (hL.alloc (.cells #[.int .i64 k, .string n, .string a, .int .i64 x] 46))
  have HRES := Lib.hid hres
  clear hlab hmk hdc hcs hbel0 hL hres hRES hqq hsh hNd hN hLT hLx hok hto
  go_enter Tryz.func37, Tryz.ntmps37
  go_wp2_with (go_at_call 71; refine HLAB.out.mono ?_; rintro e w1 ⟨v1, rfl, hob⟩; refine Hid.out ?_)
  refine Lib.hid ?_
  obtain ⟨A1, c1, rfl, hb1, hb2, hb3⟩ := hob.slice
  have hC1 := HCS.out.below hob.bel
  have HC1 := Lib.hid hC1
  have HB1 := Lib.hid (HB0.out.trans (hob.bel.mono HB0.out.size))
  have HL1 := Lib.hid (HL0.out.below hob.bel (Nat.le_refl _))
  have HSL := Lib.hid hob.sl
  clear hC1 hob hb3 HCS HB0 HL0
  go_wp2_with (go_at_call 39; refine (HMK.out _ _ _ HSL.out).mono ?_; rintro e w2 ⟨rfl, hb4⟩; refine Hid.out ?_)
  refine Lib.hid ?_
  have HC2 := Lib.hid (HC1.out.below hb4)
  have HB2 := Lib.hid (HB1.out.trans (hb4.mono HB1.out.size))
  have HL2 := Lib.hid (HL1.out.below hb4 (Nat.le_refl _))
  clear hb4 HC1 HB1 HL1 HSL
  go_wp2_with (go_at_call 45; refine (HDC.out _ HL2.out).mono ?_; rintro e w3 ⟨rfl, hb5⟩; refine Hid.out ?_)
  refine Lib.hid ?_
  have hC3 := (HC2.out.below hb5).alloc (.cells #[.int .i64 tk, .string TN, .string TA, .int .i64 tb] 46)
  have k0 := hC3.get 0 (.int .i64 k)
  have k1 := hC3.get 1 (.string n)
  have k2 := hC3.get 2 (.string a)
  have k3 := hC3.get 3 (.int .i64 x)
  have hB3 := HB2.out.trans (hb5.mono HB2.out.size)
  have HB3 := Lib.hid (hB3.alloc hB3.size (.cells #[.int .i64 tk, .string TN, .string TA, .int .i64 tb] 46))
  clear hC3 hb5 hB3 HC2 HB2 HL2
  cases ok with
  | false =>
    go_wp2_with fail
    go_ret2
    exact ⟨by rw [HRES.out]; rfl, HB3.out⟩
  | true =>
    cases q with
    | false =>
      go_wp2_with fail
      go_ret2
      exact ⟨by rw [HRES.out]; rfl, HB3.out⟩
    | true =>
      go_wp2_with fail
      go_ret2
      exact ⟨by rw [HRES.out]; rfl, HB3.out⟩
end Go.Proofs.YtkdknfedieeenaaGreatDoor
