/- Whether entries are the same, as the statements ask it: of the same ones. -/
import Derived.Test.YtlmhmkpoaebokaaPendG
import Derived.Test.YtlmhmkpoaebokaaRecC
import Derived.Outline
namespace Go.Proofs.Ytlmhmkpoaebokaa
open Go.RowKit
set_option linter.unusedVariables false
set_option linter.unusedSimpArgs false
set_option maxRecDepth 20000
attribute [local simp] putsF isV wordOf Deps Region.binds Region.wanted Act.put wantedX isB
theorem wpList_load_midG {P : Program} {ops : Array Oper} {rest : List Oper} {op : Oper} {a : Act} {w : World} {Q : Exit → Act → World → Prop} (hgd : Region.wanted op (yielded ops a.tmps) = true) (ty : TypeId) (x : Operand) (ho : op.op = .load ty x)
    (b o : Nat) (hx : a.eval x = .pointer (some ⟨b, o, none⟩)) (cs : List Value) (d : TypeDesc) (hc : w.rangeAt b o cs)
    (hu : P.underlying ty = some d) (hd : d.isRow = true) (hi : (P.info? ty).map (·.size) = some cs.length)
    (h : wpList P ops Q rest (a.put op.dst (.agg cs.toArray)) w) : wpList P ops Q (op :: rest) a w := by
  refine wpList_step fun K hK => ?_
  rw [if_pos hgd]
  exact wp_load_mid ty x ho b o hx cs d hc hu hd hi (hK _ _ h)
theorem hdr_fieldsP : ∃ f0 f1 f2 f3 f4 f5 f6 f7, (Try.prog.fieldsOf 24).toList = [f0, f1, f2, f3, f4, f5, f6, f7] ∧ (Try.prog.underlying f0.type = some (.int .u16) ∧ Try.prog.underlying f1.type = some .bool ∧ Try.prog.underlying f2.type = some (.int .i64) ∧ Try.prog.underlying f3.type = some .bool ∧ Try.prog.underlying f4.type = some .bool ∧ Try.prog.underlying f5.type = some .bool ∧ Try.prog.underlying f6.type = some .bool ∧ Try.prog.underlying f7.type = some (.int .i64)) ∧
    (f0.name ≠ "_" ∧ f1.name ≠ "_" ∧ f2.name ≠ "_" ∧ f3.name ≠ "_" ∧ f4.name ≠ "_" ∧ f5.name ≠ "_" ∧ f6.name ≠ "_" ∧ f7.name ≠ "_") ∧ (f0.offset = 0 ∧ f1.offset = 1 ∧ f2.offset = 2 ∧ f3.offset = 3 ∧ f4.offset = 4 ∧ f5.offset = 5 ∧ f6.offset = 6 ∧ f7.offset = 7) ∧ (Try.prog.cellsOf f0.type = 1 ∧ Try.prog.cellsOf f1.type = 1 ∧ Try.prog.cellsOf f2.type = 1 ∧ Try.prog.cellsOf f3.type = 1 ∧ Try.prog.cellsOf f4.type = 1 ∧ Try.prog.cellsOf f5.type = 1 ∧ Try.prog.cellsOf f6.type = 1 ∧ Try.prog.cellsOf f7.type = 1) :=
  ⟨_, _, _, _, _, _, _, _, rfl, ⟨by kernel_rfl, by kernel_rfl, by kernel_rfl, by kernel_rfl, by kernel_rfl, by kernel_rfl, by kernel_rfl, by kernel_rfl⟩, ⟨by decide, by decide, by decide, by decide, by decide, by decide, by decide, by decide⟩, ⟨rfl, rfl, rfl, rfl, rfl, rfl, rfl, rfl⟩, ⟨by kernel_rfl, by kernel_rfl, by kernel_rfl, by kernel_rfl, by kernel_rfl, by kernel_rfl, by kernel_rfl, by kernel_rfl⟩⟩
theorem hdr_eqlP (w : World) : (binOp .eql 24 (.agg #[.int .u16 0, .bool false, .int .i64 0, .bool false, .bool false, .bool false, .bool false, .int .i64 0]) (.agg #[.int .u16 0, .bool false, .int .i64 0, .bool false, .bool false, .bool false, .bool false, .int .i64 0])).run Try.prog w = .ok (.bool true) w := by
  obtain ⟨f0, f1, f2, f3, f4, f5, f6, f7, hf, ⟨t0, t1, t2, t3, t4, t5, t6, t7⟩, ⟨n0, n1, n2, n3, n4, n5, n6, n7⟩, ⟨o0, o1, o2, o3, o4, o5, o6, o7⟩, ⟨c0, c1, c2, c3, c4, c5, c6, c7⟩⟩ := hdr_fieldsP
  rw [run_eql_struct, run_equalIn_agg (P := Try.prog) w _ _ _ _ Try.underlying24 (by kernel_rfl), hf]
  simp [go_sem, Op.eqFields, isAgg, run_underlying t0, run_underlying t1, run_underlying t2, run_underlying t3, run_underlying t4, run_underlying t5, run_underlying t6, run_underlying t7, t0, t1, t2, t3, t4, t5, t6, t7, n0, n1, n2, n3, n4, n5, n6, n7, o0, o1, o2, o3, o4, o5, o6, o7]
theorem q_eql (a b : ByteArray) (x y : Int) (w : World) : (binOp .eql 28 (.agg #[.string a, .int .u16 x]) (.agg #[.string b, .int .u16 y])).run Try.prog w = .ok (.bool (a.toList == b.toList && x == y)) w := by
  obtain ⟨f0, f1, hf, ⟨t0, t1⟩, ⟨n0, n1⟩, ⟨o0, o1⟩, ⟨c0, c1⟩⟩ := q_fields
  rw [run_eql_struct, run_equalIn_agg (P := Try.prog) w _ _ _ _ Try.underlying28 (by kernel_rfl), hf]
  simp [go_sem, Op.eqFields, isAgg, run_underlying t0, run_underlying t1, t0, t1, n0, n1, o0, o1]
  by_cases e0 : a.toList = b.toList <;> by_cases e1 : x = y <;> simp [e0, e1]
set_option maxHeartbeats 1600000 in
theorem same05_self (e1 : ByteArray) (e2 : Int) (w : World) : Calls Try.prog 10 #[.agg #[.int .u16 0, .bool false, .int .i64 0, .bool false, .bool false, .bool false, .bool false, .int .i64 0, .string e1, .int .u16 e2, .slice none 0 0, .slice none 0 0, .slice none 0 0, .int .i64 0], .agg #[.int .u16 0, .bool false, .int .i64 0, .bool false, .bool false, .bool false, .bool false, .int .i64 0, .string e1, .int .u16 e2, .slice none 0 0, .slice none 0 0, .slice none 0 0, .int .i64 0]] w fun r w' => r = .returned (.bool true) ∧ Below w.heap.size w w' := by
  have SR : ∀ w : World, Calls Try.prog 22 #[.slice none 0 0, .slice none 0 0] w fun r w' => r = .returned (.bool true) ∧ Below w.heap.size w w' := fun w => by
    have := same_recs none none 0 0 [] [] w (fun i r h => by simp at h) (fun i r h => by simp at h) (by simp) (by simp)
    simpa using this
  have SR := Lib.hid SR
  have HE := fun w => hdr_eqlP w
  have QE := fun w => q_eql e1 e1 e2 e2 w
  simp only [BEq.rfl, Bool.and_self] at QE
  have hA := (Cs.new w #[.int .u16 0, .bool false, .int .i64 0, .bool false, .bool false, .bool false, .bool false, .int .i64 0, .string e1, .int .u16 e2, .slice none 0 0, .slice none 0 0, .slice none 0 0, .int .i64 0] 31 [.int .u16 0, .bool false, .int .i64 0, .bool false, .bool false, .bool false, .bool false, .int .i64 0, .string e1, .int .u16 e2, .slice none 0 0, .slice none 0 0, .slice none 0 0, .int .i64 0]).alloc (.cells #[.int .u16 0, .bool false, .int .i64 0, .bool false, .bool false, .bool false, .bool false, .int .i64 0, .string e1, .int .u16 e2, .slice none 0 0, .slice none 0 0, .slice none 0 0, .int .i64 0] 31)
  have hB := (Cs.new (w.alloc (.cells #[.int .u16 0, .bool false, .int .i64 0, .bool false, .bool false, .bool false, .bool false, .int .i64 0, .string e1, .int .u16 e2, .slice none 0 0, .slice none 0 0, .slice none 0 0, .int .i64 0] 31)) #[.int .u16 0, .bool false, .int .i64 0, .bool false, .bool false, .bool false, .bool false, .int .i64 0, .string e1, .int .u16 e2, .slice none 0 0, .slice none 0 0, .slice none 0 0, .int .i64 0] 31 [.int .u16 0, .bool false, .int .i64 0, .bool false, .bool false, .bool false, .bool false, .int .i64 0, .string e1, .int .u16 e2, .slice none 0 0, .slice none 0 0, .slice none 0 0, .int .i64 0]).at_ (w.heap.size + 1) (by simp)
  have hb0 := ((Below.refl w.heap.size w).alloc (Nat.le_refl _) (.cells #[.int .u16 0, .bool false, .int .i64 0, .bool false, .bool false, .bool false, .bool false, .int .i64 0, .string e1, .int .u16 e2, .slice none 0 0, .slice none 0 0, .slice none 0 0, .int .i64 0] 31)).alloc (by simp) (.cells #[.int .u16 0, .bool false, .int .i64 0, .bool false, .bool false, .bool false, .bool false, .int .i64 0, .string e1, .int .u16 e2, .slice none 0 0, .slice none 0 0, .slice none 0 0, .int .i64 0] 31)
  go_enter Try.func10, Try.ntmps10
  go_wp2_with fail
  refine (SR.out _).mono ?_
  rintro e w1 ⟨rfl, hb1'⟩
  have hA1 := hA.below hb1'
  have hB1 := hB.below hb1'
  have hb1 := below_trans hb0 hb0.size hb1'
  have a11 := hA1.get 11 _
  have b11 := hB1.get 11 _
  clear hA hB hb0 hb1'
  go_wp2_with fail
  refine (SR.out _).mono ?_
  rintro e w2 ⟨rfl, hb2'⟩
  have hA2 := hA1.below hb2'
  have hB2 := hB1.below hb2'
  have hb2 := below_trans hb1 hb1.size hb2'
  have a12 := hA2.get 12 _
  have b12 := hB2.get 12 _
  clear hA1 hB1 hb1 hb2' a11 b11
  go_wp2_with fail
  refine (SR.out _).mono ?_
  rintro e w3 ⟨rfl, hb3'⟩
  have hb3 := below_trans hb2 hb2.size hb3'
  clear hA2 hB2
  go_wp2_with fail
  go_ret
  exact ⟨rfl, hb3⟩
set_option maxHeartbeats 3200000 in
theorem same26_self (e : EntT) (w : World) : Calls Try.prog 31 #[entA e, entA e] w fun r w' => r = .returned (.bool true) ∧ Below w.heap.size w w' := by
  obtain ⟨e0, e1, e2, e3, e4, e5⟩ := e
  unfold entA entCells
  simp only
  have SM := Lib.hid (fun w => same05_self e1 e2 w)
  have hA := (Cs.new w #[.int .u16 e0, .int .u16 0, .bool false, .int .i64 0, .bool false, .bool false, .bool false, .bool false, .int .i64 0, .string e1, .int .u16 e2, .slice none 0 0, .slice none 0 0, .slice none 0 0, .int .i64 0, .string e3, .int .i64 e4, .bool false, .int .i64 e5] 74 [.int .u16 e0, .int .u16 0, .bool false, .int .i64 0, .bool false, .bool false, .bool false, .bool false, .int .i64 0, .string e1, .int .u16 e2, .slice none 0 0, .slice none 0 0, .slice none 0 0, .int .i64 0, .string e3, .int .i64 e4, .bool false, .int .i64 e5]).alloc (.cells #[.int .u16 e0, .int .u16 0, .bool false, .int .i64 0, .bool false, .bool false, .bool false, .bool false, .int .i64 0, .string e1, .int .u16 e2, .slice none 0 0, .slice none 0 0, .slice none 0 0, .int .i64 0, .string e3, .int .i64 e4, .bool false, .int .i64 e5] 74)
  have hB := (Cs.new (w.alloc (.cells #[.int .u16 e0, .int .u16 0, .bool false, .int .i64 0, .bool false, .bool false, .bool false, .bool false, .int .i64 0, .string e1, .int .u16 e2, .slice none 0 0, .slice none 0 0, .slice none 0 0, .int .i64 0, .string e3, .int .i64 e4, .bool false, .int .i64 e5] 74)) #[.int .u16 e0, .int .u16 0, .bool false, .int .i64 0, .bool false, .bool false, .bool false, .bool false, .int .i64 0, .string e1, .int .u16 e2, .slice none 0 0, .slice none 0 0, .slice none 0 0, .int .i64 0, .string e3, .int .i64 e4, .bool false, .int .i64 e5] 74 [.int .u16 e0, .int .u16 0, .bool false, .int .i64 0, .bool false, .bool false, .bool false, .bool false, .int .i64 0, .string e1, .int .u16 e2, .slice none 0 0, .slice none 0 0, .slice none 0 0, .int .i64 0, .string e3, .int .i64 e4, .bool false, .int .i64 e5]).at_ (w.heap.size + 1) (by simp)
  have hb0 := ((Below.refl w.heap.size w).alloc (Nat.le_refl _) (.cells #[.int .u16 e0, .int .u16 0, .bool false, .int .i64 0, .bool false, .bool false, .bool false, .bool false, .int .i64 0, .string e1, .int .u16 e2, .slice none 0 0, .slice none 0 0, .slice none 0 0, .int .i64 0, .string e3, .int .i64 e4, .bool false, .int .i64 e5] 74)).alloc (by simp) (.cells #[.int .u16 e0, .int .u16 0, .bool false, .int .i64 0, .bool false, .bool false, .bool false, .bool false, .int .i64 0, .string e1, .int .u16 e2, .slice none 0 0, .slice none 0 0, .slice none 0 0, .int .i64 0, .string e3, .int .i64 e4, .bool false, .int .i64 e5] 74)
  have H0 := Lib.hid (And.intro hA (And.intro hB hb0))
  clear hA hB hb0
  go_enter Try.func31, Try.ntmps31
  go_upto_region 1 with fail
  obtain ⟨hA, hB, hb0⟩ := H0.out
  generalize (w.alloc (.cells #[.int .u16 e0, .int .u16 0, .bool false, .int .i64 0, .bool false, .bool false, .bool false, .bool false, .int .i64 0, .string e1, .int .u16 e2, .slice none 0 0, .slice none 0 0, .slice none 0 0, .int .i64 0, .string e3, .int .i64 e4, .bool false, .int .i64 e5] 74)).alloc (.cells #[.int .u16 e0, .int .u16 0, .bool false, .int .i64 0, .bool false, .bool false, .bool false, .bool false, .int .i64 0, .string e1, .int .u16 e2, .slice none 0 0, .slice none 0 0, .slice none 0 0, .int .i64 0, .string e3, .int .i64 e4, .bool false, .int .i64 e5] 74) = w0 at *
  obtain ⟨a, ha⟩ : ∃ a, a = w.heap.size := ⟨_, rfl⟩
  obtain ⟨b, hb⟩ : ∃ b, b = w.heap.size + 1 := ⟨_, rfl⟩
  rw [← hb] at hB ⊢
  rw [← ha] at hA ⊢
  have HA := Lib.hid hA
  have HB := Lib.hid hB
  have HBE := Lib.hid hb0
  have a0 := hA.get 0 _
  have b0 := hB.get 0 _
  have RA := Lib.hid (hA.part 1 14 [.int .u16 0, .bool false, .int .i64 0, .bool false, .bool false, .bool false, .bool false, .int .i64 0, .string e1, .int .u16 e2, .slice none 0 0, .slice none 0 0, .slice none 0 0, .int .i64 0])
  have RB := Lib.hid (hB.part 1 14 [.int .u16 0, .bool false, .int .i64 0, .bool false, .bool false, .bool false, .bool false, .int .i64 0, .string e1, .int .u16 e2, .slice none 0 0, .slice none 0 0, .slice none 0 0, .int .i64 0])
  have hq : (e0 == e0) = true := BEq.rfl
  clear H0 hA hB hb0 ha hb
  go_wp2_with (first | refine wpList_load_midG rfl 31 _ rfl a 1 rfl _ _ RA.out Try.underlying31 rfl (by kernel_rfl) ?_ | refine wpList_load_midG rfl 31 _ rfl b 1 rfl _ _ RB.out Try.underlying31 rfl (by kernel_rfl) ?_)
  refine (SM.out _).mono ?_
  rintro e w3 ⟨rfl, hb3⟩
  have hA3 := HA.out.below hb3
  have hB3 := HB.out.below hb3
  have a15 := hA3.get 15 _
  have a16 := hA3.get 16 _
  have a17 := hA3.get 17 _
  have a18 := hA3.get 18 _
  have b15 := hB3.get 15 _
  have b16 := hB3.get 16 _
  have b17 := hB3.get 17 _
  have b18 := hB3.get 18 _
  have HB3 := Lib.hid (below_trans HBE.out HBE.out.size hb3)
  clear hA3 hB3 hb3 a0 b0
  go_wp2_with fail
  go_ret
  exact ⟨rfl, HB3.out⟩
set_option maxHeartbeats 3200000 in
theorem all26_self (A A' : Option Addr) (n c c' : Nat) (es : List EntT) (w : World) (h : Ents w A es) (h' : Ents w A' es) (hl : es.length = n) (hn : n ≤ 1048576) :
    Calls Try.prog 32 #[.slice A n c, .slice A' n c'] w fun r w' => r = .returned (.bool true) ∧ Below w.heap.size w w' := by
  have H := Lib.hid h
  have H' := Lib.hid h'
  have HL := Lib.hid hl
  clear h h' hl
  go_enter Try.func32, Try.ntmps32
  go_wp2_with fail
  go_loopw [13] (fun i wr => ∃ (k : Nat), k ≤ n ∧ i = .int .i64 k ∧ Hid (Below w.heap.size w wr)) (fun i _ => n - (intOf i).toNat)
  case atStart => exact ⟨0, Nat.zero_le _, rfl, Lib.hid (Below.refl _ _)⟩
  case round =>
    obtain ⟨k, hk, rfl, HB⟩ := hrel
    by_cases hlt : k < n
    · have hlt' : (k : Int) < n := by omega
      obtain ⟨e, he⟩ : ∃ r, es[k]? = some r := ⟨_, List.getElem?_eq_getElem (by rw [HL.out]; omega)⟩
      obtain ⟨b1, o1, rfl, hb1, hc1⟩ := H.out k e he
      obtain ⟨b2, o2, rfl, hb2, hc2⟩ := H'.out k e he
      have R1 : Hid (w.rangeAt b1 (o1 + k * 19) (entCells e)) := Lib.hid (fun j v hv => hc1 j v hv)
      have R2 : Hid (w.rangeAt b2 (o2 + k * 19) (entCells e)) := Lib.hid (fun j v hv => hc2 j v hv)
      have SM := Lib.hid (fun w => same26_self e w)
      have HB1 := Lib.hid hb1
      have HB2 := Lib.hid hb2
      have HK := Lib.hid hk
      clear hc1 hc2 he hb1 hb2
      obtain ⟨EA, hEA⟩ : ∃ x, x = entA e := ⟨_, rfl⟩
      have HEA := Lib.hid hEA
      clear hEA
      go_upto_region 6 with fail
      refine wp_region_goesG data_follows (fun x => by simp [putsF, Act.put]; rfl) wr.heap.size wr
        [isV (.slice (some ⟨b1, o1, none⟩) n c), isV (.int .i64 (k : Nat)), isV (.pointer (some ⟨b1, o1 + k * 19, none⟩)), isV EA, isV (.slice (some ⟨b2, o2, none⟩) n c'), isV (.int .i64 (k : Nat)), isV (.pointer (some ⟨b2, o2 + k * 19, none⟩)), isV EA, isV (.bool true), isV (.bool false)]
        (by kernel_rfl) (by kernel_rfl) (by kernel_rfl) rfl ?_ (Below.refl _ _) ?_ ?_
      · repeat (first | exact trivial | refine ⟨isV_stays _, ?_⟩)
      · refine ⟨?_, ?_, ?_, ?_, ?_, ?_, ?_, ?_, ?_, ?_, trivial⟩
        all_goals
          intro x wx hR hd
          refine ⟨fun _ => ?_, fun hX => by simp at hX⟩
          simp at hd ⊢
        · go_simp; exact next_same _ rfl rfl hR
        · go_simp; exact next_same _ rfl rfl hR
        · obtain ⟨hd0, hd1⟩ := hd; go_simp; exact next_same _ rfl rfl hR
        · refine wp_load_mid 74 _ rfl b1 (o1 + k * 19) (by simp [go_sem, hd]) _ _ (fun j v hv => (hR.cell (p := ⟨b1, _, none⟩) (Nat.lt_of_lt_of_le HB1.out HB.out.size)).trans ((HB.out.cell (p := ⟨b1, _, none⟩) HB1.out).trans (R1.out j v hv))) Try.underlying74 rfl (by kernel_rfl) ?_
          exact next_same _ rfl HEA.out.symm hR
        · go_simp; exact next_same _ rfl rfl hR
        · go_simp; exact next_same _ rfl rfl hR
        · obtain ⟨hd0, hd1⟩ := hd; go_simp; exact next_same _ rfl rfl hR
        · refine wp_load_mid 74 _ rfl b2 (o2 + k * 19) (by simp [go_sem, hd]) _ _ (fun j v hv => (hR.cell (p := ⟨b2, _, none⟩) (Nat.lt_of_lt_of_le HB2.out HB.out.size)).trans ((HB.out.cell (p := ⟨b2, _, none⟩) HB2.out).trans (R2.out j v hv))) Try.underlying74 rfl (by kernel_rfl) ?_
          exact next_same _ rfl HEA.out.symm hR
        · obtain ⟨hd0, hd1⟩ := hd
          go_simp
          rw [HEA.out]
          go_at_call 31
          refine (SM.out wx).mono ?_
          rintro r w2 ⟨rfl, hb⟩
          exact next_call _ rfl rfl hR hR.size hb
        · go_simp; exact next_same _ rfl rfl hR
      intro x wx hR hx
      simp [AllWords] at hx
      obtain ⟨-, -, -, -, -, -, -, -, -, h9⟩ := hx
      rw [h9]
      clear h9
      have HBX := Lib.hid (below_trans HB.out HB.out.size hR)
      clear hR
      go_wp2_with fail
      go_round
      case rel => exact ⟨k + 1, by omega, by go_num, HBX⟩
      case measure => simp [intOf]; omega
    · have hlt' : ¬ (k : Int) < n := by omega
      go_wp2_with fail
      go_ret
      exact ⟨rfl, HB.out⟩
end Go.Proofs.Ytlmhmkpoaebokaa
