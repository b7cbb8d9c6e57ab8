/- point's Writer: Name at the document's example. -/
import Derived.Test.YtliofipccicnfaaWr
import Derived.Test.YtliofipccicnfaaPtL
import Derived.Test.YtliofipccicnfaaNameB
import Derived.Test.YtliofipccicnfaaNameC
namespace Go.Proofs.Ytliofipccicnfaa
open Go.RowKit
set_option linter.unusedVariables false
set_option maxRecDepth 20000
theorem ptn_follows : Try.prog.follows .mixedOrders = true := by kernel_rfl
theorem look_nil (w : World) : (Instr.lookup 31 (.map none) (.string ⟨#[1, 97, 1, 98]⟩) true).run Try.prog w = .ok (.tuple #[.int .i64 0, .bool false]) w := by kernel_rfl
/-- What the slots of the region hold. -/
def valN (b : Nat) (v : Value) (s t : ByteArray) (k : Nat) (i : Nat) : Value := if i = 4 then v else if i = 5 then .string s else if i = 6 then .int .i64 k else if i = 7 then .string t else .pointer (some ⟨b, 0, none⟩)
theorem may_ab (w : World) : Calls Try.prog 9 #[.string ⟨#[1, 97, 1, 98]⟩] w fun e w' => e = .returned (.bool true) ∧ Below w.heap.size w w' := by
  refine (may_any ⟨#[1, 97, 1, 98]⟩ w (by decide)).mono ?_
  rintro e w' ⟨rfl, h⟩
  exact ⟨by rw [show (labelsOf ⟨#[1, 97, 1, 98]⟩).isSome = true by decide], h⟩
theorem may_b (w : World) : Calls Try.prog 9 #[.string ⟨#[1, 98]⟩] w fun e w' => e = .returned (.bool true) ∧ Below w.heap.size w w' := by
  refine (may_any ⟨#[1, 98]⟩ w (by decide)).mono ?_
  rintro e w' ⟨rfl, h⟩
  exact ⟨by rw [show (labelsOf ⟨#[1, 98]⟩).isSome = true by decide], h⟩
attribute [local simp] putsF Region.binds Region.wanted Act.put
set_option maxHeartbeats 1600000 in
theorem name_first (w : World) (b : Nat) (hC : Cs w b [.slice none 0 0, .map none]) :
    Calls Try.prog 11 #[.pointer (some ⟨b, 0, none⟩), .string ⟨#[1, 97, 1, 98]⟩] w fun e w' => e = .returned (.tuple #[]) ∧
      ∃ v g, Wr w b b g v 5 ([1, 97, 1, 98, 0].map bv) [(⟨#[1, 97, 1, 98]⟩, .int .i64 0), (⟨#[1, 98]⟩, .int .i64 2)] w' := by
  go_enter Try.func11, Try.ntmps11
  go_wp2_with fail
  refine (may_ab _).mono ?_
  rintro e w1 ⟨rfl, hb1⟩
  go_wp2_with fail
  have hC1 := hC.below hb1
  go_loopw [1] (fun nv wr => (nv = .string ⟨#[1, 97, 1, 98]⟩ ∧ wr = w1) ∨ (∃ v g, nv = .string ⟨#[1, 98]⟩ ∧ Wr w b b g v 2 ([1, 97].map bv) [(⟨#[1, 97, 1, 98]⟩, .int .i64 0)] wr) ∨ (∃ v g, nv = .string ⟨#[]⟩ ∧ Wr w b b g v 4 ([1, 97, 1, 98].map bv) [(⟨#[1, 97, 1, 98]⟩, .int .i64 0), (⟨#[1, 98]⟩, .int .i64 2)] wr)) (fun nv _ => match nv with | .string s => s.size | _ => 0)
  case atStart => exact .inl ⟨rfl, rfl⟩
  case round =>
    rcases hrel with ⟨rfl, rfl⟩ | ⟨v, g, rfl, hW⟩ | ⟨v, g, rfl, hW⟩
    · have c0 := hC1.get 0 _
      have c1 := hC1.get 1 _
      have q1 := hC1.lt
      have hlk := fun w => look_nil w
      obtain ⟨i0, hib, hz0, hz1, hz2⟩ := info_parts byte_info
      have hw6 : wrap64 (1 + wrap64 1) = 2 := by first | kernel_rfl | rfl | simp [wrap64]
      have hx0 : ((⟨#[1, 97, 1, 98]⟩ : ByteArray)[0]'(by decide)).toNat = 1 := rfl
      go_wp2_with fail
      refine (learn_first _ b _ hC1).mono ?_
      rintro e w2 ⟨rfl, g, hC2, hM2, hbg, hle, hB2⟩
      go_upto_region 1 with fail
      have hW : Wr w b b g (.slice none 0 0) 0 [] [(⟨#[1, 97, 1, 98]⟩, .int .i64 0)] w2 := ⟨OB.nil ((hb1.mono (Nat.le_of_lt hC.lt)).trans hB2) (by have := hC2.lt; omega), hC2, hM2, by have := hC1.lt; omega, Nat.le_refl _, by simp [Value.ownBlock], by simp [Value.ownBlock]⟩
      refine wp_region_joint ptn_follows (JN w b b g (.slice none 0 0) 0 [] [(⟨#[1, 97, 1, 98]⟩, .int .i64 0)] 2 ([1, 97].map bv) (valN b (.slice none 0 0) ⟨#[1, 97, 1, 98]⟩ ⟨#[1, 97]⟩ 2)) (by kernel_rfl) (by kernel_rfl) ?start ?steps ?fin
      case start => exact fun x => JN.start hW.drew x
      case steps =>
        intro i hi dd x wr hJ hdi hdeps
        have hi12 : i < 12 := hi
        have hcs : i = 0 ∨ i = 1 ∨ i = 2 ∨ i = 3 ∨ i = 4 ∨ i = 5 ∨ i = 6 ∨ i = 7 ∨ i = 8 ∨ i = 9 ∨ i = 10 ∨ i = 11 := by omega
        rcases hcs with rfl | rfl | rfl | rfl | rfl | rfl | rfl | rfl | rfl | rfl | rfl | rfl
        all_goals
          simp at hdeps
          simp
        · go_simp
          exact (hJ.read 0 (by decide) (by decide)).dec
        · go_simp
          exact (hJ.read 1 (by decide) (by decide)).dec
        · have x1 := hJ.slots 1 (by decide) (by decide) (by simp_all)
          simp [valN] at x1
          rw [x1]
          go_simp
          exact (hJ.read 2 (by decide) (by decide)).dec
        · have x2 := hJ.slots 2 (by decide) (by decide) (by simp_all)
          simp [valN] at x2
          rw [x2]
          go_simp
          exact (hJ.read 3 (by decide) (by decide)).dec
        · have x3 := hJ.slots 3 (by decide) (by decide) (by simp_all)
          simp [valN] at x3
          rw [x3]
          have hc := hJ.cs0 (hJ.open 4 (by decide) hdi)
          have c0 := hc.get 0 _
          go_simp
          exact (hJ.read 4 (by decide) (by decide)).dec
        · go_simp
          exact (hJ.read 5 (by decide) (by decide)).dec
        · go_simp
          try rw [hw6]
          exact (hJ.read 6 (by decide) (by decide)).dec
        · have x5 := hJ.slots 5 (by decide) (by decide) (by simp_all)
          simp [valN] at x5
          rw [x5]
          have x6 := hJ.slots 6 (by decide) (by decide) (by simp_all)
          simp [valN] at x6
          rw [x6]
          go_simp
          exact (hJ.read 7 (by decide) (by decide)).dec
        · obtain ⟨o1, o2, o3⟩ := hJ.own0 hdi
          have x4 := hJ.slots 4 (by decide) (by decide) (by simp_all)
          have x7 := hJ.slots 7 (by decide) (by decide) (by simp_all)
          simp [valN] at x4 x7
          rw [x4, x7]
          refine oper_append_ob _ _ _ _ rfl 5 i0 _ 1 Try.underlying30 hib hz0 hz1 hz2 rfl o1 rfl rfl (Src.ofString (P := Try.prog) (w := wr) (tx := 23) (by kernel_rfl) ⟨#[1, 97]⟩) (by decide) (by decide) ?_
          intro v' w' h1 h2 h3 h4
          refine ⟨v', rfl, ?_⟩
          exact (hJ.app hdi h1 h2 h3 h4).dec
        · have x0 := hJ.slots 0 (by decide) (by decide) (by simp_all)
          simp [valN] at x0
          rw [x0]
          go_simp
          exact (hJ.read 9 (by decide) (by decide)).dec
        · have x9 := hJ.slots 9 (by decide) (by decide) (by simp_all)
          simp [valN] at x9
          rw [x9]
          go_simp
          exact (hJ.read 10 (by decide) (by decide)).dec
        · have h8 : dd 8 = true := by simp_all
          have x10 := hJ.slots 10 (by decide) (by decide) (by simp_all)
          simp [valN] at x10
          have hall : ∀ i, i < 9 → dd i = true := by
            intro i hi
            have : i = 0 ∨ i = 1 ∨ i = 2 ∨ i = 3 ∨ i = 4 ∨ i = 5 ∨ i = 6 ∨ i = 7 ∨ i = 8 := by omega
            rcases this with rfl | rfl | rfl | rfl | rfl | rfl | rfl | rfl | rfl <;> simp_all
          have hs := (hJ.store h8 hdi hall undef).dec
          obtain ⟨A, c, e8, -⟩ := (hJ.own1 h8).1.slice
          have hc := hJ.cs0 hdi
          have c0 := hc.get 0 _
          have f0 := hc.froz 0 (by simp)
          rw [e8] at hs
          rw [x10, e8]
          go_simp
          exact ⟨undef, hs⟩
      case fin =>
        intro d x wz hall hJ
        have hW2 := hJ.done (hall 8 (by decide)) (hall 11 (by decide))
        clear hJ hall
        simp
        have hex : (⟨#[1, 97, 1, 98]⟩ : ByteArray).extract 2 4 = ⟨#[1, 98]⟩ := rfl
        go_wp2_with fail
        go_roundw
        case rel => exact .inr (.inl ⟨_, g, rfl, hW2⟩)
        case measure => decide
    · obtain ⟨A0, c0', rfl, -⟩ := hW.ob.slice
      have c0 := hW.cs.get 0 _
      have c1 := hW.cs.get 1 _
      have q1 := hW.cs.lt
      have hlk : (Instr.lookup 31 (.map (some g)) (.string ⟨#[1, 98]⟩) true).run Try.prog wr = .ok (.tuple #[.int .i64 0, .bool false]) wr :=
        hW.sm.lookup (P := Try.prog) (k := 23) (e := 3) (by kernel_rfl) (by kernel_rfl) (z := .int .i64 0) (by kernel_rfl) ⟨#[1, 98]⟩
      have hx0 : ((⟨#[1, 98]⟩ : ByteArray)[0]'(by decide)).toNat = 1 := rfl
      obtain ⟨i0, hib, hz0, hz1, hz2⟩ := info_parts byte_info
      have hw6 : wrap64 (1 + wrap64 1) = 2 := by first | kernel_rfl | rfl | simp [wrap64]
      go_wp2_with fail
      refine (learn_more _ b g A0 2 c0' _ _ hW.cs hW.sm (by have := hW.bg; omega) (by decide) (by decide)).mono ?_
      rintro e w2 ⟨rfl, hC2, hM2, hg2⟩
      have hW3 := hW.learn hg2 hC2 hM2
      go_upto_region 1 with fail
      refine wp_region_joint ptn_follows (JN w b b g (.slice A0 2 c0') 2 ([1, 97].map bv) [(⟨#[1, 97, 1, 98]⟩, .int .i64 0), (⟨#[1, 98]⟩, .int .i64 2)] 4 ([1, 97, 1, 98].map bv) (valN b (.slice A0 2 c0') ⟨#[1, 98]⟩ ⟨#[1, 98]⟩ 2)) (by kernel_rfl) (by kernel_rfl) ?start2 ?steps2 ?fin2
      case start2 => exact fun x => JN.start hW3.drew x
      case steps2 =>
        intro i hi dd x wr hJ hdi hdeps
        have hi12 : i < 12 := hi
        have hcs : i = 0 ∨ i = 1 ∨ i = 2 ∨ i = 3 ∨ i = 4 ∨ i = 5 ∨ i = 6 ∨ i = 7 ∨ i = 8 ∨ i = 9 ∨ i = 10 ∨ i = 11 := by omega
        rcases hcs with rfl | rfl | rfl | rfl | rfl | rfl | rfl | rfl | rfl | rfl | rfl | rfl
        all_goals
          simp at hdeps
          simp
        · go_simp
          exact (hJ.read 0 (by decide) (by decide)).dec
        · go_simp
          exact (hJ.read 1 (by decide) (by decide)).dec
        · have x1 := hJ.slots 1 (by decide) (by decide) (by simp_all)
          simp [valN] at x1
          rw [x1]
          go_simp
          exact (hJ.read 2 (by decide) (by decide)).dec
        · have x2 := hJ.slots 2 (by decide) (by decide) (by simp_all)
          simp [valN] at x2
          rw [x2]
          go_simp
          exact (hJ.read 3 (by decide) (by decide)).dec
        · have x3 := hJ.slots 3 (by decide) (by decide) (by simp_all)
          simp [valN] at x3
          rw [x3]
          have hc := hJ.cs0 (hJ.open 4 (by decide) hdi)
          have c0 := hc.get 0 _
          go_simp
          exact (hJ.read 4 (by decide) (by decide)).dec
        · go_simp
          exact (hJ.read 5 (by decide) (by decide)).dec
        · go_simp
          try rw [hw6]
          exact (hJ.read 6 (by decide) (by decide)).dec
        · have x5 := hJ.slots 5 (by decide) (by decide) (by simp_all)
          simp [valN] at x5
          rw [x5]
          have x6 := hJ.slots 6 (by decide) (by decide) (by simp_all)
          simp [valN] at x6
          rw [x6]
          go_simp
          exact (hJ.read 7 (by decide) (by decide)).dec
        · obtain ⟨o1, o2, o3⟩ := hJ.own0 hdi
          have x4 := hJ.slots 4 (by decide) (by decide) (by simp_all)
          have x7 := hJ.slots 7 (by decide) (by decide) (by simp_all)
          simp [valN] at x4 x7
          rw [x4, x7]
          refine oper_append_ob _ _ _ _ rfl 5 i0 _ 1 Try.underlying30 hib hz0 hz1 hz2 rfl o1 rfl rfl (Src.ofString (P := Try.prog) (w := wr) (tx := 23) (by kernel_rfl) ⟨#[1, 98]⟩) (by decide) (by decide) ?_
          intro v' w' h1 h2 h3 h4
          refine ⟨v', rfl, ?_⟩
          exact (hJ.app hdi h1 h2 h3 h4).dec
        · have x0 := hJ.slots 0 (by decide) (by decide) (by simp_all)
          simp [valN] at x0
          rw [x0]
          go_simp
          exact (hJ.read 9 (by decide) (by decide)).dec
        · have x9 := hJ.slots 9 (by decide) (by decide) (by simp_all)
          simp [valN] at x9
          rw [x9]
          go_simp
          exact (hJ.read 10 (by decide) (by decide)).dec
        · have h8 : dd 8 = true := by simp_all
          have x10 := hJ.slots 10 (by decide) (by decide) (by simp_all)
          simp [valN] at x10
          have hall : ∀ i, i < 9 → dd i = true := by
            intro i hi
            have : i = 0 ∨ i = 1 ∨ i = 2 ∨ i = 3 ∨ i = 4 ∨ i = 5 ∨ i = 6 ∨ i = 7 ∨ i = 8 := by omega
            rcases this with rfl | rfl | rfl | rfl | rfl | rfl | rfl | rfl | rfl <;> simp_all
          have hs := (hJ.store h8 hdi hall undef).dec
          obtain ⟨A, c, e8, -⟩ := (hJ.own1 h8).1.slice
          have hc := hJ.cs0 hdi
          have c0 := hc.get 0 _
          have f0 := hc.froz 0 (by simp)
          rw [e8] at hs
          rw [x10, e8]
          go_simp
          exact ⟨undef, hs⟩
      case fin2 =>
        intro d x wz hall hJ
        have hW2 := hJ.done (hall 8 (by decide)) (hall 11 (by decide))
        clear hJ hall
        simp
        have hex : (⟨#[1, 98]⟩ : ByteArray).extract 2 2 = ⟨#[]⟩ := rfl
        go_wp2_with fail
        go_roundw
        case rel => exact .inr (.inr ⟨_, g, rfl, hW2⟩)
        case measure => decide
    · obtain ⟨A0, c0', rfl, -⟩ := hW.ob.slice
      obtain ⟨i0, hib, hz0, hz1, hz2⟩ := info_parts byte_info
      have c0 := hW.cs.get 0 _
      have f0 := hW.cs.froz 0 (by simp)
      have q1 := hW.cs.lt
      have hob := hW.ob.alloc (.cells #[.int .u8 0] 5)
      have hsrc := Src.ofSlice (P := Try.prog) (size := 1) (wr.alloc (.cells #[.int .u8 0] 5)) Try.underlying30 ⟨wr.heap.size, 0, none⟩ 1 1 [.int .u8 0] rfl (news_at wr #[.int .u8 0] 5) (by intro u hu; simp at hu; subst hu; rfl)
      go_wp2_with (at_builtin; go_loud (refine wpList_append_ob rfl _ _ 30 30 rfl 5 i0 _ 1 Try.underlying30 hib hz0 hz1 hz2 rfl hob rfl rfl hsrc (by decide) (by decide) ?_))
      intro v' w' h1 h2 h3 h4
      have hb' := hW.bg
      have hc := hW.cs
      have hgl := hW.sm.lt
      obtain ⟨A1, c1', rfl, -⟩ := h1.slice
      have hz : (wr.alloc (.cells #[.int .u8 0] 5)).heap.size = wr.heap.size + 1 := by simp
      have eb := (h3 b (by omega) (fun e => hW.nb e.symm)).trans (Below.heap_alloc wr _ b q1)
      have eg := (h3 g (by omega) (fun e => hW.ng e.symm)).trans (Below.heap_alloc wr _ g hgl)
      have hc2 : Cs w' b [.slice A0 4 c0', .map (some g)] := ⟨by omega, fun i hi => ⟨(World.cell?_of_block (w := wr) eb).trans (hc.2 i hi).1, (World.frozen?_of_block (w := wr) eb).trans (hc.2 i hi).2⟩⟩
      have k0 := hc2.get 0 _
      have j0 := hc2.froz 0 (by simp)
      have nb : (Value.slice A1 5 c1').ownBlock ≠ some b := by
        rcases h4 with e | e
        · rw [e]; exact hW.nb
        · rw [e]; intro e2; injection e2 with e2; omega
      have ng : (Value.slice A1 5 c1').ownBlock ≠ some g := by
        rcases h4 with e | e
        · rw [e]; exact hW.ng
        · rw [e]; intro e2; injection e2 with e2; omega
      have hkk : ∀ k, k ≠ b → (w'.setCell ⟨b, 0, none⟩ (.slice A1 5 c1')).heap[k]? = w'.heap[k]? := fun k hk => Below.heap_setCell w' ⟨b, 0, none⟩ _ k hk
      have hfin : Wr w b b g (.slice A1 5 c1') 5 ([1, 97, 1, 98, 0].map bv) [(⟨#[1, 97, 1, 98]⟩, .int .i64 0), (⟨#[1, 98]⟩, .int .i64 2)] (w'.setCell ⟨b, 0, none⟩ (.slice A1 5 c1')) :=
        ⟨h1.block (h1.bel.setCell (p := ⟨b, 0, none⟩) (Nat.le_refl _) _) (by simp) (fun k e => hkk k (fun e2 => nb (by rw [e, e2]))), hc2.set0, (hW.sm.block eg).block (hkk g (by omega)), hb', Nat.le_refl _, nb, ng⟩
      have HF := Lib.hid hfin
      clear hfin
      go_wp2
      go_end0
      exact ⟨rfl, _, g, HF.out⟩
end Go.Proofs.Ytliofipccicnfaa
