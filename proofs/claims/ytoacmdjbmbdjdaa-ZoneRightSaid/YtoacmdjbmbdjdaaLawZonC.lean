/- The walk of ZoneCompare. -/
import Derived.Test.YtoacmdjbmbdjdaaZonE
import Derived.Test.YtoacmdjbmbdjdaaView
namespace Go.Proofs.Ytoacmdjbmbdjdaa
open Go.RowKit
set_option linter.unusedVariables false
set_option linter.unusedSimpArgs false
set_option maxRecDepth 20000
attribute [local simp] putsF isV wordOf Deps Region.binds Region.wanted Act.put wantedX isB
/-- What tells two strings apart, or not. -/
theorem cmpS_facts (s t : ByteArray) : (cmpS s t = 0 ∧ (s.toList == t.toList) = true) ∨ (cmpS s t = -1 ∧ (s.toList == t.toList) = false ∧ Op.bytesLess s.toList t.toList = true) ∨ (cmpS s t = 1 ∧ (s.toList == t.toList) = false ∧ Op.bytesLess s.toList t.toList = false) := by
  have hl := less_cmpB s.toList t.toList
  have hz := cmpB_zero s.toList t.toList
  have hr := cmpB_range s.toList t.toList
  unfold cmpS
  rcases hr with h | h | h
  · right; left
    refine ⟨h, ?_, by rw [hl, h]; rfl⟩
    rw [beq_eq_false_iff_ne]; intro e; rw [hz.2 e] at h; cases h
  · left; exact ⟨h, by rw [beq_iff_eq]; exact hz.1 h⟩
  · right; right
    refine ⟨h, ?_, by rw [hl, h]; rfl⟩
    rw [beq_eq_false_iff_ne]; intro e; rw [hz.2 e] at h; cases h
theorem cmpI_facts (a b : Int) : (cmpI a b = 0 ∧ (a != b) = false) ∨ (cmpI a b = -1 ∧ (a != b) = true ∧ a < b) ∨ (cmpI a b = 1 ∧ (a != b) = true ∧ ¬ a < b) := by
  unfold cmpI
  by_cases h1 : a < b
  · right; left; exact ⟨by simp [h1], by simp; omega, h1⟩
  · by_cases h2 : b < a
    · right; right; exact ⟨by simp [h1, h2], by simp; omega, h1⟩
    · left; exact ⟨by simp [h1, h2], by simp; omega⟩
set_option maxHeartbeats 3200000 in
theorem compare8_any (r r' : RecT) (w : World) : Calls Try.prog 14 #[recV r, recV r'] w fun e w' => e = .returned (.int .i64 (cmpR r r')) ∧ Below w.heap.size w w' := by
  obtain ⟨q, hq⟩ : ∃ q, eqB r r' = q := ⟨_, rfl⟩
  have hnq := fun w => rec_eql r r' w
  rw [hq] at hnq
  have hqz : q = true ↔ cmpR r r' = 0 := by rw [← hq, eqB_iff, cmpR_is.zero]
  have hC : cmpR r r' = thenC (cmpS r.1 r'.1) (thenC (cmpI r.2.1 r'.2.1) (thenC (cmpS r.2.2.2 r'.2.2.2) (cmpI r.2.2.1 r'.2.2.1))) := rfl
  have f0 := cmpS_facts r.1 r'.1
  have f1 := cmpI_facts r.2.1 r'.2.1
  have f2 := cmpS_facts r.2.2.2 r'.2.2.2
  have f3 := cmpI_facts r.2.2.1 r'.2.2.1
  obtain ⟨C, hCC⟩ : ∃ C, cmpR r r' = C := ⟨_, rfl⟩
  rw [hCC] at hqz hC ⊢
  unfold recV at hnq ⊢
  clear hCC hq
  rcases f0 with ⟨e0, n0⟩ | ⟨e0, n0, l0⟩ | ⟨e0, n0, l0⟩
  · rcases f1 with ⟨e1, n1⟩ | ⟨e1, n1, l1⟩ | ⟨e1, n1, l1⟩
    · rcases f2 with ⟨e2, n2⟩ | ⟨e2, n2, l2⟩ | ⟨e2, n2, l2⟩
      · rcases f3 with ⟨e3, n3⟩ | ⟨e3, n3, l3⟩ | ⟨e3, n3, l3⟩
        · obtain rfl : C = 0 := by rw [hC]; simp [thenC, e0, e1, e2, e3]
          obtain rfl : q = true := by exact hqz.2 rfl
          clear hC hqz e0 e1 e2 e3
          go_enter Try.func14, Try.ntmps14
          go_wp2_with fail
          go_ret
          exact ⟨rfl, ((Below.refl _ _).alloc (Nat.le_refl _) _).alloc (by simp) _⟩
        · obtain rfl : C = -1 := by rw [hC]; simp [thenC, e0, e1, e2, e3]
          obtain rfl : q = false := by cases q with | false => rfl | true => exact absurd (hqz.1 rfl) (by decide)
          clear hC hqz e0 e1 e2 e3
          go_enter Try.func14, Try.ntmps14
          go_wp2_with fail
          go_ret
          exact ⟨rfl, ((Below.refl _ _).alloc (Nat.le_refl _) _).alloc (by simp) _⟩
        · obtain rfl : C = 1 := by rw [hC]; simp [thenC, e0, e1, e2, e3]
          obtain rfl : q = false := by cases q with | false => rfl | true => exact absurd (hqz.1 rfl) (by decide)
          clear hC hqz e0 e1 e2 e3
          go_enter Try.func14, Try.ntmps14
          go_wp2_with fail
          go_ret
          exact ⟨rfl, ((Below.refl _ _).alloc (Nat.le_refl _) _).alloc (by simp) _⟩
      · obtain rfl : C = -1 := by rw [hC]; simp [thenC, e0, e1, e2]
        obtain rfl : q = false := by cases q with | false => rfl | true => exact absurd (hqz.1 rfl) (by decide)
        clear hC hqz e0 e1 e2
        go_enter Try.func14, Try.ntmps14
        go_wp2_with fail
        go_ret
        exact ⟨rfl, ((Below.refl _ _).alloc (Nat.le_refl _) _).alloc (by simp) _⟩
      · obtain rfl : C = 1 := by rw [hC]; simp [thenC, e0, e1, e2]
        obtain rfl : q = false := by cases q with | false => rfl | true => exact absurd (hqz.1 rfl) (by decide)
        clear hC hqz e0 e1 e2
        go_enter Try.func14, Try.ntmps14
        go_wp2_with fail
        go_ret
        exact ⟨rfl, ((Below.refl _ _).alloc (Nat.le_refl _) _).alloc (by simp) _⟩
    · obtain rfl : C = -1 := by rw [hC]; simp [thenC, e0, e1]
      obtain rfl : q = false := by cases q with | false => rfl | true => exact absurd (hqz.1 rfl) (by decide)
      clear hC hqz e0 e1
      go_enter Try.func14, Try.ntmps14
      go_wp2_with fail
      go_ret
      exact ⟨rfl, ((Below.refl _ _).alloc (Nat.le_refl _) _).alloc (by simp) _⟩
    · obtain rfl : C = 1 := by rw [hC]; simp [thenC, e0, e1]
      obtain rfl : q = false := by cases q with | false => rfl | true => exact absurd (hqz.1 rfl) (by decide)
      clear hC hqz e0 e1
      go_enter Try.func14, Try.ntmps14
      go_wp2_with fail
      go_ret
      exact ⟨rfl, ((Below.refl _ _).alloc (Nat.le_refl _) _).alloc (by simp) _⟩
  · obtain rfl : C = -1 := by rw [hC]; simp [thenC, e0]
    obtain rfl : q = false := by cases q with | false => rfl | true => exact absurd (hqz.1 rfl) (by decide)
    clear hC hqz e0
    go_enter Try.func14, Try.ntmps14
    go_wp2_with fail
    go_ret
    exact ⟨rfl, ((Below.refl _ _).alloc (Nat.le_refl _) _).alloc (by simp) _⟩
  · obtain rfl : C = 1 := by rw [hC]; simp [thenC, e0]
    obtain rfl : q = false := by cases q with | false => rfl | true => exact absurd (hqz.1 rfl) (by decide)
    clear hC hqz e0
    go_enter Try.func14, Try.ntmps14
    go_wp2_with fail
    go_ret
    exact ⟨rfl, ((Below.refl _ _).alloc (Nat.le_refl _) _).alloc (by simp) _⟩
set_option maxHeartbeats 6400000 in
theorem zoneCompare_walk (w : World) (n1 : ByteArray) (hn1 : n1.size ≤ 140737488351232) (t1 : Int) (ht1 : (Lit.int .u16 t1).wf = true) (l1 : Int) (hl1 : (Lit.int .u32 l1).wf = true) (d1 : ByteArray) (hd1 : d1.size ≤ 140737488351232) (n2 : ByteArray) (hn2 : n2.size ≤ 140737488351232) (t2 : Int) (ht2 : (Lit.int .u16 t2).wf = true) (l2 : Int) (hl2 : (Lit.int .u32 l2).wf = true) (d2 : ByteArray) (hd2 : d2.size ≤ 140737488351232) (n3 : ByteArray) (hn3 : n3.size ≤ 140737488351232) (t3 : Int) (ht3 : (Lit.int .u16 t3).wf = true) (l3 : Int) (hl3 : (Lit.int .u32 l3).wf = true) (d3 : ByteArray) (hd3 : d3.size ≤ 140737488351232) :
    Calls Try.prog 3 #[.agg #[.string n1, .int .u16 t1, .int .u32 l1, .string d1], .agg #[.string n2, .int .u16 t2, .int .u32 l2, .string d2], .agg #[.string n3, .int .u16 t3, .int .u32 l3, .string d3]] w fun e w' => e = .returned (.bool true) ∧ Below w.heap.size w w' := by
  obtain ⟨x12, h12⟩ : ∃ x, cmpR (n1, t1, l1, d1) (n2, t2, l2, d2) = x := ⟨_, rfl⟩
  obtain ⟨x23, h23⟩ : ∃ x, cmpR (n2, t2, l2, d2) (n3, t3, l3, d3) = x := ⟨_, rfl⟩
  obtain ⟨x13, h13⟩ : ∃ x, cmpR (n1, t1, l1, d1) (n3, t3, l3, d3) = x := ⟨_, rfl⟩
  have hsw : cmpR (n2, t2, l2, d2) (n1, t1, l1, d1) = -x12 := by rw [cmpR_is.swap, h12]
  have hrf : cmpR (n1, t1, l1, d1) (n1, t1, l1, d1) = 0 := cmpR_is.refl _
  have hrg : x12 = -1 ∨ x12 = 0 ∨ x12 = 1 := by rw [← h12]; exact cmpR_is.range _ _
  have htr : x12 ≤ 0 → x23 ≤ 0 → x13 ≤ 0 := by rw [← h12, ← h23, ← h13]; exact cmpR_is.trans _ _ _
  have C12 := Lib.hid (fun w => compare_any (n1, t1, l1, d1) (n2, t2, l2, d2) w)
  have C23 := Lib.hid (fun w => compare_any (n2, t2, l2, d2) (n3, t3, l3, d3) w)
  have C13 := Lib.hid (fun w => compare_any (n1, t1, l1, d1) (n3, t3, l3, d3) w)
  have C21 := Lib.hid (fun w => compare_any (n2, t2, l2, d2) (n1, t1, l1, d1) w)
  have C11 := Lib.hid (fun w => compare_any (n1, t1, l1, d1) (n1, t1, l1, d1) w)
  have K12 := Lib.hid (fun w => compare8_any (n1, t1, l1, d1) (n2, t2, l2, d2) w)
  rw [h12] at C12 K12
  rw [h23] at C23
  rw [h13] at C13
  rw [hsw] at C21
  rw [hrf] at C11
  unfold recV at C12 C23 C13 C21 C11 K12
  simp only at C12 C23 C13 C21 C11 K12
  have HTR := Lib.hid htr
  have HRG := Lib.hid hrg
  clear h12 h23 h13 hsw hrf hrg htr hn1 ht1 hl1 hd1 hn2 ht2 hl2 hd2 hn3 ht3 hl3 hd3
  go_enter Try.func3, Try.ntmps3
  obtain ⟨W, hW⟩ : ∃ W, W = ((w.alloc (.cells #[.string n1, .int .u16 t1, .int .u32 l1, .string d1] 27)).alloc (.cells #[.string n2, .int .u16 t2, .int .u32 l2, .string d2] 27)).alloc (.cells #[.string n3, .int .u16 t3, .int .u32 l3, .string d3] 27) := ⟨_, rfl⟩
  obtain ⟨g1, hg1⟩ : ∃ g, g = w.heap.size := ⟨_, rfl⟩
  obtain ⟨g2, hg2⟩ : ∃ g, g = w.heap.size + 1 := ⟨_, rfl⟩
  obtain ⟨g3, hg3⟩ : ∃ g, g = w.heap.size + 1 + 1 := ⟨_, rfl⟩
  have hA : Cs W g1 [.string n1, .int .u16 t1, .int .u32 l1, .string d1] := by rw [hW, hg1]; exact ((Cs.new w _ _ _).alloc _).alloc _
  have hB : Cs W g2 [.string n2, .int .u16 t2, .int .u32 l2, .string d2] := by rw [hW, hg2]; exact ((Cs.new _ _ _ _).at_ _ (by simp)).alloc _
  have hC : Cs W g3 [.string n3, .int .u16 t3, .int .u32 l3, .string d3] := by rw [hW, hg3]; exact (Cs.new _ _ _ _).at_ _ (by simp)
  have hbW : Below w.heap.size w W := by rw [hW]; exact (((Below.refl _ _).alloc (Nat.le_refl _) _).alloc (by simp) _).alloc (by simp; omega) _
  have HW := Lib.hid hW
  have HG := Lib.hid (And.intro hg1 (And.intro hg2 hg3))
  have H1w := Lib.hid hA
  have H2w := Lib.hid hB
  have H3w := Lib.hid hC
  have HBW := Lib.hid hbW
  clear hW hg1 hg2 hg3 hA hB hC hbW
  go_wp2_with fail
  rw [← HW.out]
  refine (awake08_any W).mono ?_
  rintro e wa ⟨rfl, hba⟩
  have H1 := Lib.hid (H1w.out.below hba)
  have H2 := Lib.hid (H2w.out.below hba)
  have H3 := Lib.hid (H3w.out.below hba)
  have HBA := Lib.hid (below_trans HBW.out HBW.out.size hba)
  clear hba
  go_upto_region 3 with fail
  rw [← HG.out.2.2, ← HG.out.2.1, ← HG.out.1]
  refine wp_region_goesG data_follows (fun x => by simp [putsF, Act.put]; rfl) wa.heap.size wa
    [isV (.agg #[.string n1, .int .u16 t1, .int .u32 l1, .string d1]), isV (.agg #[.string n2, .int .u16 t2, .int .u32 l2, .string d2]), isV (.int .i64 x12), isV (.agg #[.string n2, .int .u16 t2, .int .u32 l2, .string d2]), isV (.agg #[.string n3, .int .u16 t3, .int .u32 l3, .string d3]), isV (.int .i64 x23), isV (.agg #[.string n1, .int .u16 t1, .int .u32 l1, .string d1]), isV (.agg #[.string n3, .int .u16 t3, .int .u32 l3, .string d3]), isV (.int .i64 x13), isV (.int .i64 x12), isV (.int .i64 x23), isV (.int .i64 x13)]
    (by kernel_rfl) (by kernel_rfl) (by kernel_rfl) rfl ?_ (Below.refl _ _) ?_ ?_
  · repeat (first | exact trivial | refine ⟨isV_stays _, ?_⟩)
  · refine ⟨?_, ?_, ?_, ?_, ?_, ?_, ?_, ?_, ?_, ?_, ?_, ?_, trivial⟩
    all_goals
      intro x wx hR hd
      refine ⟨fun _ => ?_, fun hX => by simp at hX⟩
      simp at hd ⊢
    · have hc := H1.out.below hR
      have c0 := hc.get 0 _
      have c1 := hc.get 1 _
      have c2 := hc.get 2 _
      have c3 := hc.get 3 _
      clear hc
      go_simp; exact next_same _ rfl rfl hR
    · have hc := H2.out.below hR
      have c0 := hc.get 0 _
      have c1 := hc.get 1 _
      have c2 := hc.get 2 _
      have c3 := hc.get 3 _
      clear hc
      go_simp; exact next_same _ rfl rfl hR
    · obtain ⟨hd0, hd1⟩ := hd
      go_simp
      go_at_call 13
      refine (C12.out wx).mono ?_
      rintro e w2 ⟨rfl, hb⟩
      exact next_call _ rfl rfl hR hR.size hb
    · have hc := H2.out.below hR
      have c0 := hc.get 0 _
      have c1 := hc.get 1 _
      have c2 := hc.get 2 _
      have c3 := hc.get 3 _
      clear hc
      go_simp; exact next_same _ rfl rfl hR
    · have hc := H3.out.below hR
      have c0 := hc.get 0 _
      have c1 := hc.get 1 _
      have c2 := hc.get 2 _
      have c3 := hc.get 3 _
      clear hc
      go_simp; exact next_same _ rfl rfl hR
    · obtain ⟨hd0, hd1⟩ := hd
      go_simp
      go_at_call 13
      refine (C23.out wx).mono ?_
      rintro e w2 ⟨rfl, hb⟩
      exact next_call _ rfl rfl hR hR.size hb
    · have hc := H1.out.below hR
      have c0 := hc.get 0 _
      have c1 := hc.get 1 _
      have c2 := hc.get 2 _
      have c3 := hc.get 3 _
      clear hc
      go_simp; exact next_same _ rfl rfl hR
    · have hc := H3.out.below hR
      have c0 := hc.get 0 _
      have c1 := hc.get 1 _
      have c2 := hc.get 2 _
      have c3 := hc.get 3 _
      clear hc
      go_simp; exact next_same _ rfl rfl hR
    · obtain ⟨hd0, hd1⟩ := hd
      go_simp
      go_at_call 13
      refine (C13.out wx).mono ?_
      rintro e w2 ⟨rfl, hb⟩
      exact next_call _ rfl rfl hR hR.size hb
    · go_simp; exact next_same _ rfl rfl hR
    · go_simp; exact next_same _ rfl rfl hR
    · go_simp; exact next_same _ rfl rfl hR
  · intro x wx hR hx
    simp [AllWords] at hx
    have h9 : x 9 = .int .i64 x12 := by simp [hx]
    have h10 : x 10 = .int .i64 x23 := by simp [hx]
    have h11 : x 11 = .int .i64 x13 := by simp [hx]
    have HBX := Lib.hid (below_trans HBA.out HBA.out.size hR)
    have G1_0 := Lib.hid (H1.out.below hR)
    have G2_0 := Lib.hid (H2.out.below hR)
    rw [h9, h10, h11]
    clear hx h9 h10 h11 hR
    rcases HRG.out with rfl | rfl | rfl
    · by_cases hy : 0 < x23
      · have p10 := G1_0.out.get 0 _
        have p11 := G1_0.out.get 1 _
        have p12 := G1_0.out.get 2 _
        have p13 := G1_0.out.get 3 _
        have p20 := G2_0.out.get 0 _
        have p21 := G2_0.out.get 1 _
        have p22 := G2_0.out.get 2 _
        have p23 := G2_0.out.get 3 _
        go_wp2_with fail
        refine (K12.out _).mono ?_
        rintro e v1 ⟨rfl, hb1⟩
        have HB1 := Lib.hid (below_trans HBX.out HBX.out.size hb1)
        have G1_1 := Lib.hid (G1_0.out.below hb1)
        have G2_1 := Lib.hid (G2_0.out.below hb1)
        clear hb1
        clear p10 p11 p12 p13 p20 p21 p22 p23
        have p10 := G1_1.out.get 0 _
        have p11 := G1_1.out.get 1 _
        have p12 := G1_1.out.get 2 _
        have p13 := G1_1.out.get 3 _
        have p20 := G2_1.out.get 0 _
        have p21 := G2_1.out.get 1 _
        have p22 := G2_1.out.get 2 _
        have p23 := G2_1.out.get 3 _
        go_wp2_with fail
        refine (C21.out _).mono ?_
        rintro e v2 ⟨rfl, hb2⟩
        have HB2 := Lib.hid (below_trans HB1.out HB1.out.size hb2)
        have G1_2 := Lib.hid (G1_1.out.below hb2)
        have G2_2 := Lib.hid (G2_1.out.below hb2)
        clear hb2
        clear p10 p11 p12 p13 p20 p21 p22 p23
        have p10 := G1_2.out.get 0 _
        have p11 := G1_2.out.get 1 _
        have p12 := G1_2.out.get 2 _
        have p13 := G1_2.out.get 3 _
        go_wp2_with fail
        refine (C11.out _).mono ?_
        rintro e v3 ⟨rfl, hb3⟩
        have HB3 := Lib.hid (below_trans HB2.out HB2.out.size hb3)
        have G1_3 := Lib.hid (G1_2.out.below hb3)
        clear hb3
        clear p10 p11 p12 p13
        go_wp2_with fail
        go_ret
        exact ⟨rfl, HB3.out⟩
      · have hz : x13 ≤ 0 := HTR.out (by decide) (by omega)
        have p10 := G1_0.out.get 0 _
        have p11 := G1_0.out.get 1 _
        have p12 := G1_0.out.get 2 _
        have p13 := G1_0.out.get 3 _
        have p20 := G2_0.out.get 0 _
        have p21 := G2_0.out.get 1 _
        have p22 := G2_0.out.get 2 _
        have p23 := G2_0.out.get 3 _
        go_wp2_with fail
        refine (K12.out _).mono ?_
        rintro e v1 ⟨rfl, hb1⟩
        have HB1 := Lib.hid (below_trans HBX.out HBX.out.size hb1)
        have G1_1 := Lib.hid (G1_0.out.below hb1)
        have G2_1 := Lib.hid (G2_0.out.below hb1)
        clear hb1
        clear p10 p11 p12 p13 p20 p21 p22 p23
        have p10 := G1_1.out.get 0 _
        have p11 := G1_1.out.get 1 _
        have p12 := G1_1.out.get 2 _
        have p13 := G1_1.out.get 3 _
        have p20 := G2_1.out.get 0 _
        have p21 := G2_1.out.get 1 _
        have p22 := G2_1.out.get 2 _
        have p23 := G2_1.out.get 3 _
        go_wp2_with fail
        refine (C21.out _).mono ?_
        rintro e v2 ⟨rfl, hb2⟩
        have HB2 := Lib.hid (below_trans HB1.out HB1.out.size hb2)
        have G1_2 := Lib.hid (G1_1.out.below hb2)
        have G2_2 := Lib.hid (G2_1.out.below hb2)
        clear hb2
        clear p10 p11 p12 p13 p20 p21 p22 p23
        have p10 := G1_2.out.get 0 _
        have p11 := G1_2.out.get 1 _
        have p12 := G1_2.out.get 2 _
        have p13 := G1_2.out.get 3 _
        go_wp2_with fail
        refine (C11.out _).mono ?_
        rintro e v3 ⟨rfl, hb3⟩
        have HB3 := Lib.hid (below_trans HB2.out HB2.out.size hb3)
        have G1_3 := Lib.hid (G1_2.out.below hb3)
        clear hb3
        clear p10 p11 p12 p13
        go_wp2_with fail
        go_ret
        exact ⟨rfl, HB3.out⟩
    · by_cases hy : 0 < x23
      · have p10 := G1_0.out.get 0 _
        have p11 := G1_0.out.get 1 _
        have p12 := G1_0.out.get 2 _
        have p13 := G1_0.out.get 3 _
        have p20 := G2_0.out.get 0 _
        have p21 := G2_0.out.get 1 _
        have p22 := G2_0.out.get 2 _
        have p23 := G2_0.out.get 3 _
        go_wp2_with fail
        refine (K12.out _).mono ?_
        rintro e v1 ⟨rfl, hb1⟩
        have HB1 := Lib.hid (below_trans HBX.out HBX.out.size hb1)
        have G1_1 := Lib.hid (G1_0.out.below hb1)
        have G2_1 := Lib.hid (G2_0.out.below hb1)
        clear hb1
        clear p10 p11 p12 p13 p20 p21 p22 p23
        have p10 := G1_1.out.get 0 _
        have p11 := G1_1.out.get 1 _
        have p12 := G1_1.out.get 2 _
        have p13 := G1_1.out.get 3 _
        have p20 := G2_1.out.get 0 _
        have p21 := G2_1.out.get 1 _
        have p22 := G2_1.out.get 2 _
        have p23 := G2_1.out.get 3 _
        go_wp2_with fail
        refine (C21.out _).mono ?_
        rintro e v2 ⟨rfl, hb2⟩
        have HB2 := Lib.hid (below_trans HB1.out HB1.out.size hb2)
        have G1_2 := Lib.hid (G1_1.out.below hb2)
        have G2_2 := Lib.hid (G2_1.out.below hb2)
        clear hb2
        clear p10 p11 p12 p13 p20 p21 p22 p23
        have p10 := G1_2.out.get 0 _
        have p11 := G1_2.out.get 1 _
        have p12 := G1_2.out.get 2 _
        have p13 := G1_2.out.get 3 _
        go_wp2_with fail
        refine (C11.out _).mono ?_
        rintro e v3 ⟨rfl, hb3⟩
        have HB3 := Lib.hid (below_trans HB2.out HB2.out.size hb3)
        have G1_3 := Lib.hid (G1_2.out.below hb3)
        clear hb3
        clear p10 p11 p12 p13
        go_wp2_with fail
        go_ret
        exact ⟨rfl, HB3.out⟩
      · have hz : x13 ≤ 0 := HTR.out (by decide) (by omega)
        have p10 := G1_0.out.get 0 _
        have p11 := G1_0.out.get 1 _
        have p12 := G1_0.out.get 2 _
        have p13 := G1_0.out.get 3 _
        have p20 := G2_0.out.get 0 _
        have p21 := G2_0.out.get 1 _
        have p22 := G2_0.out.get 2 _
        have p23 := G2_0.out.get 3 _
        go_wp2_with fail
        refine (K12.out _).mono ?_
        rintro e v1 ⟨rfl, hb1⟩
        have HB1 := Lib.hid (below_trans HBX.out HBX.out.size hb1)
        have G1_1 := Lib.hid (G1_0.out.below hb1)
        have G2_1 := Lib.hid (G2_0.out.below hb1)
        clear hb1
        clear p10 p11 p12 p13 p20 p21 p22 p23
        have p10 := G1_1.out.get 0 _
        have p11 := G1_1.out.get 1 _
        have p12 := G1_1.out.get 2 _
        have p13 := G1_1.out.get 3 _
        have p20 := G2_1.out.get 0 _
        have p21 := G2_1.out.get 1 _
        have p22 := G2_1.out.get 2 _
        have p23 := G2_1.out.get 3 _
        go_wp2_with fail
        refine (C21.out _).mono ?_
        rintro e v2 ⟨rfl, hb2⟩
        have HB2 := Lib.hid (below_trans HB1.out HB1.out.size hb2)
        have G1_2 := Lib.hid (G1_1.out.below hb2)
        have G2_2 := Lib.hid (G2_1.out.below hb2)
        clear hb2
        clear p10 p11 p12 p13 p20 p21 p22 p23
        have p10 := G1_2.out.get 0 _
        have p11 := G1_2.out.get 1 _
        have p12 := G1_2.out.get 2 _
        have p13 := G1_2.out.get 3 _
        go_wp2_with fail
        refine (C11.out _).mono ?_
        rintro e v3 ⟨rfl, hb3⟩
        have HB3 := Lib.hid (below_trans HB2.out HB2.out.size hb3)
        have G1_3 := Lib.hid (G1_2.out.below hb3)
        clear hb3
        clear p10 p11 p12 p13
        go_wp2_with fail
        go_ret
        exact ⟨rfl, HB3.out⟩
    · have p10 := G1_0.out.get 0 _
      have p11 := G1_0.out.get 1 _
      have p12 := G1_0.out.get 2 _
      have p13 := G1_0.out.get 3 _
      have p20 := G2_0.out.get 0 _
      have p21 := G2_0.out.get 1 _
      have p22 := G2_0.out.get 2 _
      have p23 := G2_0.out.get 3 _
      go_wp2_with fail
      refine (K12.out _).mono ?_
      rintro e v1 ⟨rfl, hb1⟩
      have HB1 := Lib.hid (below_trans HBX.out HBX.out.size hb1)
      have G1_1 := Lib.hid (G1_0.out.below hb1)
      have G2_1 := Lib.hid (G2_0.out.below hb1)
      clear hb1
      clear p10 p11 p12 p13 p20 p21 p22 p23
      have p10 := G1_1.out.get 0 _
      have p11 := G1_1.out.get 1 _
      have p12 := G1_1.out.get 2 _
      have p13 := G1_1.out.get 3 _
      have p20 := G2_1.out.get 0 _
      have p21 := G2_1.out.get 1 _
      have p22 := G2_1.out.get 2 _
      have p23 := G2_1.out.get 3 _
      go_wp2_with fail
      refine (C21.out _).mono ?_
      rintro e v2 ⟨rfl, hb2⟩
      have HB2 := Lib.hid (below_trans HB1.out HB1.out.size hb2)
      have G1_2 := Lib.hid (G1_1.out.below hb2)
      have G2_2 := Lib.hid (G2_1.out.below hb2)
      clear hb2
      clear p10 p11 p12 p13 p20 p21 p22 p23
      have p10 := G1_2.out.get 0 _
      have p11 := G1_2.out.get 1 _
      have p12 := G1_2.out.get 2 _
      have p13 := G1_2.out.get 3 _
      go_wp2_with fail
      refine (C11.out _).mono ?_
      rintro e v3 ⟨rfl, hb3⟩
      have HB3 := Lib.hid (below_trans HB2.out HB2.out.size hb3)
      have G1_3 := Lib.hid (G1_2.out.below hb3)
      clear hb3
      clear p10 p11 p12 p13
      go_wp2_with fail
      go_ret
      exact ⟨rfl, HB3.out⟩
end Go.Proofs.Ytoacmdjbmbdjdaa
