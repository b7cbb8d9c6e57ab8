/- The walk of OwnerApart. -/
import Derived.Test.YtodpaejakgjblaaDoorOwnZ
import Derived.Test.YtodpaejakgjblaaDoorLawOwN
namespace Go.Proofs.YtodpaejakgjblaaDoor
open Go.RowKit
set_option linter.unusedVariables false
set_option linter.unusedSimpArgs false
set_option maxRecDepth 20000
attribute [local simp] putsF isV wordOf Deps Region.binds Region.wanted Act.put wantedX isB
theorem own_follows : Tryd.prog.follows .mixedOrders = true := by kernel_rfl
theorem otail_cons {P : Program} {Q : Exit → Act → World → Prop} (o : Oper) (os : List Oper) (a : Act) (w : World) : tailWp P Q (o :: os) a w = Oper.wp P o a w (fun a' w' => ∃ v, a' = a.put o.dst v ∧ tailWp P Q os a' w') Q := rfl
theorem otail_nil {P : Program} {Q : Exit → Act → World → Prop} (a : Act) (w : World) : tailWp P Q [] a w = Q .normal a w := rfl
def boxW' (B : Nat) (vs : List Value) : Value → World → Prop := fun v w => ∃ g, v = .pointer (some ⟨g, 0, none⟩) ∧ B ≤ g ∧ Cs w g vs
theorem boxW'_stays (B : Nat) (vs : List Value) : ∀ v w w', boxW' B vs v w → Goes w w' → boxW' B vs v w' := by
  rintro v w w' ⟨g, hx, hB, hc⟩ he
  exact ⟨g, hx, hB, hc.below he⟩
def trigW (kd : Int) : Value → World → Prop := fun v _ => ∃ t, v = trigA t ∧ TrigOk kd t

/-- What Encode answers for two triggers that may be. -/
theorem apart_enc {t u : Trig} (ht : GoodT t) (hu : GoodT u) : ∃ X Y : ByteArray, encV (encR t) = .tuple #[.string X, .bool true] ∧ encV (encR u) = .tuple #[.string Y, .bool true] ∧ (X.toList == Y.toList) = decide (t = u) := by
  refine ⟨baL (wire (labT t)), baL (wire (labT u)), by rw [ht.enc]; rfl, by rw [hu.enc]; rfl, ?_⟩
  rw [ByteArray.toList_eq, ByteArray.toList_eq, Bool.eq_iff_iff, beq_iff_eq, decide_eq_true_iff]
  constructor
  · intro h
    have h' : wire (labT t) = wire (labT u) := by simpa [baL] using h
    exact enc_inj ht.enc (by rw [hu.enc, h'])
  · rintro rfl; rfl

set_option maxHeartbeats 16000000 in
theorem ownerApart_walk (w : World) (hL : LaidT w) (k1 : Int) (hk1 : (Lit.int .u8 k1).wf = true) (A1 : Option Addr) (n1 c1 : Nat) (zs1 : List Int) (S1 : SlView w A1 n1 c1 (zs1.map (Value.int .u8))) (hl1 : zs1.length = n1) (hw1 : ∀ z ∈ zs1, (Lit.int .u8 z).wf = true) (hc1 : c1 ≤ 140737488351232) (s1 : Bool) (b1 : Int) (hb1 : (Lit.int .u8 b1).wf = true)
    (k2 : Int) (hk2 : (Lit.int .u8 k2).wf = true) (A2 : Option Addr) (n2 c2 : Nat) (zs2 : List Int) (S2 : SlView w A2 n2 c2 (zs2.map (Value.int .u8))) (hl2 : zs2.length = n2) (hw2 : ∀ z ∈ zs2, (Lit.int .u8 z).wf = true) (hc2 : c2 ≤ 140737488351232) (s2 : Bool) (b2 : Int) (hb2 : (Lit.int .u8 b2).wf = true) :
    Calls Tryd.prog 8 #[.agg #[.int .u8 k1, .slice A1 n1 c1, .bool s1, .int .u8 b1], .agg #[.int .u8 k2, .slice A2 n2 c2, .bool s2, .int .u8 b2]] w fun e w' => e = .returned (.bool true) ∧ Below w.heap.size w w' := by
  have hn1 : n1 ≤ 140737488355328 := by have := S1.le; omega
  have hn2 : n2 ≤ 140737488355328 := by have := S2.le; omega
  have hz1 : ∀ z ∈ zs1, 0 ≤ z ∧ z < 256 := fun z h => by have := bounds_u8 (hw1 z h); omega
  have hz2 : ∀ z ∈ zs2, 0 ≤ z ∧ z < 256 := fun z h => by have := bounds_u8 (hw2 z h); omega
  have hkb1 := bounds_u8 hk1
  have hkb2 := bounds_u8 hk2
  have hbb1 := bounds_u8 hb1
  have hbb2 := bounds_u8 hb2
  have T1 := Lib.hid (fun (wx : World) h => code_any k1 (by omega) A1 n1 c1 zs1 s1 b1 (by omega) wx h hz1 hn1)
  have T2 := Lib.hid (fun (wx : World) h => code_any k2 (by omega) A2 n2 c2 zs2 s2 b2 (by omega) wx h hz2 hn2)
  obtain ⟨W0, hW0⟩ : ∃ W0, W0 = (w.alloc (.cells #[.int .u8 k1, .slice A1 n1 c1, .bool s1, .int .u8 b1] 55)).alloc (.cells #[.int .u8 k2, .slice A2 n2 c2, .bool s2, .int .u8 b2] 55) := ⟨_, rfl⟩
  have hC1 : Cs W0 w.heap.size [.int .u8 k1, .slice A1 n1 c1, .bool s1, .int .u8 b1] := by rw [hW0]; exact (Cs.new w _ _ _).alloc _
  have hC2 : Cs W0 (w.heap.size + 1) [.int .u8 k2, .slice A2 n2 c2, .bool s2, .int .u8 b2] := by
    rw [hW0]
    exact (Cs.new (w.alloc (.cells #[.int .u8 k1, .slice A1 n1 c1, .bool s1, .int .u8 b1] 55)) _ _ _).at_ _ (by simp)
  have hB0 : Below w.heap.size w W0 := by
    rw [hW0]
    have h1 := (Below.refl w.heap.size w).alloc (Nat.le_refl _) (.cells #[.int .u8 k1, .slice A1 n1 c1, .bool s1, .int .u8 b1] 55)
    exact h1.alloc h1.size _
  have HAW := Lib.hid (awake13_any W0 (hL.below hB0 (Nat.le_refl _)))
  have HL0 := Lib.hid hL
  have HC1 := Lib.hid hC1
  have HC2 := Lib.hid hC2
  have HB0 := Lib.hid hB0
  have HW0 := Lib.hid hW0
  have HS1 := Lib.hid S1.sl
  have HS2 := Lib.hid S2.sl
  clear hn1 hn2 hz1 hz2 hkb1 hkb2 hbb1 hbb2 hW0 hC1 hC2 hB0 hL S1 S2 hl1 hl2 hw1 hw2 hk1 hk2 hb1 hb2 hc1 hc2
  go_enter Tryd.func8, Tryd.ntmps8
  go_wp2_with (go_at_call 14; rw [← HW0.out]; refine HAW.out.mono ?_; rintro e w2 ⟨rfl, hbw⟩; refine Hid.out ?_)
  refine Lib.hid ?_
  have HB2 := Lib.hid (HB0.out.trans (hbw.mono HB0.out.size))
  have H1 := Lib.hid (HC1.out.below hbw)
  have H2 := Lib.hid (HC2.out.below hbw)
  clear hbw HC1 HC2 HB0 HAW
  go_upto_region 3 with fail
  refine wp_region_tail own_follows (fun x => by simp [putsF, Act.put]; rfl) (fun v => Below w2.heap.size w2 v)
    [isV (.agg #[.int .u8 k1, .slice A1 n1 c1, .bool s1, .int .u8 b1]), trigW k1, isV (.agg #[.int .u8 k2, .slice A2 n2 c2, .bool s2, .int .u8 b2]), trigW k2,
     boxW' w2.heap.size [.int .i64 0, .string ⟨#[]⟩, .string ⟨#[]⟩, .int .i64 0], boxW' w2.heap.size [.int .i64 0, .string ⟨#[]⟩, .string ⟨#[]⟩, .int .i64 0]]
    6 [4, 5] (by kernel_rfl) (by kernel_rfl) (by kernel_rfl) rfl (by kernel_rfl) (by kernel_rfl) ?_ (Below.refl _ _).drew ?_ ?_
  · repeat (first | exact trivial | refine ⟨by first | exact isV_stays _ | exact fun _ _ _ h _ => h | exact fun _ _ _ _ h => h | exact boxW'_stays _ _, ?_⟩)
  · refine ⟨?_, ?_, ?_, ?_, ?_, ?_, skipped rfl, skipped rfl, trivial⟩
    all_goals
      intro _ x wx hR hd
      refine ⟨fun _ => ?_, fun hX => by simp at hX⟩
      simp at hd ⊢
    · have hc := H1.out.below hR
      have c0 := hc.get 0 _
      have c1 := hc.get 1 _
      have c2 := hc.get 2 _
      have c3 := hc.get 3 _
      clear hc
      go_simp; exact nextL _ rfl rfl hR (Below.refl _ _)
    · go_simp
      go_at_call 28
      have hb := HB2.out.trans (hR.mono HB2.out.size)
      refine (T1.out wx ((HS1.out.below hb).more hb.size)).mono ?_
      rintro e w4 ⟨t, rfl, hok, hb4⟩
      exact nextL _ rfl ⟨t, rfl, hok⟩ (hR.trans (hb4.mono hR.size)) hb4
    · have hc := H2.out.below hR
      have c0 := hc.get 0 _
      have c1 := hc.get 1 _
      have c2 := hc.get 2 _
      have c3 := hc.get 3 _
      clear hc
      go_simp; exact nextL _ rfl rfl hR (Below.refl _ _)
    · go_simp
      go_at_call 28
      have hb := HB2.out.trans (hR.mono HB2.out.size)
      refine (T2.out wx ((HS2.out.below hb).more hb.size)).mono ?_
      rintro e w4 ⟨t, rfl, hok, hb4⟩
      exact nextL _ rfl ⟨t, rfl, hok⟩ (hR.trans (hb4.mono hR.size)) hb4
    · go_simp; exact nextL_new _ rfl ⟨_, rfl, hR.size, Cs.new _ _ _ _⟩ (hR.alloc hR.size _)
    · go_simp; exact nextL_new _ rfl ⟨_, rfl, hR.size, Cs.new _ _ _ _⟩ (hR.alloc hR.size _)
  intro x w4 hR4 hx hap
  obtain ⟨-, x1, -, x3, ⟨g9, x4, hB9, hc9⟩, ⟨g10, x5, hB10, hc10⟩, -⟩ := hx
  obtain ⟨t, x1, ht⟩ : ∃ t, x 1 = trigA t ∧ TrigOk k1 t := x1
  obtain ⟨u, x3, hu⟩ : ∃ t, x 3 = trigA t ∧ TrigOk k2 t := x3
  have hne : g9 ≠ g10 := by
    have := hap 4 (by simp) 5 (by simp) (by decide)
    rw [x4, x5] at this
    intro e; subst e; exact this rfl
  obtain ⟨r0, r1, r2, r3, hsh1, htt⟩ := trigA_shape t
  obtain ⟨s0, s1', s2', s3', hsh2, huu⟩ := trigA_shape u
  rw [hsh1] at x1
  rw [hsh2] at x3
  rw [x1, x3, x4, x5]
  have m0 := hc9.get 0 _
  have m1 := hc9.get 1 _
  have m2 := hc9.get 2 _
  have m3 := hc9.get 3 _
  have f0 := hc9.froz 0
  have f1 := hc9.froz 1
  have f2 := hc9.froz 2
  have f3 := hc9.froz 3
  have hq9 := Cs.all4 hc9 (a' := .int .i64 r0) (b' := .string r1) (c' := .string r2) (d' := .int .i64 r3)
  have hq10 := (((hc10.other g9 0 (.int .i64 r0) hne).other g9 1 (.string r1) hne).other g9 2 (.string r2) hne).other g9 3 (.int .i64 r3) hne
  have hbq := below_all4 (a' := .int .i64 r0) (b' := .string r1) (c' := .string r2) (d' := .int .i64 r3) hR4 hB9
  change tailWp _ _ [_, _] _ _
  rw [otail_cons]
  go_simp
  rw [otail_cons]
  obtain ⟨w5, hw5⟩ : ∃ v, v = ((((w4.setCell ⟨g9, 0, none⟩ (.int .i64 r0)).setCell ⟨g9, 1, none⟩ (.string r1)).setCell ⟨g9, 2, none⟩ (.string r2)).setCell ⟨g9, 3, none⟩ (.int .i64 r3)) := ⟨_, rfl⟩
  rw [← hw5] at hq9 hq10 hbq ⊢
  clear m0 m1 m2 m3 f0 f1 f2 f3 hw5 hR4 hc9 hc10 hap x4 x5
  have m0 := hq10.get 0 _
  have m1 := hq10.get 1 _
  have m2 := hq10.get 2 _
  have m3 := hq10.get 3 _
  have f0 := hq10.froz 0
  have f1 := hq10.froz 1
  have f2 := hq10.froz 2
  have f3 := hq10.froz 3
  have hne' : g10 ≠ g9 := fun e => hne e.symm
  have hp10 := Cs.all4 hq10 (a' := .int .i64 s0) (b' := .string s1') (c' := .string s2') (d' := .int .i64 s3')
  have hp9 := (((hq9.other g10 0 (.int .i64 s0) hne').other g10 1 (.string s1') hne').other g10 2 (.string s2') hne').other g10 3 (.int .i64 s3') hne'
  have hbp := below_all4 (a' := .int .i64 s0) (b' := .string s1') (c' := .string s2') (d' := .int .i64 s3') hbq hB10
  go_simp
  rw [otail_nil]
  obtain ⟨w6, hw6⟩ : ∃ v, v = ((((w5.setCell ⟨g10, 0, none⟩ (.int .i64 s0)).setCell ⟨g10, 1, none⟩ (.string s1')).setCell ⟨g10, 2, none⟩ (.string s2')).setCell ⟨g10, 3, none⟩ (.int .i64 s3')) := ⟨_, rfl⟩
  rw [← hw6] at hp9 hp10 hbp ⊢
  have HR9 := Lib.hid hp9
  have HS10 := Lib.hid hp10
  have HB6 := Lib.hid (HB2.out.trans (hbp.mono HB2.out.size))
  have HL6 := Lib.hid (HL0.out.below HB6.out (Nat.le_refl _))
  have hz1 := ht.small
  have hz2 := hu.small
  obtain ⟨X, Y, hX, hY, hXY⟩ := apart_enc ht.good hu.good
  rw [htt] at hX hz1 hXY
  rw [huu] at hY hz2 hXY
  have hq := fun w => trig_eql r0 s0 r1 s1' r2 s2' r3 s3' w
  simp only [trigEq_iff] at hq
  simp only [toT, Array.length_toList] at hz1 hz2
  obtain ⟨z1, z2⟩ := hz1
  obtain ⟨z3, z4⟩ := hz2
  have he1 : ∀ w, LaidT w → Calls Tryd.prog 21 #[.agg #[.int .i64 r0, .string r1, .string r2, .int .i64 r3]] w fun e w' => e = .returned (.tuple #[.string X, .bool true]) ∧ Below w.heap.size w w' := by
    intro w h
    have := encode_any r0 r1 r2 r3 w (by have : r1.size = r1.data.size := rfl; omega) (by have : r2.size = r2.data.size := rfl; omega) h
    rw [hX] at this; exact this
  have he2 : ∀ w, LaidT w → Calls Tryd.prog 21 #[.agg #[.int .i64 s0, .string s1', .string s2', .int .i64 s3']] w fun e w' => e = .returned (.tuple #[.string Y, .bool true]) ∧ Below w.heap.size w w' := by
    intro w h
    have := encode_any s0 s1' s2' s3' w (by have : s1'.size = s1'.data.size := rfl; omega) (by have : s2'.size = s2'.data.size := rfl; omega) h
    rw [hY] at this; exact this
  have HE1 := Lib.hid he1
  have HE2 := Lib.hid he2
  generalize decide (toT r0 r1 r2 r3 = toT s0 s1' s2' s3') = b at hq hXY
  clear he1 he2 hX hY z1 z2 z3 z4 htt huu ht hu hsh1 hsh2 x1 x3 hw6 hq9 hq10 hbq hp9 hp10 hbp m0 m1 m2 m3 f0 f1 f2 f3 hne hne' hB9 hB10 H1 H2 HB2 T1 T2 HL0 HW0 HS1 HS2
  have k0 := HR9.out.get 0 (.int .i64 r0)
  have k1 := HR9.out.get 1 (.string r1)
  have k2 := HR9.out.get 2 (.string r2)
  have k3 := HR9.out.get 3 (.int .i64 r3)
  go_wp2_with (go_at_call 21; refine (HE1.out _ HL6.out).mono ?_; rintro e w7 ⟨rfl, hb7⟩; refine Hid.out ?_)
  refine Lib.hid ?_
  have HB7 := Lib.hid (HB6.out.trans (hb7.mono HB6.out.size))
  have HL7 := Lib.hid (HL6.out.below hb7 (Nat.le_refl _))
  have HR7 := Lib.hid (HR9.out.below hb7)
  have hS7 := HS10.out.below hb7
  have HS7 := Lib.hid hS7
  clear k0 k1 k2 k3
  have k0 := hS7.get 0 (.int .i64 s0)
  have k1 := hS7.get 1 (.string s1')
  have k2 := hS7.get 2 (.string s2')
  have k3 := hS7.get 3 (.int .i64 s3')
  clear hS7 hb7 HR9 HS10
  go_wp2_with (go_at_call 21; refine (HE2.out _ HL7.out).mono ?_; rintro e w8 ⟨rfl, hb8⟩; refine Hid.out ?_)
  refine Lib.hid ?_
  have HB8 := Lib.hid (HB7.out.trans (hb8.mono HB7.out.size))
  have hR8 := HR7.out.below hb8
  have hS8 := HS7.out.below hb8
  clear k0 k1 k2 k3
  have k0 := hR8.get 0 (.int .i64 r0)
  have k1 := hR8.get 1 (.string r1)
  have k2 := hR8.get 2 (.string r2)
  have k3 := hR8.get 3 (.int .i64 r3)
  have k4 := hS8.get 0 (.int .i64 s0)
  have k5 := hS8.get 1 (.string s1')
  have k6 := hS8.get 2 (.string s2')
  have k7 := hS8.get 3 (.int .i64 s3')
  clear hR8 hS8 hb8 HR7 HS7
  go_wp2_with fail
  go_ret
  exact ⟨rfl, HB8.out⟩
end Go.Proofs.YtodpaejakgjblaaDoor
