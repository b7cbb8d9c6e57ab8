/- Texts that walks stand on, one behind the other. -/
import Derived.Test.YtodpaejakgjblaaDoorMgSB
namespace Go.Proofs.YtodpaejakgjblaaDoor
open Go.RowKit
set_option linter.unusedVariables false
set_option linter.unusedSimpArgs false
set_option maxRecDepth 20000
attribute [local simp] putsF isV wordOf Deps Region.binds Region.wanted Act.put wantedX isB

set_option maxHeartbeats 16000000 in
theorem eventBytes_walk (w : World) (hL : LaidT w) (wh : Int) (hwh : (Lit.int .u32 wh).wf = true) (A1 : Option Addr) (n1 c1 : Nat) (zs1 : List Int) (S1 : SlView w A1 n1 c1 (zs1.map (Value.int .u8))) (hl1 : zs1.length = n1) (hw1 : ∀ z ∈ zs1, (Lit.int .u8 z).wf = true) (hc1 : c1 ≤ 140737488351232)
    (A2 : Option Addr) (n2 c2 : Nat) (zs2 : List Int) (S2 : SlView w A2 n2 c2 (zs2.map (Value.int .u8))) (hl2 : zs2.length = n2) (hw2 : ∀ z ∈ zs2, (Lit.int .u8 z).wf = true) (hc2 : c2 ≤ 140737488351232)
    (kd : Int) (hkd : (Lit.int .u16 kd).wf = true) (zo : Int) (hzo : (Lit.int .u8 zo).wf = true) (k : Int) (hk : (Lit.int .u8 k).wf = true)
    (A3 : Option Addr) (n3 c3 : Nat) (zs3 : List Int) (S3 : SlView w A3 n3 c3 (zs3.map (Value.int .u8))) (hl3 : zs3.length = n3) (hw3 : ∀ z ∈ zs3, (Lit.int .u8 z).wf = true) (hc3 : c3 ≤ 140737488351232) (six : Bool) (bt : Int) (hbt : (Lit.int .u8 bt).wf = true)
    (ac : Int) (hac : (Lit.int .u8 ac).wf = true) :
    Calls Tryd.prog 10 #[.agg #[.int .u32 wh, .slice A1 n1 c1, .slice A2 n2 c2, .int .u16 kd, .int .u8 zo, .int .u8 k, .slice A3 n3 c3, .bool six, .int .u8 bt, .int .u8 ac]] w fun e w' => e = .returned (.bool true) ∧ Below w.heap.size w w' := by
  have HMK := Lib.hid (make25_arg w wh hwh A1 n1 c1 zs1 S1 hl1 hw1 hc1 A2 n2 c2 zs2 S2 hl2 hw2 hc2 kd hkd zo hzo k hk A3 n3 c3 zs3 S3 hl3 hw3 hc3 six bt hbt ac hac)
  obtain ⟨W0, hW0⟩ : ∃ W0, W0 = w.alloc (.cells #[.int .u32 wh, .slice A1 n1 c1, .slice A2 n2 c2, .int .u16 kd, .int .u8 zo, .int .u8 k, .slice A3 n3 c3, .bool six, .int .u8 bt, .int .u8 ac] 64) := ⟨_, rfl⟩
  have hB0 : Below w.heap.size w W0 := by rw [hW0]; exact (Below.refl w.heap.size w).alloc (Nat.le_refl _) _
  have hC0 : Cs W0 w.heap.size [.int .u32 wh, .slice A1 n1 c1, .slice A2 n2 c2, .int .u16 kd, .int .u8 zo, .int .u8 k, .slice A3 n3 c3, .bool six, .int .u8 bt, .int .u8 ac] := by rw [hW0]; exact Cs.new w _ _ _
  have HAW := Lib.hid (awake25_any W0 (hL.below hB0 (Nat.le_refl _)))
  have HL0 := Lib.hid hL
  have HB0 := Lib.hid hB0
  have HC0 := Lib.hid hC0
  have HW0 := Lib.hid hW0
  clear hW0 hB0 hC0 hL
  clear hwh S1 hl1 hw1 hc1 S2 hl2 hw2 hc2 hkd hzo hk S3 hl3 hw3 hc3 hbt hac
  go_enter Tryd.func10, Tryd.ntmps10
  go_wp2_with (go_at_call 29; rw [← HW0.out]; refine HAW.out.mono ?_; rintro e w1 ⟨rfl, hb1⟩; refine Hid.out ?_)
  refine Lib.hid ?_
  have HB1 := Lib.hid (HB0.out.trans (hb1.mono HB0.out.size))
  have HC1 := Lib.hid (HC0.out.below hb1)
  clear hb1 HB0 HC0 HAW HW0
  have k0 := HC1.out.get 0 (.int .u32 wh)
  have k1 := HC1.out.get 1 (.slice A1 n1 c1)
  have k2 := HC1.out.get 2 (.slice A2 n2 c2)
  have k3 := HC1.out.get 3 (.int .u16 kd)
  have k4 := HC1.out.get 4 (.int .u8 zo)
  have k5 := HC1.out.get 5 (.int .u8 k)
  have k6 := HC1.out.get 6 (.slice A3 n3 c3)
  have k7 := HC1.out.get 7 (.bool six)
  have k8 := HC1.out.get 8 (.int .u8 bt)
  have k9 := HC1.out.get 9 (.int .u8 ac)
  go_wp2_with (go_at_call 30; refine (HMK.out _ HB1.out).mono ?_; rintro e w2 ⟨v2, rfl, hse, hb2⟩; refine Hid.out ?_)
  refine Lib.hid ?_
  clear k0 k1 k2 k3 k4 k5 k6 k7 k8 k9
  obtain ⟨T, C, N, ty, z, tk, TN, TA, tb, av, rfl, hm, s1, s2, s3, s4, s5, s6⟩ := hse
  have hmE := mayE_iff.1 hm
  have hB2 := HB1.out.trans (hb2.mono HB1.out.size)
  have HB3 := Lib.hid (hB2.alloc hB2.size (.cells #[.int .i64 T, .string C, .string N, .int .u16 ty, .int .i64 z, .int .i64 tk, .string TN, .string TA, .int .i64 tb, .int .i64 av] 68))
  have HC3 := Lib.hid (Cs.new w2 #[.int .i64 T, .string C, .string N, .int .u16 ty, .int .i64 z, .int .i64 tk, .string TN, .string TA, .int .i64 tb, .int .i64 av] 68 [.int .i64 T, .string C, .string N, .int .u16 ty, .int .i64 z, .int .i64 tk, .string TN, .string TA, .int .i64 tb, .int .i64 av])
  have HL3 := Lib.hid (HL0.out.below HB3.out (Nat.le_refl _))
  have henc := fun w h => evenc_any T C N ty z tk TN TA tb av w (by omega) (by omega) (by omega) (by omega) ⟨s5, s6⟩ h
  have hlm := fun w h => evlmay_any T C N ty z tk TN TA tb av w (by omega) (by omega) (by omega) (by omega) h
  have hem := fun w h => evmay_any T C N ty z tk TN TA tb av w (by omega) (by omega) (by omega) (by omega) h
  have hby := fun w h => evbytes_any T C N ty z tk TN TA tb av w (by omega) (by omega) ⟨s5, s6⟩ hm h
  rw [hm] at henc hlm hem
  obtain ⟨L, hLe⟩ : ∃ L, L = evB (toE T C N ty z tk TN TA tb av) := ⟨_, rfl⟩
  have hll := (evB_len hmE).2
  rw [← hLe] at henc hby hll
  obtain ⟨X, hX⟩ : ∃ X, X = baL L := ⟨_, rfl⟩
  rw [← hX] at hby
  have hdi := fun v (h : DecIs L v) => dec_is hmE ⟨s5, s6⟩ (by rw [← hLe]; exact h)
  have HENC := Lib.hid henc
  have HLM := Lib.hid hlm
  have HEM := Lib.hid hem
  have HBY := Lib.hid hby
  have HX := Lib.hid hX
  have HDI := Lib.hid hdi
  clear henc hlm hem hby hX hdi hLe hm hmE hb2 hB2 HC1 HB1 HMK s1 s2 s3 s4 s5 s6
  go_upto_region 4 with fail
  generalize w2.alloc (.cells #[.int .i64 T, .string C, .string N, .int .u16 ty, .int .i64 z, .int .i64 tk, .string TN, .string TA, .int .i64 tb, .int .i64 av] 68) = W3 at HB3 HC3 HL3 ⊢
  generalize w2.heap.size = P3 at HC3 ⊢
  have c0 := HC3.out.get 0 (.int .i64 T)
  have c1 := HC3.out.get 1 (.string C)
  have c2 := HC3.out.get 2 (.string N)
  have c3 := HC3.out.get 3 (.int .u16 ty)
  have c4 := HC3.out.get 4 (.int .i64 z)
  have c5 := HC3.out.get 5 (.int .i64 tk)
  have c6 := HC3.out.get 6 (.string TN)
  have c7 := HC3.out.get 7 (.string TA)
  have c8 := HC3.out.get 8 (.int .i64 tb)
  have c9 := HC3.out.get 9 (.int .i64 av)
  go_wp2_with (go_at_call 31; refine (HENC.out _ HL3.out).mono ?_; rintro e w4 ⟨v4, rfl, hob4, -, hb4⟩; refine Hid.out ?_)
  refine Lib.hid ?_
  clear c0 c1 c2 c3 c4 c5 c6 c7 c8 c9
  have hob4 := hob4 (by first | rfl | trivial)
  have HB4 := Lib.hid (HB3.out.trans (hb4.mono HB3.out.size))
  have HC4 := Lib.hid (HC3.out.below hb4)
  have HL4 := Lib.hid (HL3.out.below hb4 (Nat.le_refl _))
  obtain ⟨A4, c4, rfl, hx1, hx2, hx3⟩ := hob4.slice
  have HD := Lib.hid (evdec_any A4 L.length c4 L w4 hob4.sl (fun h => (hx3 h).1) (by omega) HL4.out)
  have HT := Lib.hid (show Txt w4 A4 L.length L from ⟨hob4.sl, fun h => (hx3 h).1⟩)
  generalize L.length = q at *
  clear hob4 hx3 hb4 HC3 HB3 HL3 HENC
  go_wp2_with (go_at_call 32; refine HD.out.mono ?_; rintro e w5 ⟨v5, rfl, hdv, hb5⟩; refine Hid.out ?_)
  refine Lib.hid ?_
  obtain ⟨T', C', N', ty', z', tk', TN', TA', tb', av', rfl, hEE⟩ := HDI.out _ hdv
  have hb6 := hb5.trans (((Below.refl w5.heap.size w5).alloc (Nat.le_refl _) (.cells #[.int .i64 T', .string C', .string N', .int .u16 ty', .int .i64 z', .int .i64 tk', .string TN', .string TA', .int .i64 tb', .int .i64 av'] 68)).mono hb5.size)
  have HB6 := Lib.hid (HB4.out.trans (hb6.mono HB4.out.size))
  have HC6 := Lib.hid (HC4.out.below hb6)
  have HL6 := Lib.hid (HL4.out.below hb6 (Nat.le_refl _))
  have HT6 := Lib.hid (HT.out.goes hb6)
  have HD6 := Lib.hid (Cs.new w5 #[.int .i64 T', .string C', .string N', .int .u16 ty', .int .i64 z', .int .i64 tk', .string TN', .string TA', .int .i64 tb', .int .i64 av'] 68 [.int .i64 T', .string C', .string N', .int .u16 ty', .int .i64 z', .int .i64 tk', .string TN', .string TA', .int .i64 tb', .int .i64 av'])
  have hqq := fun w => ev_eql T' T C' C N' N ty' ty z' z tk' tk TN' TN TA' TA tb' tb av' av w
  simp only [hEE, decide_true] at hqq
  have HQQ := Lib.hid hqq
  clear hqq hEE hdv hb5 hb6 HC4 HB4 HL4 HT HD HDI
  go_upto_region 6 with fail
  generalize w5.alloc (.cells #[.int .i64 T', .string C', .string N', .int .u16 ty', .int .i64 z', .int .i64 tk', .string TN', .string TA', .int .i64 tb', .int .i64 av'] 68) = W6 at HB6 HC6 HL6 HT6 HD6 ⊢
  generalize w5.heap.size = P6 at HD6 ⊢
  refine wp_region_goesG ev_follows (fun x => by simp [putsF, Act.put]; rfl) W6.heap.size W6
    [isV (.agg #[.int .i64 T, .string C, .string N, .int .u16 ty, .int .i64 z, .int .i64 tk, .string TN, .string TA, .int .i64 tb, .int .i64 av]), isV (.bool true), isV (.bool true), isV (.agg #[.int .i64 T, .string C, .string N, .int .u16 ty, .int .i64 z, .int .i64 tk, .string TN, .string TA, .int .i64 tb, .int .i64 av]), isV (.bool true), isV (.bool true), isV (.bool true), isV (.bool true), isV (.bool true), isV (.bool true), isV (.slice A4 q c4), isV (.string X), isV (.agg #[.int .i64 T, .string C, .string N, .int .u16 ty, .int .i64 z, .int .i64 tk, .string TN, .string TA, .int .i64 tb, .int .i64 av]), isV (.string X), isV (.bool true), isV (.bool true), isV (.bool true), isV (.bool true), isV (.bool true), isV (.bool true), isV (.agg #[.int .i64 T', .string C', .string N', .int .u16 ty', .int .i64 z', .int .i64 tk', .string TN', .string TA', .int .i64 tb', .int .i64 av']), isV (.agg #[.int .i64 T, .string C, .string N, .int .u16 ty, .int .i64 z, .int .i64 tk, .string TN, .string TA, .int .i64 tb, .int .i64 av]), isV (.bool true), isV (.bool true), isV (.bool true)]
    (by kernel_rfl) (by kernel_rfl) (by kernel_rfl) rfl ?_ (Below.refl _ _) ?_ ?_
  · repeat (first | exact trivial | refine ⟨by first | exact isV_stays _ , ?_⟩)
  · refine ⟨?_, ?_, ?_, ?_, ?_, ?_, ?_, ?_, ?_, ?_, ?_, ?_, ?_, ?_, ?_, ?_, ?_, ?_, ?_, ?_, ?_, ?_, ?_, ?_, ?_, trivial⟩
    all_goals
      intro x wx hR hd
      simp at hd ⊢
      try simp [hd]
    · have hq := HC6.out.below hR
      have q0 := hq.get 0 (.int .i64 T)
      have q1 := hq.get 1 (.string C)
      have q2 := hq.get 2 (.string N)
      have q3 := hq.get 3 (.int .u16 ty)
      have q4 := hq.get 4 (.int .i64 z)
      have q5 := hq.get 5 (.int .i64 tk)
      have q6 := hq.get 6 (.string TN)
      have q7 := hq.get 7 (.string TA)
      have q8 := hq.get 8 (.int .i64 tb)
      have q9 := hq.get 9 (.int .i64 av)
      clear hq
      go_simp
      exact next_same _ rfl rfl hR
    · go_simp
      go_at_call 33
      refine (HLM.out wx (HL6.out.below hR (Nat.le_refl _))).mono ?_
      rintro e wy ⟨rfl, hby⟩
      exact next_call _ rfl rfl hR hR.size hby
    · go_simp
      exact next_same _ rfl rfl hR
    · have hq := HC6.out.below hR
      have q0 := hq.get 0 (.int .i64 T)
      have q1 := hq.get 1 (.string C)
      have q2 := hq.get 2 (.string N)
      have q3 := hq.get 3 (.int .u16 ty)
      have q4 := hq.get 4 (.int .i64 z)
      have q5 := hq.get 5 (.int .i64 tk)
      have q6 := hq.get 6 (.string TN)
      have q7 := hq.get 7 (.string TA)
      have q8 := hq.get 8 (.int .i64 tb)
      have q9 := hq.get 9 (.int .i64 av)
      clear hq
      go_simp
      exact next_same _ rfl rfl hR
    · go_simp
      go_at_call 34
      refine (HEM.out wx (HL6.out.below hR (Nat.le_refl _))).mono ?_
      rintro e wy ⟨rfl, hby⟩
      exact next_call _ rfl rfl hR hR.size hby
    · go_simp
      exact next_same _ rfl rfl hR
    · go_simp
      exact next_same _ rfl rfl hR
    · go_simp
      exact next_same _ rfl rfl hR
    · go_simp
      exact next_same _ rfl rfl hR
    · go_simp
      exact next_same _ rfl rfl hR
    · go_simp
      exact next_same _ rfl rfl hR
    · have hcv := Txt.conv (P := Tryd.prog) (HT6.out.goes hR) 22 9 5 Tryd.underlying22 Tryd.underlying5 Tryd.underlying9 c4
      rw [show (⟨L.toArray⟩ : ByteArray) = X from HX.out.symm] at hcv
      go_simp
      exact next_same _ rfl rfl hR
    · have hq := HC6.out.below hR
      have q0 := hq.get 0 (.int .i64 T)
      have q1 := hq.get 1 (.string C)
      have q2 := hq.get 2 (.string N)
      have q3 := hq.get 3 (.int .u16 ty)
      have q4 := hq.get 4 (.int .i64 z)
      have q5 := hq.get 5 (.int .i64 tk)
      have q6 := hq.get 6 (.string TN)
      have q7 := hq.get 7 (.string TA)
      have q8 := hq.get 8 (.int .i64 tb)
      have q9 := hq.get 9 (.int .i64 av)
      clear hq
      go_simp
      exact next_same _ rfl rfl hR
    · go_simp
      go_at_call 35
      refine (HBY.out wx (HL6.out.below hR (Nat.le_refl _))).mono ?_
      rintro e wy ⟨rfl, hby⟩
      exact next_call _ rfl rfl hR hR.size hby
    · have hb := str_same X X rfl
      go_simp
      exact next_same _ rfl rfl hR
    · go_simp
      exact next_same _ rfl rfl hR
    · go_simp
      exact next_same _ rfl rfl hR
    · go_simp
      exact next_same _ rfl rfl hR
    · go_simp
      exact next_same _ rfl rfl hR
    · go_simp
      exact next_same _ rfl rfl hR
    · have hq := HD6.out.below hR
      have q0 := hq.get 0 (.int .i64 T')
      have q1 := hq.get 1 (.string C')
      have q2 := hq.get 2 (.string N')
      have q3 := hq.get 3 (.int .u16 ty')
      have q4 := hq.get 4 (.int .i64 z')
      have q5 := hq.get 5 (.int .i64 tk')
      have q6 := hq.get 6 (.string TN')
      have q7 := hq.get 7 (.string TA')
      have q8 := hq.get 8 (.int .i64 tb')
      have q9 := hq.get 9 (.int .i64 av')
      clear hq
      go_simp
      exact next_same _ rfl rfl hR
    · have hq := HC6.out.below hR
      have q0 := hq.get 0 (.int .i64 T)
      have q1 := hq.get 1 (.string C)
      have q2 := hq.get 2 (.string N)
      have q3 := hq.get 3 (.int .u16 ty)
      have q4 := hq.get 4 (.int .i64 z)
      have q5 := hq.get 5 (.int .i64 tk)
      have q6 := hq.get 6 (.string TN)
      have q7 := hq.get 7 (.string TA)
      have q8 := hq.get 8 (.int .i64 tb)
      have q9 := hq.get 9 (.int .i64 av)
      clear hq
      go_simp
      exact next_same _ rfl rfl hR
    · have hqq := HQQ.out
      go_simp
      exact next_same _ rfl rfl hR
    · go_simp
      exact next_same _ rfl rfl hR
    · go_simp
      exact next_same _ rfl rfl hR
  intro x w7 hR hx
  simp [AllWords] at hx
  have hx24 : x 24 = .bool true := by simp [hx]
  clear hx
  rw [hx24]
  have HB7 := Lib.hid (HB6.out.trans (hR.mono HB6.out.size))
  clear hx24 hR
  go_wp2_with fail
  go_ret
  exact ⟨rfl, HB7.out⟩
end Go.Proofs.YtodpaejakgjblaaDoor
