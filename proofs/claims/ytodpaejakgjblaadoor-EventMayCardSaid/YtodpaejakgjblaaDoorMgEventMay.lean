/- Texts that walks stand on, one behind the other. -/
import Derived.Test.YtodpaejakgjblaaDoorMgSB
namespace Go.Proofs.YtodpaejakgjblaaDoor
open Go.RowKit
set_option linter.unusedVariables false
set_option linter.unusedSimpArgs false
set_option maxRecDepth 20000
attribute [local simp] putsF isV wordOf Deps Region.binds Region.wanted Act.put wantedX isB

set_option maxHeartbeats 16000000 in
theorem eventMay_walk (w : World) (hL : LaidT w) (T : Int) (hT : (Lit.int .i64 T).wf = true) (C : ByteArray) (hC : C.size ≤ 140737488351232) (N : ByteArray) (hN : N.size ≤ 140737488351232) (ty : Int) (hty : (Lit.int .u16 ty).wf = true) (z : Int) (hz : (Lit.int .i64 z).wf = true)
    (tk : Int) (htk : (Lit.int .i64 tk).wf = true) (TN : ByteArray) (hTN : TN.size ≤ 140737488351232) (TA : ByteArray) (hTA : TA.size ≤ 140737488351232) (tb : Int) (htb : (Lit.int .i64 tb).wf = true) (ac : Int) (hac : (Lit.int .i64 ac).wf = true) :
    Calls Tryd.prog 11 #[.agg #[.int .i64 T, .string C, .string N, .int .u16 ty, .int .i64 z, .int .i64 tk, .string TN, .string TA, .int .i64 tb, .int .i64 ac]] w fun e w' => e = .returned (.bool true) ∧ Below w.heap.size w w' := by
  have htb2 := bounds_u16 hty
  have s5 : 0 ≤ ty := by omega
  have s6 : ty < 65536 := by omega
  have henc := fun w h => evenc_any T C N ty z tk TN TA tb ac w (by omega) (by omega) (by omega) (by omega) ⟨s5, s6⟩ h
  have hlm := fun w h => evlmay_any T C N ty z tk TN TA tb ac w (by omega) (by omega) (by omega) (by omega) h
  have hem := fun w h => evmay_any T C N ty z tk TN TA tb ac w (by omega) (by omega) (by omega) (by omega) h
  have hby := fun (hm : mayE (toE T C N ty z tk TN TA tb ac) = true) w h => evbytes_any T C N ty z tk TN TA tb ac w (by omega) (by omega) ⟨s5, s6⟩ hm h
  have hll := fun (hm : mayE (toE T C N ty z tk TN TA tb ac) = true) => (evB_len (mayE_iff.1 hm)).2
  obtain ⟨W0, hW0⟩ : ∃ W0, W0 = w.alloc (.cells #[.int .i64 T, .string C, .string N, .int .u16 ty, .int .i64 z, .int .i64 tk, .string TN, .string TA, .int .i64 tb, .int .i64 ac] 68) := ⟨_, rfl⟩
  have hB0 : Below w.heap.size w W0 := by rw [hW0]; exact (Below.refl w.heap.size w).alloc (Nat.le_refl _) _
  have hC0 : Cs W0 w.heap.size [.int .i64 T, .string C, .string N, .int .u16 ty, .int .i64 z, .int .i64 tk, .string TN, .string TA, .int .i64 tb, .int .i64 ac] := by rw [hW0]; exact Cs.new w _ _ _
  have HAW := Lib.hid (awake25_any W0 (hL.below hB0 (Nat.le_refl _)))
  obtain ⟨L, hLe⟩ : ∃ L, L = evB (toE T C N ty z tk TN TA tb ac) := ⟨_, rfl⟩
  rw [← hLe] at henc hby hll
  obtain ⟨X, hX⟩ : ∃ X, X = baL L := ⟨_, rfl⟩
  rw [← hX] at hby
  obtain ⟨m, hm⟩ : ∃ m, mayE (toE T C N ty z tk TN TA tb ac) = m := ⟨_, rfl⟩
  rw [hm] at henc hlm hem hby hll
  have HENC := Lib.hid henc
  have HLM := Lib.hid hlm
  have HEM := Lib.hid hem
  have HBY := Lib.hid hby
  have HLL := Lib.hid hll
  have HX := Lib.hid hX
  have HL0 := Lib.hid hL
  have HB0 := Lib.hid hB0
  have HC0 := Lib.hid hC0
  have HW0 := Lib.hid hW0
  clear hW0 hB0 hC0 hL henc hlm hem hby hll hX hLe hm hT hC hN hty hz htk hTN hTA htb hac htb2 s5 s6
  go_enter Tryd.func11, Tryd.ntmps11
  go_wp2_with (go_at_call 29; rw [← HW0.out]; refine HAW.out.mono ?_; rintro e w1 ⟨rfl, hb1⟩; refine Hid.out ?_)
  refine Lib.hid ?_
  have HB1 := Lib.hid (HB0.out.trans (hb1.mono HB0.out.size))
  have HC1 := Lib.hid (HC0.out.below hb1)
  have HL1 := Lib.hid (HL0.out.below HB1.out (Nat.le_refl _))
  clear hb1 HB0 HC0 HAW HW0 HL0
  have k0 := HC1.out.get 0 (.int .i64 T)
  have k1 := HC1.out.get 1 (.string C)
  have k2 := HC1.out.get 2 (.string N)
  have k3 := HC1.out.get 3 (.int .u16 ty)
  have k4 := HC1.out.get 4 (.int .i64 z)
  have k5 := HC1.out.get 5 (.int .i64 tk)
  have k6 := HC1.out.get 6 (.string TN)
  have k7 := HC1.out.get 7 (.string TA)
  have k8 := HC1.out.get 8 (.int .i64 tb)
  have k9 := HC1.out.get 9 (.int .i64 ac)
  go_wp2_with (go_at_call 31; refine (HENC.out _ HL1.out).mono ?_; rintro e w4 ⟨v4, rfl, hyes, hno, hb4⟩; refine Hid.out ?_)
  refine Lib.hid ?_
  clear k0 k1 k2 k3 k4 k5 k6 k7 k8 k9
  have HB4 := Lib.hid (HB1.out.trans (hb4.mono HB1.out.size))
  have HC4 := Lib.hid (HC1.out.below hb4)
  have HL4 := Lib.hid (HL1.out.below hb4 (Nat.le_refl _))
  clear hb4 HC1 HB1 HL1 HENC
  cases m with
  | false =>
    obtain rfl := hno (by first | rfl | trivial)
    clear hyes hno HLL HBY
    go_upto_region 4 with fail
    refine wp_region_goesG ev_follows (fun x => by simp [putsF, Act.put]; rfl) w4.heap.size w4
      [isV (.agg #[.int .i64 T, .string C, .string N, .int .u16 ty, .int .i64 z, .int .i64 tk, .string TN, .string TA, .int .i64 tb, .int .i64 ac]), isV (.bool false), isV (.agg #[.int .i64 T, .string C, .string N, .int .u16 ty, .int .i64 z, .int .i64 tk, .string TN, .string TA, .int .i64 tb, .int .i64 ac]), isV (.bool false), isV (.bool true), isV (.bool true), isV (.bool false), isV (.agg #[.int .i64 T, .string C, .string N, .int .u16 ty, .int .i64 z, .int .i64 tk, .string TN, .string TA, .int .i64 tb, .int .i64 ac]), isV (.bool false), isV (.bool true), isV (.bool true), isV (.bool true), isV (.bool false), isV (.bool false), isV undef, isV undef, isV undef, isV undef, isV undef, isV (.bool false), isV (.bool false), isV (.bool false), isV (.bool true), isV (.bool true), isV (.slice none 0 0), isV (.int .i64 0), isV (.bool true), isV (.bool true), isV (.bool true), isV (.bool true), isV (.bool true)]
      (by kernel_rfl) (by kernel_rfl) (by kernel_rfl) rfl ?_ (Below.refl _ _) ?_ ?_
    · repeat (first | exact trivial | refine ⟨by first | exact isV_stays _ , ?_⟩)
    · refine ⟨?_, ?_, ?_, ?_, ?_, ?_, ?_, ?_, ?_, ?_, ?_, ?_, ?_, ?_, ?_, ?_, ?_, ?_, ?_, ?_, ?_, ?_, ?_, ?_, ?_, ?_, ?_, ?_, ?_, ?_, ?_, trivial⟩
      all_goals
        intro x wx hR hd
        simp at hd ⊢
        try simp [hd]
      all_goals try exact fun hX => absurd (show (false : Bool) = true from hX) (by decide)
      · have hq := HC4.out.below hR
        have q0 := hq.get 0 (.int .i64 T)
        have q1 := hq.get 1 (.string C)
        have q2 := hq.get 2 (.string N)
        have q3 := hq.get 3 (.int .u16 ty)
        have q4 := hq.get 4 (.int .i64 z)
        have q5 := hq.get 5 (.int .i64 tk)
        have q6 := hq.get 6 (.string TN)
        have q7 := hq.get 7 (.string TA)
        have q8 := hq.get 8 (.int .i64 tb)
        have q9 := hq.get 9 (.int .i64 ac)
        clear hq
        go_simp
        exact next_same _ rfl rfl hR
      · go_simp
        go_at_call 34
        refine (HEM.out wx (HL4.out.below hR (Nat.le_refl _))).mono ?_
        rintro e wy ⟨rfl, hby⟩
        exact next_call _ rfl rfl hR hR.size hby
      · have hq := HC4.out.below hR
        have q0 := hq.get 0 (.int .i64 T)
        have q1 := hq.get 1 (.string C)
        have q2 := hq.get 2 (.string N)
        have q3 := hq.get 3 (.int .u16 ty)
        have q4 := hq.get 4 (.int .i64 z)
        have q5 := hq.get 5 (.int .i64 tk)
        have q6 := hq.get 6 (.string TN)
        have q7 := hq.get 7 (.string TA)
        have q8 := hq.get 8 (.int .i64 tb)
        have q9 := hq.get 9 (.int .i64 ac)
        clear hq
        go_simp
        exact next_same _ rfl rfl hR
      · go_simp
        go_at_call 33
        refine (HLM.out wx (HL4.out.below hR (Nat.le_refl _))).mono ?_
        rintro e wy ⟨rfl, hby⟩
        exact next_call _ rfl rfl hR hR.size hby
      · go_simp
        exact next_same _ rfl rfl hR
      · go_simp
        exact next_same _ rfl rfl hR
      · go_simp
        exact next_same _ rfl rfl hR
      · have hq := HC4.out.below hR
        have q0 := hq.get 0 (.int .i64 T)
        have q1 := hq.get 1 (.string C)
        have q2 := hq.get 2 (.string N)
        have q3 := hq.get 3 (.int .u16 ty)
        have q4 := hq.get 4 (.int .i64 z)
        have q5 := hq.get 5 (.int .i64 tk)
        have q6 := hq.get 6 (.string TN)
        have q7 := hq.get 7 (.string TA)
        have q8 := hq.get 8 (.int .i64 tb)
        have q9 := hq.get 9 (.int .i64 ac)
        clear hq
        go_simp
        exact next_same _ rfl rfl hR
      · go_simp
        go_at_call 33
        refine (HLM.out wx (HL4.out.below hR (Nat.le_refl _))).mono ?_
        rintro e wy ⟨rfl, hby⟩
        exact next_call _ rfl rfl hR hR.size hby
      · go_simp
        exact next_same _ rfl rfl hR
      · go_simp
        exact next_same _ rfl rfl hR
      · go_simp
        exact next_same _ rfl rfl hR
      · go_simp
        exact next_same _ rfl rfl hR
      · go_simp
        exact next_same _ rfl rfl hR
      · go_simp
        exact next_same _ rfl rfl hR
      · go_simp
        exact next_same _ rfl rfl hR
      · go_simp
        exact next_same _ rfl rfl hR
      · go_simp
        exact next_same _ rfl rfl hR
      · go_simp
        exact next_same _ rfl rfl hR
      · go_simp
        exact next_same _ rfl rfl hR
      · go_simp
        exact next_same _ rfl rfl hR
      · go_simp
        exact next_same _ rfl rfl hR
      · go_simp
        exact next_same _ rfl rfl hR
      · go_simp
        exact next_same _ rfl rfl hR
      · go_simp
        exact next_same _ rfl rfl hR
      · go_simp
        exact next_same _ rfl rfl hR
    intro x w7 hR hx
    simp [AllWords] at hx
    have hx30 : x 30 = .bool true := by simp [hx]
    clear hx
    rw [hx30]
    have HB7 := Lib.hid (HB4.out.trans (hR.mono HB4.out.size))
    clear hx30 hR
    go_wp2_with fail
    go_ret
    exact ⟨rfl, HB7.out⟩
  | true =>
    have hob4 := hyes (by first | rfl | trivial)
    obtain ⟨A4, c4, rfl, hx1, hx2, hx3⟩ := hob4.slice
    have HT := Lib.hid (show Txt w4 A4 L.length L from ⟨hob4.sl, fun h => (hx3 h).1⟩)
    have hll := HLL.out rfl
    generalize L.length = q at *
    have HBY2 := Lib.hid (HBY.out rfl)
    clear hob4 hx3 hyes hno HLL HBY
    go_upto_region 4 with fail
    refine wp_region_goesG ev_follows (fun x => by simp [putsF, Act.put]; rfl) w4.heap.size w4
      [isV (.agg #[.int .i64 T, .string C, .string N, .int .u16 ty, .int .i64 z, .int .i64 tk, .string TN, .string TA, .int .i64 tb, .int .i64 ac]), isV (.bool true), isV (.agg #[.int .i64 T, .string C, .string N, .int .u16 ty, .int .i64 z, .int .i64 tk, .string TN, .string TA, .int .i64 tb, .int .i64 ac]), isV (.bool true), isV (.bool true), isV (.bool true), isV (.bool true), isV (.agg #[.int .i64 T, .string C, .string N, .int .u16 ty, .int .i64 z, .int .i64 tk, .string TN, .string TA, .int .i64 tb, .int .i64 ac]), isV (.bool true), isV (.bool true), isV (.bool true), isV (.bool true), isV (.bool true), isV (.bool true), isV (.slice A4 q c4), isV (.string X), isV (.agg #[.int .i64 T, .string C, .string N, .int .u16 ty, .int .i64 z, .int .i64 tk, .string TN, .string TA, .int .i64 tb, .int .i64 ac]), isV (.string X), isV (.bool true), isV (.bool true), isV (.bool true), isV undef, isV undef, isV undef, isV undef, isV undef, isV undef, isV undef, isV (.bool true), isV (.bool true), isV (.bool true)]
      (by kernel_rfl) (by kernel_rfl) (by kernel_rfl) rfl ?_ (Below.refl _ _) ?_ ?_
    · repeat (first | exact trivial | refine ⟨by first | exact isV_stays _ , ?_⟩)
    · refine ⟨?_, ?_, ?_, ?_, ?_, ?_, ?_, ?_, ?_, ?_, ?_, ?_, ?_, ?_, ?_, ?_, ?_, ?_, ?_, ?_, ?_, ?_, ?_, ?_, ?_, ?_, ?_, ?_, ?_, ?_, ?_, trivial⟩
      all_goals
        intro x wx hR hd
        simp at hd ⊢
        try simp [hd]
      all_goals try exact fun hX => absurd (show (false : Bool) = true from hX) (by decide)
      · have hq := HC4.out.below hR
        have q0 := hq.get 0 (.int .i64 T)
        have q1 := hq.get 1 (.string C)
        have q2 := hq.get 2 (.string N)
        have q3 := hq.get 3 (.int .u16 ty)
        have q4 := hq.get 4 (.int .i64 z)
        have q5 := hq.get 5 (.int .i64 tk)
        have q6 := hq.get 6 (.string TN)
        have q7 := hq.get 7 (.string TA)
        have q8 := hq.get 8 (.int .i64 tb)
        have q9 := hq.get 9 (.int .i64 ac)
        clear hq
        go_simp
        exact next_same _ rfl rfl hR
      · go_simp
        go_at_call 34
        refine (HEM.out wx (HL4.out.below hR (Nat.le_refl _))).mono ?_
        rintro e wy ⟨rfl, hby⟩
        exact next_call _ rfl rfl hR hR.size hby
      · have hq := HC4.out.below hR
        have q0 := hq.get 0 (.int .i64 T)
        have q1 := hq.get 1 (.string C)
        have q2 := hq.get 2 (.string N)
        have q3 := hq.get 3 (.int .u16 ty)
        have q4 := hq.get 4 (.int .i64 z)
        have q5 := hq.get 5 (.int .i64 tk)
        have q6 := hq.get 6 (.string TN)
        have q7 := hq.get 7 (.string TA)
        have q8 := hq.get 8 (.int .i64 tb)
        have q9 := hq.get 9 (.int .i64 ac)
        clear hq
        go_simp
        exact next_same _ rfl rfl hR
      · go_simp
        go_at_call 33
        refine (HLM.out wx (HL4.out.below hR (Nat.le_refl _))).mono ?_
        rintro e wy ⟨rfl, hby⟩
        exact next_call _ rfl rfl hR hR.size hby
      · go_simp
        exact next_same _ rfl rfl hR
      · go_simp
        exact next_same _ rfl rfl hR
      · go_simp
        exact next_same _ rfl rfl hR
      · have hq := HC4.out.below hR
        have q0 := hq.get 0 (.int .i64 T)
        have q1 := hq.get 1 (.string C)
        have q2 := hq.get 2 (.string N)
        have q3 := hq.get 3 (.int .u16 ty)
        have q4 := hq.get 4 (.int .i64 z)
        have q5 := hq.get 5 (.int .i64 tk)
        have q6 := hq.get 6 (.string TN)
        have q7 := hq.get 7 (.string TA)
        have q8 := hq.get 8 (.int .i64 tb)
        have q9 := hq.get 9 (.int .i64 ac)
        clear hq
        go_simp
        exact next_same _ rfl rfl hR
      · go_simp
        go_at_call 33
        refine (HLM.out wx (HL4.out.below hR (Nat.le_refl _))).mono ?_
        rintro e wy ⟨rfl, hby⟩
        exact next_call _ rfl rfl hR hR.size hby
      · go_simp
        exact next_same _ rfl rfl hR
      · go_simp
        exact next_same _ rfl rfl hR
      · go_simp
        exact next_same _ rfl rfl hR
      · go_simp
        exact next_same _ rfl rfl hR
      · go_simp
        exact next_same _ rfl rfl hR
      · go_simp
        exact next_same _ rfl rfl hR
      · have hcv := Txt.conv (P := Tryd.prog) (HT.out.goes hR) 22 9 5 Tryd.underlying22 Tryd.underlying5 Tryd.underlying9 c4
        rw [show (⟨L.toArray⟩ : ByteArray) = X from HX.out.symm] at hcv
        go_simp
        exact next_same _ rfl rfl hR
      · have hq := HC4.out.below hR
        have q0 := hq.get 0 (.int .i64 T)
        have q1 := hq.get 1 (.string C)
        have q2 := hq.get 2 (.string N)
        have q3 := hq.get 3 (.int .u16 ty)
        have q4 := hq.get 4 (.int .i64 z)
        have q5 := hq.get 5 (.int .i64 tk)
        have q6 := hq.get 6 (.string TN)
        have q7 := hq.get 7 (.string TA)
        have q8 := hq.get 8 (.int .i64 tb)
        have q9 := hq.get 9 (.int .i64 ac)
        clear hq
        go_simp
        exact next_same _ rfl rfl hR
      · go_simp
        go_at_call 35
        refine (HBY2.out wx (HL4.out.below hR (Nat.le_refl _))).mono ?_
        rintro e wy ⟨rfl, hby⟩
        exact next_call _ rfl rfl hR hR.size hby
      · have hb := str_same X X rfl
        go_simp
        exact next_same _ rfl rfl hR
      · go_simp
        exact next_same _ rfl rfl hR
      · go_simp
        exact next_same _ rfl rfl hR
      · go_simp
        exact next_same _ rfl rfl hR
      · go_simp
        exact next_same _ rfl rfl hR
      · go_simp
        exact next_same _ rfl rfl hR
    intro x w7 hR hx
    simp [AllWords] at hx
    have hx30 : x 30 = .bool true := by simp [hx]
    clear hx
    rw [hx30]
    have HB7 := Lib.hid (HB4.out.trans (hR.mono HB4.out.size))
    clear hx30 hR
    go_wp2_with fail
    go_ret
    exact ⟨rfl, HB7.out⟩
end Go.Proofs.YtodpaejakgjblaaDoor
