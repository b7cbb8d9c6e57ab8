/- The walk of OwnerBack. -/
import Derived.Test.YtodpaejakgjblaaDoorLawOwX1
namespace Go.Proofs.YtodpaejakgjblaaDoor
open Go.RowKit
set_option linter.unusedVariables false
set_option linter.unusedSimpArgs false
set_option maxRecDepth 20000

set_option maxHeartbeats 16000000 in
theorem ownerBack_walk (w : World) (hL : LaidT w) (kd : Int) (hkd : (Lit.int .u8 kd).wf = true) (A : Option Addr) (n c : Nat) (zs : List Int) (SA : SlView w A n c (zs.map (Value.int .u8))) (hl : zs.length = n) (hw : ∀ z ∈ zs, (Lit.int .u8 z).wf = true) (hc : c ≤ 140737488351232)
    (six : Bool) (bits : Int) (hbi : (Lit.int .u8 bits).wf = true) :
    Calls Tryd.prog 5 #[.int .u8 kd, .slice A n c, .bool six, .int .u8 bits] w fun e w' => e = .returned (.bool true) ∧ Below w.heap.size w w' := by
  obtain ⟨i0, hi, hz0, hz1, hz2⟩ := info_parts str_info
  have hn : n ≤ 140737488355328 := by have := SA.le; omega
  have hz : ∀ z ∈ zs, 0 ≤ z ∧ z < 256 := fun z h => by have := bounds_u8 (hw z h); omega
  have hbb := bounds_u8 hbi
  have hkb := bounds_u8 hkd
  have HAW := Lib.hid (awake13_any w hL)
  have HTR := Lib.hid (fun (wx : World) h => trigger13_any kd (by omega) A n c zs six bits (by omega) wx h hz hn)
  have HSA := Lib.hid SA.sl
  have HL0 := Lib.hid hL
  have HKB := Lib.hid hkb
  clear hn hz hbb hL SA hl hw hc hbi hkd hkb
  go_enter Tryd.func5, Tryd.ntmps5
  go_wp2_with (go_at_call 14; refine HAW.out.mono ?_; rintro e w1 ⟨rfl, hb1⟩; refine Hid.out ?_)
  refine Lib.hid ?_
  have HB1 := Lib.hid hb1
  clear hb1 HAW
  go_wp2_with (go_at_call 15; refine (HTR.out _ ((HSA.out.below HB1.out).more HB1.out.size)).mono ?_; rintro e w2 ⟨t, rfl, hok, hb2⟩; refine Hid.out ?_)
  refine Lib.hid ?_
  have hg := hok.good
  have hkk := hok.kind
  have hpf := hok.pfx
  have hsm := hok.small
  obtain ⟨tk, TN, TA, tb, hsh, htt⟩ := trigA_shape t
  rw [hsh]
  rw [htt] at hg hkk hpf hsm
  have hkk : tk = kd % 7 := hkk
  rw [← hkk] at hpf
  have htk : tk = 0 ∨ tk = 1 ∨ tk = 2 ∨ tk = 3 ∨ tk = 4 ∨ tk = 5 ∨ tk = 6 := by have := HKB.out; omega
  simp only [toT, Array.length_toList] at hsm
  have hNs : TN.size ≤ 254 := hsm.1
  have hAs : TA.size ≤ 16 := hsm.2
  obtain ⟨L, hLe⟩ : ∃ L, L = labT (toT tk TN TA tb) := ⟨_, rfl⟩
  have hLl : L.length ≤ 256 := by rw [hLe]; exact labT_len _
  obtain ⟨NB, hNB⟩ : ∃ N, N = baL (wire L) := ⟨_, rfl⟩
  have hNBd : NB.data.toList = wire L := by rw [hNB]; simp [baL]
  have hNBs : NB.size ≤ 254 := by
    have h := hg.ok.2
    rw [← hLe] at h
    have : NB.size = NB.data.toList.length := by simp
    rw [hNBd] at this
    omega
  have henc := fun w h => encode_any tk TN TA tb w (by omega) (by omega) h
  have hencR : encR (toT tk TN TA tb) = some (wire L) := by rw [hLe]; exact hg.enc
  have hencR' : encR ⟨tk, TN.data.toList, TA.data.toList, tb⟩ = some (wire L) := hencR
  have hdec := fun w h => decode_any NB w (by omega) h
  have hdecR : decR NB.data.toList = some (toT tk TN TA tb) := by rw [hNBd, hLe]; exact hg.dec'
  have hlab := fun w => labels_any NB w (by unfold maxLen; omega)
  have hlabO : labelsOf NB = some L := by
    show nameLabels NB.data.toList = some L
    rw [hNBd, hLe]; exact hg.labels
  have hlabL : labelsL NB = L := by unfold labelsL; rw [hlabO]; rfl
  rw [hlabO, hlabL] at hlab
  have hencV : encV (some (wire L)) = .tuple #[.string NB, .bool true] := by rw [hNB]; rfl
  have hdecV : trigV (some (toT tk TN TA tb)) = .tuple #[.agg #[.int .i64 tk, .string TN, .string TA, .int .i64 tb], .bool true] := by
    show Value.tuple #[.agg #[.int .i64 tk, sv TN.data.toList, sv TA.data.toList, .int .i64 tb], .bool true] = _
    rw [sv_bytes, sv_bytes]
  have henc : ∀ w, LaidT w → Calls Tryd.prog 21 #[.agg #[.int .i64 tk, .string TN, .string TA, .int .i64 tb]] w fun e w' => e = .returned (.tuple #[.string NB, .bool true]) ∧ Below w.heap.size w w' := by
    intro w h
    have := henc w h
    rw [hencR, hencV] at this
    exact this
  have hdec : ∀ w, LaidT w → Calls Tryd.prog 22 #[.string NB] w fun e w' => e = .returned (.tuple #[.agg #[.int .i64 tk, .string TN, .string TA, .int .i64 tb], .bool true]) ∧ Below w.heap.size w w' := by
    intro w h
    have := hdec w h
    rw [hdecR, hdecV] at this
    exact this
  have hteq := fun w => trig_eql tk tk TN TN TA TA tb tb w
  simp only [trigEq_iff, decide_true] at hteq
  have HENC := Lib.hid henc
  have HDEC := Lib.hid hdec
  have HLAB := Lib.hid hlab
  have HLE := Lib.hid hLe
  have HPF := Lib.hid hpf
  have HTEQ := Lib.hid hteq
  have hB2 := HB1.out.trans (hb2.mono HB1.out.size)
  have hC3 := Cs.new w2 #[.int .i64 tk, .string TN, .string TA, .int .i64 tb] 29 _
  have hB3 := hB2.alloc hB2.size (.cells #[.int .i64 tk, .string TN, .string TA, .int .i64 tb] 29)
  have HC3 := Lib.hid hC3
  have HB3 := Lib.hid hB3
  have HL3 := Lib.hid (HL0.out.below hB3 (Nat.le_refl _))
  clear hg hkk hpf hsm hsh htt hLe hNB hNBd henc hencR hencR' hdec hdecR hlab hlabO hlabL hencV hdecV hteq hB2 hC3 hB3 hb2 hok HB1 HTR HSA HKB
  go_upto_region 4 with fail
  generalize w2.alloc (.cells #[.int .i64 tk, .string TN, .string TA, .int .i64 tb] 29) = W3 at HL3 HC3 HB3 ⊢
  generalize w2.heap.size = P9 at HC3 ⊢
  have c0 := HC3.out.get 0 (.int .i64 tk)
  have c1 := HC3.out.get 1 (.string TN)
  have c2 := HC3.out.get 2 (.string TA)
  have c3 := HC3.out.get 3 (.int .i64 tb)
  go_wp2_with (go_at_call 21; refine (HENC.out _ HL3.out).mono ?_; rintro e w4 ⟨rfl, hb4⟩; refine Hid.out ?_)
  refine Lib.hid ?_
  have HC4 := Lib.hid (HC3.out.below hb4)
  have HB4 := Lib.hid (HB3.out.trans (hb4.mono HB3.out.size))
  have HL4 := Lib.hid (HL3.out.below hb4 (Nat.le_refl _))
  clear c0 c1 c2 c3 hb4 HC3 HB3 HL3 HENC
  go_wp2_with (go_at_call 22; refine (HDEC.out _ HL4.out).mono ?_; rintro e w5 ⟨rfl, hb5⟩; refine Hid.out ?_)
  refine Lib.hid ?_
  have hB5 := HB4.out.trans (hb5.mono HB4.out.size)
  have HB6 := Lib.hid (hB5.alloc hB5.size (.cells #[.int .i64 tk, .string TN, .string TA, .int .i64 tb] 29))
  have HC6 := Lib.hid ((HC4.out.below hb5).alloc (.cells #[.int .i64 tk, .string TN, .string TA, .int .i64 tb] 29))
  have HD6 := Lib.hid (Cs.new w5 #[.int .i64 tk, .string TN, .string TA, .int .i64 tb] 29 [.int .i64 tk, .string TN, .string TA, .int .i64 tb])
  clear hb5 hB5 HC4 HB4 HL4 HDEC
  go_upto_region 6 with fail
  generalize w5.alloc (.cells #[.int .i64 tk, .string TN, .string TA, .int .i64 tb] 29) = W6 at HB6 HC6 HD6 ⊢
  generalize w5.heap.size = P12 at HD6 ⊢
  go_wp2_with (go_at_call 23; refine (HLAB.out _).mono ?_; rintro e w7 ⟨v7, rfl, hbuf⟩; refine Hid.out ?_)
  refine Lib.hid ?_
  have HB7 := Lib.hid (HB6.out.trans (hbuf.below.mono HB6.out.size))
  have HC7 := Lib.hid (HC6.out.below hbuf.below)
  have HD7 := Lib.hid (HD6.out.below hbuf.below)
  obtain ⟨A7, c7, rfl, hb1, hb2, hb3⟩ := hbuf.slice
  have HSL7 := Lib.hid hbuf.sl
  obtain ⟨q, hq⟩ : ∃ q, q = L.length := ⟨_, rfl⟩
  rw [← hq] at hLl HSL7 hb1 ⊢
  have HQ := Lib.hid hq
  clear hbuf hb3 hq HC6 HD6 HB6 HLAB HL0
  rcases htk with rfl | rfl | rfl | rfl | rfl | rfl | rfl
  · have HM := Lib.hid (HPF.out (by omega)).1
    have HLP := Lib.hid (fun w => labels13_any TA tb HM.out w)
    have hLk : L = prefixR TA.data.toList tb ++ [cClient] := HLE.out
    have h9 : (prefixR TA.data.toList tb).length ≤ 9 := prefixR_len _ _
    obtain ⟨PX, hPX⟩ : ∃ PX, PX = prefixR TA.data.toList tb := ⟨_, rfl⟩
    rw [← hPX] at hLk h9 HLP
    have HLK := Lib.hid hLk
    clear hPX hLk HPF HLE
    have c0 := HC7.out.get 0 (.int .i64 0)
    have c1 := HC7.out.get 1 (.string TN)
    have c2 := HC7.out.get 2 (.string TA)
    have c3 := HC7.out.get 3 (.int .i64 tb)
    have d0 := HD7.out.get 0 (.int .i64 0)
    have d1 := HD7.out.get 1 (.string TN)
    have d2 := HD7.out.get 2 (.string TA)
    have d3 := HD7.out.get 3 (.int .i64 tb)
    go_wp2_with (go_at_call 19; refine (HLP.out _).mono ?_; rintro e w8 ⟨v8, rfl, hb8⟩; refine Hid.out ?_)
    refine Lib.hid ?_
    have HB8 := Lib.hid hb8.bel
    clear c0 c1 c2 c3 d0 d1 d2 d3
    go_wp2_with (at_builtin; go_loud (refine wpList_append_ob rfl _ _ 31 31 rfl 9 i0 _ 16 Tryd.underlying31 hi hz0 hz1 hz2 rfl (hb8.alloc _) rfl rfl (src_one w8 Tryd.underlying31 _ _) ?c1 ?c2 ?_))
    case c1 => unfold maxLen; omega
    case c2 => omega
    intro v9 w9 hb9 _ _ _
    have hb9 : OB w7.heap.size w7 v9 q (L.map sv) w9 := by rw [HQ.out, HLK.out, List.length_append, List.map_append]; exact hb9
    obtain ⟨A9, c9, rfl, hd1, hd2, hd3⟩ := hb9.slice
    have hsame := same13_any A7 A9 q c7 q c9 (L.map baL) (L.map baL) w9 (by rw [baL_strings]; exact HSL7.out.below hb9.bel) (by rw [baL_strings]; exact hb9.sl) (by unfold maxLen; omega) (by unfold maxLen; omega)
    rw [decide_eq_true rfl] at hsame
    have HSAME := Lib.hid hsame
    have HB9 := Lib.hid (HB7.out.trans (hb9.bel.mono HB7.out.size))
    have hC9 := HC7.out.below hb9.bel
    have hD9 := HD7.out.below hb9.bel
    have hteq := HTEQ.out
    have c0 := hC9.get 0 (.int .i64 0)
    have c1 := hC9.get 1 (.string TN)
    have c2 := hC9.get 2 (.string TA)
    have c3 := hC9.get 3 (.int .i64 tb)
    have d0 := hD9.get 0 (.int .i64 0)
    have d1 := hD9.get 1 (.string TN)
    have d2 := hD9.get 2 (.string TA)
    have d3 := hD9.get 3 (.int .i64 tb)
    clear hsame hb9 hd3 hC9 hD9 HC7 HD7 HB7 HSL7
    go_wp2_with (go_at_call 18; refine HSAME.out.mono ?_; rintro e w10 ⟨rfl, k10, rfl⟩)
    go_ret
    exact ⟨rfl, HB9.out.trans ((drewN_below _ k10).mono HB9.out.size)⟩
  · have HLN := Lib.hid (fun w => labels_any TN w (by unfold maxLen; omega))
    obtain ⟨X, hX⟩ : ∃ X, X = labelsL TN := ⟨_, rfl⟩
    have hXl : X.length ≤ 254 := by rw [hX]; exact labels_len TN
    have hLk : L = X := by rw [HLE.out, hX]; rfl
    rw [← hX] at HLN
    have HLK := Lib.hid hLk
    clear hX hLk HPF HLE
    have c0 := HC7.out.get 0 (.int .i64 1)
    have c1 := HC7.out.get 1 (.string TN)
    have c2 := HC7.out.get 2 (.string TA)
    have c3 := HC7.out.get 3 (.int .i64 tb)
    have d0 := HD7.out.get 0 (.int .i64 1)
    have d1 := HD7.out.get 1 (.string TN)
    have d2 := HD7.out.get 2 (.string TA)
    have d3 := HD7.out.get 3 (.int .i64 tb)
    go_wp2_with (go_at_call 23; refine (HLN.out _).mono ?_; rintro e w8 ⟨v8, rfl, hbuf8⟩; refine Hid.out ?_)
    refine Lib.hid ?_
    have HB8 := Lib.hid hbuf8.below
    have hC8 := HC7.out.below hbuf8.below
    have hD8 := HD7.out.below hbuf8.below
    have hob8 := OB.of_buf hbuf8
    clear c0 c1 c2 c3 d0 d1 d2 d3
    have c0 := hC8.get 0 (.int .i64 1)
    have c1 := hC8.get 1 (.string TN)
    have c2 := hC8.get 2 (.string TA)
    have c3 := hC8.get 3 (.int .i64 tb)
    have d0 := hD8.get 0 (.int .i64 1)
    have d1 := hD8.get 1 (.string TN)
    have d2 := hD8.get 2 (.string TA)
    have d3 := hD8.get 3 (.int .i64 tb)
    have hb9 : OB w7.heap.size w7 v8 q (L.map sv) w8 := by rw [HQ.out, HLK.out]; exact hob8
    clear c0 c1 c2 c3 d0 d1 d2 d3 hC8 hD8 hbuf8 hob8
    obtain ⟨A9, c9, rfl, hd1, hd2, hd3⟩ := hb9.slice
    have hsame := same13_any A7 A9 q c7 q c9 (L.map baL) (L.map baL) w8 (by rw [baL_strings]; exact HSL7.out.below hb9.bel) (by rw [baL_strings]; exact hb9.sl) (by unfold maxLen; omega) (by unfold maxLen; omega)
    rw [decide_eq_true rfl] at hsame
    have HSAME := Lib.hid hsame
    have HB9 := Lib.hid (HB7.out.trans (hb9.bel.mono HB7.out.size))
    have hC9 := HC7.out.below hb9.bel
    have hD9 := HD7.out.below hb9.bel
    have hteq := HTEQ.out
    have c0 := hC9.get 0 (.int .i64 1)
    have c1 := hC9.get 1 (.string TN)
    have c2 := hC9.get 2 (.string TA)
    have c3 := hC9.get 3 (.int .i64 tb)
    have d0 := hD9.get 0 (.int .i64 1)
    have d1 := hD9.get 1 (.string TN)
    have d2 := hD9.get 2 (.string TA)
    have d3 := hD9.get 3 (.int .i64 tb)
    clear hsame hb9 hd3 hC9 hD9 HC7 HD7 HB7 HSL7
    go_wp2_with (go_at_call 18; refine HSAME.out.mono ?_; rintro e w10 ⟨rfl, k10, rfl⟩)
    go_ret
    exact ⟨rfl, HB9.out.trans ((drewN_below _ k10).mono HB9.out.size)⟩
  · have HLN := Lib.hid (fun w => labels_any TN w (by unfold maxLen; omega))
    obtain ⟨X, hX⟩ : ∃ X, X = labelsL TN := ⟨_, rfl⟩
    have hXl : X.length ≤ 254 := by rw [hX]; exact labels_len TN
    have hLk : L = star :: X := by rw [HLE.out, hX]; rfl
    rw [← hX] at HLN
    have HLK := Lib.hid hLk
    clear hX hLk HPF HLE
    have c0 := HC7.out.get 0 (.int .i64 2)
    have c1 := HC7.out.get 1 (.string TN)
    have c2 := HC7.out.get 2 (.string TA)
    have c3 := HC7.out.get 3 (.int .i64 tb)
    have d0 := HD7.out.get 0 (.int .i64 2)
    have d1 := HD7.out.get 1 (.string TN)
    have d2 := HD7.out.get 2 (.string TA)
    have d3 := HD7.out.get 3 (.int .i64 tb)
    go_wp2_with (go_at_call 23; refine (HLN.out _).mono ?_; rintro e w8 ⟨v8, rfl, hbuf8⟩; refine Hid.out ?_)
    refine Lib.hid ?_
    have HB8 := Lib.hid hbuf8.below
    have hC8 := HC7.out.below hbuf8.below
    have hD8 := HD7.out.below hbuf8.below
    have hob8 := OB.of_buf hbuf8
    clear c0 c1 c2 c3 d0 d1 d2 d3
    have c0 := hC8.get 0 (.int .i64 2)
    have c1 := hC8.get 1 (.string TN)
    have c2 := hC8.get 2 (.string TA)
    have c3 := hC8.get 3 (.int .i64 tb)
    have d0 := hD8.get 0 (.int .i64 2)
    have d1 := hD8.get 1 (.string TN)
    have d2 := hD8.get 2 (.string TA)
    have d3 := hD8.get 3 (.int .i64 tb)
    obtain ⟨A8, c8, rfl, hx1, hx2, hx3⟩ := hbuf8.slice
    have HSL8 := Lib.hid hbuf8.sl
    have HN8 := Lib.hid hx3
    clear hC8 hD8 hbuf8 hob8 hx3
    have hst := OB.fresh HB8.out HB8.out.size #[.string ⟨#[42]⟩] 9 1 [.string ⟨#[42]⟩] rfl rfl (by decide)
    have hsrc := Sl.src (P := Tryd.prog) (c := c8) Tryd.underlying31 (HSL8.out.alloc (Nat.le_refl _) (.cells #[.string ⟨#[42]⟩] 9)) (fun h => (HN8.out h).1) (by intro u hu; obtain ⟨x, _, rfl⟩ := List.mem_map.1 hu; rfl)
    go_wp2_with (at_builtin; go_loud (refine wpList_append_ob rfl _ _ 31 31 rfl 9 i0 _ 16 Tryd.underlying31 hi hz0 hz1 hz2 rfl hst rfl rfl hsrc ?c1 ?c2 ?_))
    case c1 => unfold maxLen; omega
    case c2 => omega
    intro v9 w9 hb9 _ _ _
    have hbb := hb9.bel
    have hb9 : OB w7.heap.size w7 v9 q (L.map sv) w9 := by rw [HQ.out, HLK.out, List.length_cons, Nat.add_comm]; exact hb9
    clear c0 c1 c2 c3 d0 d1 d2 d3 hst hsrc hbb
    obtain ⟨A9, c9, rfl, hd1, hd2, hd3⟩ := hb9.slice
    have hsame := same13_any A7 A9 q c7 q c9 (L.map baL) (L.map baL) w9 (by rw [baL_strings]; exact HSL7.out.below hb9.bel) (by rw [baL_strings]; exact hb9.sl) (by unfold maxLen; omega) (by unfold maxLen; omega)
    rw [decide_eq_true rfl] at hsame
    have HSAME := Lib.hid hsame
    have HB9 := Lib.hid (HB7.out.trans (hb9.bel.mono HB7.out.size))
    have hC9 := HC7.out.below hb9.bel
    have hD9 := HD7.out.below hb9.bel
    have hteq := HTEQ.out
    have c0 := hC9.get 0 (.int .i64 2)
    have c1 := hC9.get 1 (.string TN)
    have c2 := hC9.get 2 (.string TA)
    have c3 := hC9.get 3 (.int .i64 tb)
    have d0 := hD9.get 0 (.int .i64 2)
    have d1 := hD9.get 1 (.string TN)
    have d2 := hD9.get 2 (.string TA)
    have d3 := hD9.get 3 (.int .i64 tb)
    clear hsame hb9 hd3 hC9 hD9 HC7 HD7 HB7 HSL7
    go_wp2_with (go_at_call 18; refine HSAME.out.mono ?_; rintro e w10 ⟨rfl, k10, rfl⟩)
    go_ret
    exact ⟨rfl, HB9.out.trans ((drewN_below _ k10).mono HB9.out.size)⟩
  · have HM := Lib.hid (HPF.out (by omega)).1
    have HLP := Lib.hid (fun w => labels13_any TA tb HM.out w)
    have hLk : L = prefixR TA.data.toList tb ++ [cAnswer] := HLE.out
    have h9 : (prefixR TA.data.toList tb).length ≤ 9 := prefixR_len _ _
    obtain ⟨PX, hPX⟩ : ∃ PX, PX = prefixR TA.data.toList tb := ⟨_, rfl⟩
    rw [← hPX] at hLk h9 HLP
    have HLK := Lib.hid hLk
    clear hPX hLk HPF HLE
    have c0 := HC7.out.get 0 (.int .i64 3)
    have c1 := HC7.out.get 1 (.string TN)
    have c2 := HC7.out.get 2 (.string TA)
    have c3 := HC7.out.get 3 (.int .i64 tb)
    have d0 := HD7.out.get 0 (.int .i64 3)
    have d1 := HD7.out.get 1 (.string TN)
    have d2 := HD7.out.get 2 (.string TA)
    have d3 := HD7.out.get 3 (.int .i64 tb)
    go_wp2_with (go_at_call 19; refine (HLP.out _).mono ?_; rintro e w8 ⟨v8, rfl, hb8⟩; refine Hid.out ?_)
    refine Lib.hid ?_
    have HB8 := Lib.hid hb8.bel
    clear c0 c1 c2 c3 d0 d1 d2 d3
    go_wp2_with (at_builtin; go_loud (refine wpList_append_ob rfl _ _ 31 31 rfl 9 i0 _ 16 Tryd.underlying31 hi hz0 hz1 hz2 rfl (hb8.alloc _) rfl rfl (src_one w8 Tryd.underlying31 _ _) ?c1 ?c2 ?_))
    case c1 => unfold maxLen; omega
    case c2 => omega
    intro v9 w9 hb9 _ _ _
    have hb9 : OB w7.heap.size w7 v9 q (L.map sv) w9 := by rw [HQ.out, HLK.out, List.length_append, List.map_append]; exact hb9
    obtain ⟨A9, c9, rfl, hd1, hd2, hd3⟩ := hb9.slice
    have hsame := same13_any A7 A9 q c7 q c9 (L.map baL) (L.map baL) w9 (by rw [baL_strings]; exact HSL7.out.below hb9.bel) (by rw [baL_strings]; exact hb9.sl) (by unfold maxLen; omega) (by unfold maxLen; omega)
    rw [decide_eq_true rfl] at hsame
    have HSAME := Lib.hid hsame
    have HB9 := Lib.hid (HB7.out.trans (hb9.bel.mono HB7.out.size))
    have hC9 := HC7.out.below hb9.bel
    have hD9 := HD7.out.below hb9.bel
    have hteq := HTEQ.out
    have c0 := hC9.get 0 (.int .i64 3)
    have c1 := hC9.get 1 (.string TN)
    have c2 := hC9.get 2 (.string TA)
    have c3 := hC9.get 3 (.int .i64 tb)
    have d0 := hD9.get 0 (.int .i64 3)
    have d1 := hD9.get 1 (.string TN)
    have d2 := hD9.get 2 (.string TA)
    have d3 := hD9.get 3 (.int .i64 tb)
    clear hsame hb9 hd3 hC9 hD9 HC7 HD7 HB7 HSL7
    go_wp2_with (go_at_call 18; refine HSAME.out.mono ?_; rintro e w10 ⟨rfl, k10, rfl⟩)
    go_ret
    exact ⟨rfl, HB9.out.trans ((drewN_below _ k10).mono HB9.out.size)⟩
  · have HLN := Lib.hid (fun w => labels_any TN w (by unfold maxLen; omega))
    obtain ⟨X, hX⟩ : ∃ X, X = labelsL TN := ⟨_, rfl⟩
    have hXl : X.length ≤ 254 := by rw [hX]; exact labels_len TN
    have hLk : L = X ++ [cNsname] := by rw [HLE.out, hX]; rfl
    rw [← hX] at HLN
    have HLK := Lib.hid hLk
    clear hX hLk HPF HLE
    have c0 := HC7.out.get 0 (.int .i64 4)
    have c1 := HC7.out.get 1 (.string TN)
    have c2 := HC7.out.get 2 (.string TA)
    have c3 := HC7.out.get 3 (.int .i64 tb)
    have d0 := HD7.out.get 0 (.int .i64 4)
    have d1 := HD7.out.get 1 (.string TN)
    have d2 := HD7.out.get 2 (.string TA)
    have d3 := HD7.out.get 3 (.int .i64 tb)
    go_wp2_with (go_at_call 23; refine (HLN.out _).mono ?_; rintro e w8 ⟨v8, rfl, hbuf8⟩; refine Hid.out ?_)
    refine Lib.hid ?_
    have HB8 := Lib.hid hbuf8.below
    have hC8 := HC7.out.below hbuf8.below
    have hD8 := HD7.out.below hbuf8.below
    have hob8 := OB.of_buf hbuf8
    clear c0 c1 c2 c3 d0 d1 d2 d3
    have c0 := hC8.get 0 (.int .i64 4)
    have c1 := hC8.get 1 (.string TN)
    have c2 := hC8.get 2 (.string TA)
    have c3 := hC8.get 3 (.int .i64 tb)
    have d0 := hD8.get 0 (.int .i64 4)
    have d1 := hD8.get 1 (.string TN)
    have d2 := hD8.get 2 (.string TA)
    have d3 := hD8.get 3 (.int .i64 tb)
    obtain ⟨A8, c8, rfl, hx1, hx2, hx3⟩ := hbuf8.slice
    have HSL8 := Lib.hid hbuf8.sl
    have HN8 := Lib.hid hx3
    clear hC8 hD8 hbuf8 hob8 hx3
    have hsrc := Sl.src (P := Tryd.prog) (c := c8) Tryd.underlying31 HSL8.out (fun h => (HN8.out h).1) (by intro u hu; obtain ⟨x, _, rfl⟩ := List.mem_map.1 hu; rfl)
    have hnil := OB.nil HB8.out HB8.out.size
    go_wp2_with (at_builtin; go_loud (refine wpList_append_ob rfl _ _ 31 31 rfl 9 i0 _ 16 Tryd.underlying31 hi hz0 hz1 hz2 rfl hnil rfl rfl hsrc ?c1 ?c2 ?_))
    case c1 => unfold maxLen; omega
    case c2 => omega
    intro v10 w10 hb10 _ _ _
    clear hsrc hnil
    go_wp2_with (at_builtin; go_loud (refine wpList_append_ob rfl _ _ 31 31 rfl 9 i0 _ 16 Tryd.underlying31 hi hz0 hz1 hz2 rfl (hb10.alloc _) rfl rfl (src_one w10 Tryd.underlying31 _ _) ?c1 ?c2 ?_))
    case c1 => unfold maxLen; omega
    case c2 => omega
    intro v11 w11 hb11 _ _ _
    clear c0 c1 c2 c3 d0 d1 d2 d3
    have hb11 : OB w7.heap.size w7 v11 q (L.map sv) w11 := by
      rw [HQ.out, HLK.out, List.length_append, List.map_append]
      have := hb11
      first
      | exact this
      | (simp only [Nat.zero_add, List.nil_append] at this; exact this)
    obtain ⟨A9, c9, rfl, hd1, hd2, hd3⟩ := hb11.slice
    have hsame := same13_any A7 A9 q c7 q c9 (L.map baL) (L.map baL) w11 (by rw [baL_strings]; exact HSL7.out.below hb11.bel) (by rw [baL_strings]; exact hb11.sl) (by unfold maxLen; omega) (by unfold maxLen; omega)
    rw [decide_eq_true rfl] at hsame
    have HSAME := Lib.hid hsame
    have HB9 := Lib.hid (HB7.out.trans (hb11.bel.mono HB7.out.size))
    have hC9 := HC7.out.below hb11.bel
    have hD9 := HD7.out.below hb11.bel
    have hteq := HTEQ.out
    have c0 := hC9.get 0 (.int .i64 4)
    have c1 := hC9.get 1 (.string TN)
    have c2 := hC9.get 2 (.string TA)
    have c3 := hC9.get 3 (.int .i64 tb)
    have d0 := hD9.get 0 (.int .i64 4)
    have d1 := hD9.get 1 (.string TN)
    have d2 := hD9.get 2 (.string TA)
    have d3 := hD9.get 3 (.int .i64 tb)
    clear hsame hb11 hd3 hC9 hD9 HC7 HD7 HB7 HSL7
    go_wp2_with (go_at_call 18; refine HSAME.out.mono ?_; rintro e w10 ⟨rfl, k10, rfl⟩)
    go_ret
    exact ⟨rfl, HB9.out.trans ((drewN_below _ k10).mono HB9.out.size)⟩
  · have HLN := Lib.hid (fun w => labels_any TN w (by unfold maxLen; omega))
    obtain ⟨X, hX⟩ : ∃ X, X = labelsL TN := ⟨_, rfl⟩
    have hXl : X.length ≤ 254 := by rw [hX]; exact labels_len TN
    have hLk : L = star :: (X ++ [cNsname]) := by rw [HLE.out, hX]; rfl
    rw [← hX] at HLN
    have HLK := Lib.hid hLk
    clear hX hLk HPF HLE
    have c0 := HC7.out.get 0 (.int .i64 5)
    have c1 := HC7.out.get 1 (.string TN)
    have c2 := HC7.out.get 2 (.string TA)
    have c3 := HC7.out.get 3 (.int .i64 tb)
    have d0 := HD7.out.get 0 (.int .i64 5)
    have d1 := HD7.out.get 1 (.string TN)
    have d2 := HD7.out.get 2 (.string TA)
    have d3 := HD7.out.get 3 (.int .i64 tb)
    go_wp2_with (go_at_call 23; refine (HLN.out _).mono ?_; rintro e w8 ⟨v8, rfl, hbuf8⟩; refine Hid.out ?_)
    refine Lib.hid ?_
    have HB8 := Lib.hid hbuf8.below
    have hC8 := HC7.out.below hbuf8.below
    have hD8 := HD7.out.below hbuf8.below
    have hob8 := OB.of_buf hbuf8
    clear c0 c1 c2 c3 d0 d1 d2 d3
    have c0 := hC8.get 0 (.int .i64 5)
    have c1 := hC8.get 1 (.string TN)
    have c2 := hC8.get 2 (.string TA)
    have c3 := hC8.get 3 (.int .i64 tb)
    have d0 := hD8.get 0 (.int .i64 5)
    have d1 := hD8.get 1 (.string TN)
    have d2 := hD8.get 2 (.string TA)
    have d3 := hD8.get 3 (.int .i64 tb)
    obtain ⟨A8, c8, rfl, hx1, hx2, hx3⟩ := hbuf8.slice
    have HSL8 := Lib.hid hbuf8.sl
    have HN8 := Lib.hid hx3
    clear hC8 hD8 hbuf8 hob8 hx3
    have hst := OB.fresh HB8.out HB8.out.size #[.string ⟨#[42]⟩] 9 1 [.string ⟨#[42]⟩] rfl rfl (by decide)
    have hsrc := Sl.src (P := Tryd.prog) (c := c8) Tryd.underlying31 (HSL8.out.alloc (Nat.le_refl _) (.cells #[.string ⟨#[42]⟩] 9)) (fun h => (HN8.out h).1) (by intro u hu; obtain ⟨x, _, rfl⟩ := List.mem_map.1 hu; rfl)
    go_wp2_with (at_builtin; go_loud (refine wpList_append_ob rfl _ _ 31 31 rfl 9 i0 _ 16 Tryd.underlying31 hi hz0 hz1 hz2 rfl hst rfl rfl hsrc ?c1 ?c2 ?_))
    case c1 => unfold maxLen; omega
    case c2 => omega
    intro v9 w9 hb9 _ _ _
    have hbb := hb9.bel
    clear c0 c1 c2 c3 d0 d1 d2 d3 hst hsrc
    have hC9 := HC7.out.below hbb
    have hD9 := HD7.out.below hbb
    have c0 := hC9.get 0 (.int .i64 5)
    have c1 := hC9.get 1 (.string TN)
    have c2 := hC9.get 2 (.string TA)
    have c3 := hC9.get 3 (.int .i64 tb)
    have d0 := hD9.get 0 (.int .i64 5)
    have d1 := hD9.get 1 (.string TN)
    have d2 := hD9.get 2 (.string TA)
    have d3 := hD9.get 3 (.int .i64 tb)
    clear hC9 hD9
    have hb9 : OB w7.heap.size w7 v9 (X.length + 1) ((star :: X).map sv) w9 := by rw [Nat.add_comm]; exact hb9
    obtain ⟨A9, c9, rfl, hy1, hy2, hy3⟩ := hb9.slice
    have HSL9 := Lib.hid hb9.sl
    have HN9 := Lib.hid hy3
    clear hy3 hb9
    have hsrc := Sl.src (P := Tryd.prog) (c := c9) Tryd.underlying31 HSL9.out (fun h => (HN9.out h).1) (by intro u hu; obtain ⟨x, _, rfl⟩ := List.mem_map.1 hu; rfl)
    have hnil := OB.nil hbb hbb.size
    go_wp2_with (at_builtin; go_loud (refine wpList_append_ob rfl _ _ 31 31 rfl 9 i0 _ 16 Tryd.underlying31 hi hz0 hz1 hz2 rfl hnil rfl rfl hsrc ?c1 ?c2 ?_))
    case c1 => unfold maxLen; omega
    case c2 => omega
    intro v10 w10 hb10 _ _ _
    clear hsrc hnil
    go_wp2_with (at_builtin; go_loud (refine wpList_append_ob rfl _ _ 31 31 rfl 9 i0 _ 16 Tryd.underlying31 hi hz0 hz1 hz2 rfl (hb10.alloc _) rfl rfl (src_one w10 Tryd.underlying31 _ _) ?c1 ?c2 ?_))
    case c1 => unfold maxLen; omega
    case c2 => omega
    intro v11 w11 hb11 _ _ _
    clear c0 c1 c2 c3 d0 d1 d2 d3
    have hb11 : OB w7.heap.size w7 v11 q (L.map sv) w11 := by
      have e : L = (star :: X) ++ [cNsname] := HLK.out
      rw [HQ.out, e, List.length_append, List.map_append]
      have := hb11
      first
      | exact this
      | (simp only [Nat.zero_add, List.nil_append] at this; exact this)
    obtain ⟨A9, c9, rfl, hd1, hd2, hd3⟩ := hb11.slice
    have hsame := same13_any A7 A9 q c7 q c9 (L.map baL) (L.map baL) w11 (by rw [baL_strings]; exact HSL7.out.below hb11.bel) (by rw [baL_strings]; exact hb11.sl) (by unfold maxLen; omega) (by unfold maxLen; omega)
    rw [decide_eq_true rfl] at hsame
    have HSAME := Lib.hid hsame
    have HB9 := Lib.hid (HB7.out.trans (hb11.bel.mono HB7.out.size))
    have hC9 := HC7.out.below hb11.bel
    have hD9 := HD7.out.below hb11.bel
    have hteq := HTEQ.out
    have c0 := hC9.get 0 (.int .i64 5)
    have c1 := hC9.get 1 (.string TN)
    have c2 := hC9.get 2 (.string TA)
    have c3 := hC9.get 3 (.int .i64 tb)
    have d0 := hD9.get 0 (.int .i64 5)
    have d1 := hD9.get 1 (.string TN)
    have d2 := hD9.get 2 (.string TA)
    have d3 := hD9.get 3 (.int .i64 tb)
    clear hsame hb11 hd3 hC9 hD9 HC7 HD7 HB7 HSL7
    go_wp2_with (go_at_call 18; refine HSAME.out.mono ?_; rintro e w10 ⟨rfl, k10, rfl⟩)
    go_ret
    exact ⟨rfl, HB9.out.trans ((drewN_below _ k10).mono HB9.out.size)⟩
  · have HM := Lib.hid (HPF.out (by omega)).1
    have HLP := Lib.hid (fun w => labels13_any TA tb HM.out w)
    have hLk : L = prefixR TA.data.toList tb ++ [cNsip] := HLE.out
    have h9 : (prefixR TA.data.toList tb).length ≤ 9 := prefixR_len _ _
    obtain ⟨PX, hPX⟩ : ∃ PX, PX = prefixR TA.data.toList tb := ⟨_, rfl⟩
    rw [← hPX] at hLk h9 HLP
    have HLK := Lib.hid hLk
    clear hPX hLk HPF HLE
    have c0 := HC7.out.get 0 (.int .i64 6)
    have c1 := HC7.out.get 1 (.string TN)
    have c2 := HC7.out.get 2 (.string TA)
    have c3 := HC7.out.get 3 (.int .i64 tb)
    have d0 := HD7.out.get 0 (.int .i64 6)
    have d1 := HD7.out.get 1 (.string TN)
    have d2 := HD7.out.get 2 (.string TA)
    have d3 := HD7.out.get 3 (.int .i64 tb)
    go_wp2_with (go_at_call 19; refine (HLP.out _).mono ?_; rintro e w8 ⟨v8, rfl, hb8⟩; refine Hid.out ?_)
    refine Lib.hid ?_
    have HB8 := Lib.hid hb8.bel
    clear c0 c1 c2 c3 d0 d1 d2 d3
    go_wp2_with (at_builtin; go_loud (refine wpList_append_ob rfl _ _ 31 31 rfl 9 i0 _ 16 Tryd.underlying31 hi hz0 hz1 hz2 rfl (hb8.alloc _) rfl rfl (src_one w8 Tryd.underlying31 _ _) ?c1 ?c2 ?_))
    case c1 => unfold maxLen; omega
    case c2 => omega
    intro v9 w9 hb9 _ _ _
    have hb9 : OB w7.heap.size w7 v9 q (L.map sv) w9 := by rw [HQ.out, HLK.out, List.length_append, List.map_append]; exact hb9
    obtain ⟨A9, c9, rfl, hd1, hd2, hd3⟩ := hb9.slice
    have hsame := same13_any A7 A9 q c7 q c9 (L.map baL) (L.map baL) w9 (by rw [baL_strings]; exact HSL7.out.below hb9.bel) (by rw [baL_strings]; exact hb9.sl) (by unfold maxLen; omega) (by unfold maxLen; omega)
    rw [decide_eq_true rfl] at hsame
    have HSAME := Lib.hid hsame
    have HB9 := Lib.hid (HB7.out.trans (hb9.bel.mono HB7.out.size))
    have hC9 := HC7.out.below hb9.bel
    have hD9 := HD7.out.below hb9.bel
    have hteq := HTEQ.out
    have c0 := hC9.get 0 (.int .i64 6)
    have c1 := hC9.get 1 (.string TN)
    have c2 := hC9.get 2 (.string TA)
    have c3 := hC9.get 3 (.int .i64 tb)
    have d0 := hD9.get 0 (.int .i64 6)
    have d1 := hD9.get 1 (.string TN)
    have d2 := hD9.get 2 (.string TA)
    have d3 := hD9.get 3 (.int .i64 tb)
    clear hsame hb9 hd3 hC9 hD9 HC7 HD7 HB7 HSL7
    go_wp2_with (go_at_call 18; refine HSAME.out.mono ?_; rintro e w10 ⟨rfl, k10, rfl⟩)
    go_ret
    exact ⟨rfl, HB9.out.trans ((drewN_below _ k10).mono HB9.out.size)⟩
end Go.Proofs.YtodpaejakgjblaaDoor
