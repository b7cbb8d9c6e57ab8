/- Texts that walks stand on, one behind the other. -/
import Derived.Test.YtodpaejakgjblaaDoorMgSB
namespace Go.Proofs.YtodpaejakgjblaaDoor
open Go.RowKit
set_option linter.unusedVariables false
set_option linter.unusedSimpArgs false
set_option maxRecDepth 20000
attribute [local simp] putsF isV wordOf Deps Region.binds Region.wanted Act.put wantedX isB
/-- A slice that reads as these bytes. -/
structure Row25 (W : World) (A : Option Addr) (n c : Nat) (l : List UInt8) : Prop where
  sl : Sl W W.heap.size 1 A n (l.map bv)
  none_ : A = none → n = 0
  le : n ≤ 140737488355328
theorem Row25.below {w w' : World} {A : Option Addr} {n c : Nat} {l : List UInt8} (h : Row25 w A n c l) (hb : Below w.heap.size w w') : Row25 w' A n c l := ⟨(h.sl.below hb).more hb.size, h.none_, h.le⟩
theorem dec_no {l : List UInt8} {v : Value} (hv : DecIs l v) (h : decE l = none) : v = .tuple #[.agg #[.int .i64 0, .string ⟨#[]⟩, .string ⟨#[]⟩, .int .u16 0, .int .i64 0, .int .i64 0, .string ⟨#[]⟩, .string ⟨#[]⟩, .int .i64 0, .int .i64 0], .bool false] := by
  obtain ⟨T, C, N, ty, z, tk, TN, TA, tb, ac, ok, rfl, hy, hn⟩ := hv
  cases ok with
  | true => obtain ⟨h1, -⟩ := hy rfl; rw [h] at h1; cases h1
  | false =>
    obtain ⟨_, rfl, rfl, rfl, rfl, rfl, rfl, rfl, rfl, rfl, rfl⟩ := hn rfl
    rfl
theorem zero_ev : toE 0 ⟨#[]⟩ ⟨#[]⟩ 0 0 0 ⟨#[]⟩ ⟨#[]⟩ 0 0 = toE 0 ⟨#[]⟩ ⟨#[]⟩ 0 0 0 ⟨#[]⟩ ⟨#[]⟩ 0 0 := rfl

set_option maxHeartbeats 16000000 in
theorem eventRead_walk (w : World) (hL : LaidT w) (A0 : Option Addr) (n0 c0' : Nat) (zs0 : List Int) (S0 : SlView w A0 n0 c0' (zs0.map (Value.int .u8))) (hl0 : zs0.length = n0) (hw0 : ∀ z ∈ zs0, (Lit.int .u8 z).wf = true) (hc0 : c0' ≤ 140737488351232)
    (wh : Int) (hwh : (Lit.int .u32 wh).wf = true) (A1 : Option Addr) (n1 c1 : Nat) (zs1 : List Int) (S1 : SlView w A1 n1 c1 (zs1.map (Value.int .u8))) (hl1 : zs1.length = n1) (hw1 : ∀ z ∈ zs1, (Lit.int .u8 z).wf = true) (hc1 : c1 ≤ 140737488351232)
    (A2 : Option Addr) (n2 c2 : Nat) (zs2 : List Int) (S2 : SlView w A2 n2 c2 (zs2.map (Value.int .u8))) (hl2 : zs2.length = n2) (hw2 : ∀ z ∈ zs2, (Lit.int .u8 z).wf = true) (hc2 : c2 ≤ 140737488351232)
    (kd : Int) (hkd : (Lit.int .u16 kd).wf = true) (zo : Int) (hzo : (Lit.int .u8 zo).wf = true) (k : Int) (hk : (Lit.int .u8 k).wf = true)
    (A3 : Option Addr) (n3 c3 : Nat) (zs3 : List Int) (S3 : SlView w A3 n3 c3 (zs3.map (Value.int .u8))) (hl3 : zs3.length = n3) (hw3 : ∀ z ∈ zs3, (Lit.int .u8 z).wf = true) (hc3 : c3 ≤ 140737488351232) (six : Bool) (bt : Int) (hbt : (Lit.int .u8 bt).wf = true)
    (ac : Int) (hac : (Lit.int .u8 ac).wf = true)
    (at_ : Int) (hat : (Lit.int .u8 at_).wf = true) (wi : Int) (hwi : (Lit.int .u8 wi).wf = true) :
    Calls Tryd.prog 12 #[.slice A0 n0 c0', .agg #[.int .u32 wh, .slice A1 n1 c1, .slice A2 n2 c2, .int .u16 kd, .int .u8 zo, .int .u8 k, .slice A3 n3 c3, .bool six, .int .u8 bt, .int .u8 ac], .int .u8 at_, .int .u8 wi] w fun e w' => e = .returned (.bool true) ∧ Below w.heap.size w w' := by
  obtain ⟨i0, hi, hz0, hz1, hz2⟩ := info_parts num_info
  have hab := bounds_u8 hat
  have hwb := bounds_u8 hwi
  obtain ⟨l0, hl0'⟩ : ∃ l : List UInt8, zs0.map (Value.int .u8) = l.map bv := bytes_of zs0 hw0
  have hrow0 : Row25 w A0 n0 c0' l0 := ⟨by rw [← hl0']; exact S0.sl, fun h => (S0.none_ h).1, by have := S0.le; omega⟩
  have HMK := Lib.hid (make25_arg w wh hwh A1 n1 c1 zs1 S1 hl1 hw1 hc1 A2 n2 c2 zs2 S2 hl2 hw2 hc2 kd hkd zo hzo k hk A3 n3 c3 zs3 S3 hl3 hw3 hc3 six bt hbt ac hac)
  have HR0 := Lib.hid hrow0
  obtain ⟨W0, hW0⟩ : ∃ W0, W0 = w.alloc (.cells #[.int .u32 wh, .slice A1 n1 c1, .slice A2 n2 c2, .int .u16 kd, .int .u8 zo, .int .u8 k, .slice A3 n3 c3, .bool six, .int .u8 bt, .int .u8 ac] 64) := ⟨_, rfl⟩
  have hB0 : Below w.heap.size w W0 := by rw [hW0]; exact (Below.refl w.heap.size w).alloc (Nat.le_refl _) _
  have hC0 : Cs W0 w.heap.size [.int .u32 wh, .slice A1 n1 c1, .slice A2 n2 c2, .int .u16 kd, .int .u8 zo, .int .u8 k, .slice A3 n3 c3, .bool six, .int .u8 bt, .int .u8 ac] := by rw [hW0]; exact Cs.new w _ _ _
  have HAW := Lib.hid (awake25_any W0 (hL.below hB0 (Nat.le_refl _)))
  have HL0 := Lib.hid hL
  have HB0 := Lib.hid hB0
  have HC0 := Lib.hid hC0
  have HW0 := Lib.hid hW0
  clear hW0 hB0 hC0 hL hrow0 hl0' S0 hl0 hw0 hc0 hat hwi
  clear hwh S1 hl1 hw1 hc1 S2 hl2 hw2 hc2 hkd hzo hk S3 hl3 hw3 hc3 hbt hac
  go_enter Tryd.func12, Tryd.ntmps12
  go_wp2_with (go_at_call 29; rw [← HW0.out]; refine HAW.out.mono ?_; rintro e w1 ⟨rfl, hb1⟩; refine Hid.out ?_)
  refine Lib.hid ?_
  have HB1 := Lib.hid (HB0.out.trans (hb1.mono HB0.out.size))
  have HC1 := Lib.hid (HC0.out.below hb1)
  clear hb1 HB0 HC0 HAW HW0
  have k0 := HC1.out.get 0 (.int .u32 wh)
  have k1 := HC1.out.get 1 (.slice A1 n1 c1)
  have k2 := HC1.out.get 2 (.slice A2 n2 c2)
  have k3 := HC1.out.get 3 (.int .u16 kd)
  have k4 := HC1.out.get 4 (.int .u8 zo)
  have k5 := HC1.out.get 5 (.int .u8 k)
  have k6 := HC1.out.get 6 (.slice A3 n3 c3)
  have k7 := HC1.out.get 7 (.bool six)
  have k8 := HC1.out.get 8 (.int .u8 bt)
  have k9 := HC1.out.get 9 (.int .u8 ac)
  go_wp2_with (go_at_call 30; refine (HMK.out _ HB1.out).mono ?_; rintro e w2 ⟨v2, rfl, hse, hb2⟩; refine Hid.out ?_)
  refine Lib.hid ?_
  clear k0 k1 k2 k3 k4 k5 k6 k7 k8 k9
  obtain ⟨T, C, N, ty, z, tk, TN, TA, tb, av, rfl, hm, s1, s2, s3, s4, s5, s6⟩ := hse
  have hmE := mayE_iff.1 hm
  have HB2 := Lib.hid (HB1.out.trans (hb2.mono HB1.out.size))
  have HL2 := Lib.hid (HL0.out.below HB2.out (Nat.le_refl _))
  have hby := fun w h => evbytes_any T C N ty z tk TN TA tb av w (by omega) (by omega) ⟨s5, s6⟩ hm h
  obtain ⟨L, hLe⟩ : ∃ L, L = evB (toE T C N ty z tk TN TA tb av) := ⟨_, rfl⟩
  have hll := (evB_len hmE).2
  have hl1 := (evB_len hmE).1
  have hlong : ∀ x : UInt8, decE (L ++ [x]) = none := fun x => by rw [hLe]; exact dec_long hmE ⟨s5, s6⟩ (by simp)
  have hshort : ∀ k, k < L.length → decE (L.take k) = none := fun k hk => by rw [hLe] at hk ⊢; exact dec_short hmE ⟨s5, s6⟩ hk
  rw [← hLe] at hby hll hl1
  obtain ⟨X, hX⟩ : ∃ X, X = baL L := ⟨_, rfl⟩
  rw [← hX] at hby
  have hXs : X.size = L.length := by rw [hX, baL_size]
  have hXd : X.data.toList = L := by rw [hX]; simp [baL]
  have HBY := Lib.hid hby
  have HLONG := Lib.hid hlong
  have HSHORT := Lib.hid hshort
  have HXS := Lib.hid hXs
  have HXD := Lib.hid hXd
  clear hby hX hLe hm hmE hb2 HC1 HB1 HMK s1 s2 s3 s4 s5 s6 hlong hshort hXs hXd
  go_wp2_with (go_at_call 35; refine (HBY.out _ HL2.out).mono ?_; rintro e w3 ⟨rfl, hb3⟩; refine Hid.out ?_)
  refine Lib.hid ?_
  have HB3 := Lib.hid (HB2.out.trans (hb3.mono HB2.out.size))
  have hcv := run_bytes_of_string (P := Tryd.prog) w3 9 22 5 X Tryd.underlying9 Tryd.underlying22 Tryd.underlying5
  have hob := OB.of_bytes w3 X 5 (by rw [HXS.out]; unfold maxLen; omega)
  obtain ⟨q, hq⟩ : ∃ q, q = L.length := ⟨_, rfl⟩
  have HQ := Lib.hid hq
  rw [HXD.out, HXS.out, ← hq] at hob
  rw [HXS.out, ← hq] at hcv
  rw [← hq] at hll hl1
  have hqc : q ≤ grownCap w3 q 0 5 := grownCap_ge _ _ _ _
  generalize grownCap w3 q 0 5 = cap at *
  obtain ⟨w4, hw4⟩ : ∃ w4, w4 = (w3.drew.alloc (.cells (bytesRow X cap) 5 ((bytesRow X cap).size, (bytesRow X cap).size + 1))) := ⟨_, rfl⟩
  rw [← hw4] at hcv hob
  have hob4 := hob.out HB3.out.size HB3.out
  have hsrc4 := Sl.src (P := Tryd.prog) (c := cap) Tryd.underlying22 hob4.sl (fun h => by cases h) (by intro u hu; obtain ⟨x, _, rfl⟩ := List.mem_map.1 hu; rfl)
  have hnil4 := OB.start w4
  have HRG4 := Lib.hid (show Row25 w4 (some ⟨w3.heap.size, 0, none⟩) q cap L from ⟨hob4.sl, (fun h => by cases h), by omega⟩)
  have HB4 := Lib.hid hob4.bel
  clear hb3 hw4 hob hob4 hq HB2 HL2 HBY
  go_wp2_with (at_builtin; go_loud (refine wpList_append_ob rfl _ _ 22 22 rfl 5 i0 _ 1 Tryd.underlying22 hi hz0 hz1 hz2 rfl hnil4 rfl rfl hsrc4 ?c1 ?c2 ?_))
  case c1 => unfold maxLen; omega
  case c2 => omega
  intro v5 w5 hob5 _ _ _
  clear hsrc4 hnil4 hcv
  have hob5 : OB w4.heap.size w4 v5 q (L.map bv) w5 := by
    have h := hob5
    first
      | exact h
      | (simp only [Nat.zero_add, List.nil_append] at h; exact h)
  obtain ⟨A5, c5, rfl, hy1, hy2, hy3⟩ := hob5.slice3
  obtain ⟨g5, rfl⟩ : ∃ g, A5 = some ⟨g, 0, none⟩ := by
    rcases hy3 with ⟨_, h, _⟩ | ⟨g, h, _⟩
    · omega
    · exact ⟨g, h⟩
  have hr0 : (0 : Int) ≤ at_ % (q : Int) := Int.emod_nonneg _ (by omega)
  have hr1 : at_ % (q : Int) < q := Int.emod_lt_of_pos _ (by omega)
  obtain ⟨r, hr⟩ : ∃ r : Nat, at_ % (q : Int) = r := ⟨(at_ % (q : Int)).toNat, by omega⟩
  have hrt : at_.tmod (q : Int) = r := by rw [Int.tmod_eq_emod_of_nonneg hab.1, hr]
  have hrq : r < q := by omega
  have hqn : ¬ q = 0 := by omega
  have hw1 : IntKind.i64.wrap at_ = at_ := IntWalk.i64_in _ (by omega)
  have hw2 : IntKind.i64.wrap (r : Int) = r := IntWalk.i64_in _ (by omega)
  have hri : (r : Int) < q := by omega
  have hrc : (r : Int) ≤ cap := by have := (show q ≤ cap from hqc); omega
  obtain ⟨bw, hbw⟩ : ∃ b : UInt8, b = UInt8.ofNat wi.toNat := ⟨_, rfl⟩
  have hbv : Value.int .u8 wi = bv bw := by
    rw [hbw]; simp only [bv]
    rw [UInt8.toNat_ofNat_of_lt' (by show _ < 256; omega), Int.toNat_of_nonneg hwb.1]
  have hrl : r < (L.map bv).length := by rw [List.length_map, ← HQ.out]; exact hrq
  have m0 := hob5.cell r _ (List.getElem?_eq_getElem hrl)
  have f0 := hob5.frozen r (by omega)
  have hob6 := hob5.set r hrq (.int .u8 wi)
  rw [hbv, show bv bw = bv bw from rfl, ← List.map_set, ← hbv] at hob6
  have HOB6 := Lib.hid hob6
  have HBV := Lib.hid hbv
  generalize (L.map bv)[r] = y0 at m0
  clear hob5 hy3 hr0 hr1 hr hob6 hbv hbw hrl
  go_upto_region 6 with fail
  obtain ⟨w6, hw6⟩ : ∃ v, v = w5.setCell ⟨g5, r, none⟩ (.int .u8 wi) := ⟨_, rfl⟩
  rw [← hw6]
  have HOB6' := HOB6.out
  rw [← hw6] at HOB6'
  have HT6 := Lib.hid HOB6'
  have HRG6 := Lib.hid (HRG4.out.below HOB6'.bel)
  have HB6 := Lib.hid (HB4.out.trans (HOB6'.bel.mono HB4.out.size))
  have hsrc6 := Sl.src (P := Tryd.prog) (c := cap) Tryd.underlying22 HRG6.out.sl (fun h => by cases h) (by intro u hu; obtain ⟨x, _, rfl⟩ := List.mem_map.1 hu; rfl)
  have hnil6 := OB.start w6
  clear hw6 HOB6' HOB6 m0 f0 HRG4 HB4
  go_wp2_with (at_builtin; go_loud (refine wpList_append_ob rfl _ _ 22 22 rfl 5 i0 _ 1 Tryd.underlying22 hi hz0 hz1 hz2 rfl hnil6 rfl rfl hsrc6 ?c1 ?c2 ?_))
  case c1 => unfold maxLen; omega
  case c2 => omega
  intro v7 w7 hob7 _ _ _
  clear hsrc6 hnil6
  have hob7 : OB w6.heap.size w6 v7 q (L.map bv) w7 := by
    have h := hob7
    first
      | exact h
      | (simp only [Nat.zero_add, List.nil_append] at h; exact h)
  go_wp2_with (at_builtin; go_loud (refine wpList_append_ob rfl _ _ 22 22 rfl 5 i0 _ 1 Tryd.underlying22 hi hz0 hz1 hz2 rfl (hob7.alloc _) rfl rfl (src_byte w7 Tryd.underlying22 _ _) ?c1 ?c2 ?_))
  case c1 => unfold maxLen; omega
  case c2 => omega
  intro v8 w8 hob8 _ _ _
  have hob8 : OB w6.heap.size w6 v8 (q + 1) ((L ++ [bw]).map bv) w8 := by
    have h := hob8
    rw [HBV.out] at h
    rw [List.map_append]
    exact h
  clear hob7
  obtain ⟨A8, c8, rfl, hy1', hy2', hy3'⟩ := hob8.slice
  have hal := (Below.refl w8.heap.size w8).alloc (Nat.le_refl _) (.cells #[.slice A0 n0 c0', .slice (some ⟨g5, 0, none⟩) q c5, .slice A8 (q + 1) c8, .slice (some ⟨w3.heap.size, 0, none⟩) r cap] 22)
  have hrg8 := HRG6.out.below hob8.bel
  have hB8 := HB6.out.trans (hob8.bel.mono HB6.out.size)
  have HB9 := Lib.hid (hB8.trans (hal.mono hB8.size))
  have HR0' := Lib.hid ((HR0.out.below hB8).below hal)
  have HR1' := Lib.hid (((show Row25 w6 (some ⟨g5, 0, none⟩) q c5 (L.set r bw) from ⟨HT6.out.sl, (fun h => by cases h), by omega⟩).below hob8.bel).below hal)
  have HR2' := Lib.hid ((show Row25 w8 A8 (q + 1) c8 (L ++ [bw]) from ⟨hob8.sl, (fun h => (hy3' h).1), by omega⟩).below hal)
  have HR3' := Lib.hid ((show Row25 w8 (some ⟨w3.heap.size, 0, none⟩) r cap (L.take r) from ⟨hrg8.sl.take r (by omega), (fun h => by cases h), by omega⟩).below hal)
  have HSN := Lib.hid (Sl.fresh w8 #[.slice A0 n0 c0', .slice (some ⟨g5, 0, none⟩) q c5, .slice A8 (q + 1) c8, .slice (some ⟨w3.heap.size, 0, none⟩) r cap] 22 4 _ rfl rfl)
  have HL9 := Lib.hid (HL0.out.below HB9.out (Nat.le_refl _))
  have hl2 := HLONG.out bw
  have hl3 := HSHORT.out r (by rw [← HQ.out]; exact hrq)
  have HL2' := Lib.hid hl2
  have HL3' := Lib.hid hl3
  clear hal hrg8 hB8 hob8 hy3' hl2 hl3 HRG6 HT6 HB6 HR0 HL0 HBV HLONG HSHORT HQ HXS HXD hi hz0 hz1 hz2
  go_upto_region 8 with fail
  generalize w8.alloc (.cells #[.slice A0 n0 c0', .slice (some ⟨g5, 0, none⟩) q c5, .slice A8 (q + 1) c8, .slice (some ⟨w3.heap.size, 0, none⟩) r cap] 22) = W at HB9 HSN HL9 HR0' HR1' HR2' HR3' ⊢
  generalize w8.heap.size = P at HSN ⊢
  go_loopw [53] (fun v53 wr => ∃ k : Nat, k ≤ 4 ∧ v53 = .int .i64 k ∧ Hid (Below W.heap.size W wr)) (fun v53 _ => 4 - (intOf v53).toNat)
  case atStart => exact ⟨0, by omega, rfl, Lib.hid (Below.refl _ _)⟩
  case round =>
    obtain ⟨k, hk, rfl, HBR⟩ := hrel
    by_cases hk4 : k < 4
    · have hk4i : (k : Int) < 4 := by omega
      obtain ⟨Ak, nk, ck, lk, hNk, hrk⟩ : ∃ Ak nk ck lk, ([.slice A0 n0 c0', .slice (some ⟨g5, 0, none⟩) q c5, .slice A8 (q + 1) c8, .slice (some ⟨w3.heap.size, 0, none⟩) r cap] : List Value)[k]? = some (.slice Ak nk ck) ∧ Row25 W Ak nk ck lk := by
        match k, hk4 with
        | 0, _ => exact ⟨_, _, _, _, rfl, HR0'.out⟩
        | 1, _ => exact ⟨_, _, _, _, rfl, HR1'.out⟩
        | 2, _ => exact ⟨_, _, _, _, rfl, HR2'.out⟩
        | 3, _ => exact ⟨_, _, _, _, rfl, HR3'.out⟩
      have hcl := (HSN.out.below HBR.out).cell k _ hNk
      rw [Nat.zero_add] at hcl
      have hrr := hrk.below HBR.out
      have HLR := Lib.hid (HL9.out.below HBR.out (Nat.le_refl _))
      have HDE := Lib.hid (evdec_any Ak nk ck lk wr hrr.sl hrr.none_ hrr.le HLR.out)
      have HRR := Lib.hid hrr
      clear hNk hrk hrr
      go_wp2_with (go_at_call 32; refine HDE.out.mono ?_; rintro e w10 ⟨v10, rfl, hdv, hb10⟩; refine Hid.out ?_)
      refine Lib.hid ?_
      clear hcl HDE
      obtain ⟨T2, C2, N2, y2, z2, k2, M2, P2, b2, a2, ok, rfl, hyes, hno⟩ := hdv
      cases ok with
      | false =>
        obtain ⟨-, rfl, rfl, rfl, rfl, rfl, rfl, rfl, rfl, rfl, rfl⟩ := hno rfl
        have hnq := fun w => ev_neq 0 0 ⟨#[]⟩ ⟨#[]⟩ ⟨#[]⟩ ⟨#[]⟩ 0 0 0 0 0 0 ⟨#[]⟩ ⟨#[]⟩ ⟨#[]⟩ ⟨#[]⟩ 0 0 0 0 w
        simp only [decide_true, Bool.not_true] at hnq
        have HNQ := Lib.hid hnq
        clear hnq hyes hno
        have hb11 := hb10.trans (((Below.refl w10.heap.size w10).alloc (Nat.le_refl _) (.cells #[.int .i64 0, .string ⟨#[]⟩, .string ⟨#[]⟩, .int .u16 0, .int .i64 0, .int .i64 0, .string ⟨#[]⟩, .string ⟨#[]⟩, .int .i64 0, .int .i64 0] 68)).mono hb10.size)
        have HB11 := Lib.hid (HBR.out.trans (hb11.mono HBR.out.size))
        have HL11 := Lib.hid (HLR.out.below hb11 (Nat.le_refl _))
        have HR11 := Lib.hid (HRR.out.below hb11)
        have HC11 := Lib.hid (Cs.new w10 #[.int .i64 0, .string ⟨#[]⟩, .string ⟨#[]⟩, .int .u16 0, .int .i64 0, .int .i64 0, .string ⟨#[]⟩, .string ⟨#[]⟩, .int .i64 0, .int .i64 0] 68 [.int .i64 0, .string ⟨#[]⟩, .string ⟨#[]⟩, .int .u16 0, .int .i64 0, .int .i64 0, .string ⟨#[]⟩, .string ⟨#[]⟩, .int .i64 0, .int .i64 0])
        clear hb10 hb11 HLR HRR
        go_upto_region 11 with fail
        generalize w10.alloc (.cells #[.int .i64 0, .string ⟨#[]⟩, .string ⟨#[]⟩, .int .u16 0, .int .i64 0, .int .i64 0, .string ⟨#[]⟩, .string ⟨#[]⟩, .int .i64 0, .int .i64 0] 68) = W11 at HB11 HL11 HR11 HC11 ⊢
        generalize w10.heap.size = P11 at HC11 ⊢
        refine wp_region_goesG ev_follows (fun x => by simp [putsF, Act.put]; rfl) W11.heap.size W11
          [isV (.bool false), isV (.bool false), isV undef, isV undef, isV undef, isV undef, isV undef, isV undef, isV undef, isV undef, isV undef, isV undef, isV (.bool false), isV (.bool false), isV (.bool false), isV (.bool true), isV (.bool true), isV (.agg #[.int .i64 0, .string ⟨#[]⟩, .string ⟨#[]⟩, .int .u16 0, .int .i64 0, .int .i64 0, .string ⟨#[]⟩, .string ⟨#[]⟩, .int .i64 0, .int .i64 0]), isV (.agg #[.int .i64 0, .string ⟨#[]⟩, .string ⟨#[]⟩, .int .u16 0, .int .i64 0, .int .i64 0, .string ⟨#[]⟩, .string ⟨#[]⟩, .int .i64 0, .int .i64 0]), isV (.bool false), isV (.bool false), isV (.bool false)]
          (by kernel_rfl) (by kernel_rfl) (by kernel_rfl) rfl ?_ (Below.refl _ _) ?_ ?_
        · repeat (first | exact trivial | refine ⟨by first | exact isV_stays _ , ?_⟩)
        · refine ⟨?_, ?_, ?_, ?_, ?_, ?_, ?_, ?_, ?_, ?_, ?_, ?_, ?_, ?_, ?_, ?_, ?_, ?_, ?_, ?_, ?_, ?_, trivial⟩
          all_goals
            intro x wx hR hd
            simp at hd ⊢
            try simp [hd]
          all_goals try exact fun hX => absurd (show (false : Bool) = true from hX) (by decide)
          · go_simp
            exact next_same _ rfl rfl hR
          · go_simp
            exact next_same _ rfl rfl hR
          · go_simp
            exact next_same _ rfl rfl hR
          · go_simp
            exact next_same _ rfl rfl hR
          · go_simp
            exact next_same _ rfl rfl hR
          · go_simp
            exact next_same _ rfl rfl hR
          · go_simp
            exact next_same _ rfl rfl hR
          · have hq := HC11.out.below hR
            have q0 := hq.get 0 (.int .i64 0)
            have q1 := hq.get 1 (.string ⟨#[]⟩)
            have q2 := hq.get 2 (.string ⟨#[]⟩)
            have q3 := hq.get 3 (.int .u16 0)
            have q4 := hq.get 4 (.int .i64 0)
            have q5 := hq.get 5 (.int .i64 0)
            have q6 := hq.get 6 (.string ⟨#[]⟩)
            have q7 := hq.get 7 (.string ⟨#[]⟩)
            have q8 := hq.get 8 (.int .i64 0)
            have q9 := hq.get 9 (.int .i64 0)
            clear hq
            go_simp
            exact next_same _ rfl rfl hR
          · go_simp
            exact next_same _ rfl rfl hR
          · have hnq := HNQ.out
            go_simp
            exact next_same _ rfl rfl hR
          · go_simp
            exact next_same _ rfl rfl hR
          · go_simp
            exact next_same _ rfl rfl hR
        intro x w12 hR hx
        simp [AllWords] at hx
        have hx21 : x 21 = .bool false := by simp [hx]
        clear hx
        rw [hx21]
        have HB12 := Lib.hid (HB11.out.trans (hR.mono HB11.out.size))
        clear hx21 hR
        go_wp2_with fail
        go_roundw
        case rel => exact ⟨k + 1, by omega, by go_num, HB12⟩
        case measure => simp [intOf]; omega
      | true =>
        obtain ⟨hde, s1, s2, s3, s4, s5, s6⟩ := hyes rfl
        obtain ⟨hLk, hME, -⟩ := decE_some hde
        have hmm := mayE_iff.2 hME
        have HLM := Lib.hid (fun w h => evlmay_any T2 C2 N2 y2 z2 k2 M2 P2 b2 a2 w (by omega) (by omega) (by omega) (by omega) h)
        have HBY := Lib.hid (fun w h => evbytes_any T2 C2 N2 y2 z2 k2 M2 P2 b2 a2 w (by omega) (by omega) ⟨s5, s6⟩ hmm h)
        rw [hmm] at HLM
        rw [hLk] at HBY
        obtain ⟨X2, hX2⟩ : ∃ X, X = baL lk := ⟨_, rfl⟩
        rw [← hX2] at HBY
        have HX2 := Lib.hid hX2
        clear hde hLk hME hmm hX2 hyes hno
        have hb11 := hb10.trans (((Below.refl w10.heap.size w10).alloc (Nat.le_refl _) (.cells #[.int .i64 T2, .string C2, .string N2, .int .u16 y2, .int .i64 z2, .int .i64 k2, .string M2, .string P2, .int .i64 b2, .int .i64 a2] 68)).mono hb10.size)
        have HB11 := Lib.hid (HBR.out.trans (hb11.mono HBR.out.size))
        have HL11 := Lib.hid (HLR.out.below hb11 (Nat.le_refl _))
        have HR11 := Lib.hid (HRR.out.below hb11)
        have HC11 := Lib.hid (Cs.new w10 #[.int .i64 T2, .string C2, .string N2, .int .u16 y2, .int .i64 z2, .int .i64 k2, .string M2, .string P2, .int .i64 b2, .int .i64 a2] 68 [.int .i64 T2, .string C2, .string N2, .int .u16 y2, .int .i64 z2, .int .i64 k2, .string M2, .string P2, .int .i64 b2, .int .i64 a2])
        clear hb10 hb11 HLR HRR
        go_upto_region 11 with fail
        generalize w10.alloc (.cells #[.int .i64 T2, .string C2, .string N2, .int .u16 y2, .int .i64 z2, .int .i64 k2, .string M2, .string P2, .int .i64 b2, .int .i64 a2] 68) = W11 at HB11 HL11 HR11 HC11 ⊢
        generalize w10.heap.size = P11 at HC11 ⊢
        refine wp_region_goesG ev_follows (fun x => by simp [putsF, Act.put]; rfl) W11.heap.size W11
          [isV (.bool true), isV (.bool true), isV (.agg #[.int .i64 T2, .string C2, .string N2, .int .u16 y2, .int .i64 z2, .int .i64 k2, .string M2, .string P2, .int .i64 b2, .int .i64 a2]), isV (.bool true), isV (.bool false), isV (.bool false), isV (.agg #[.int .i64 T2, .string C2, .string N2, .int .u16 y2, .int .i64 z2, .int .i64 k2, .string M2, .string P2, .int .i64 b2, .int .i64 a2]), isV (.string X2), isV (.slice Ak nk ck), isV (.string X2), isV (.bool false), isV (.bool false), isV (.bool false), isV (.bool false), isV (.bool true), isV (.bool false), isV (.bool false), isV undef, isV undef, isV undef, isV (.bool false), isV (.bool false)]
          (by kernel_rfl) (by kernel_rfl) (by kernel_rfl) rfl ?_ (Below.refl _ _) ?_ ?_
        · repeat (first | exact trivial | refine ⟨by first | exact isV_stays _ , ?_⟩)
        · refine ⟨?_, ?_, ?_, ?_, ?_, ?_, ?_, ?_, ?_, ?_, ?_, ?_, ?_, ?_, ?_, ?_, ?_, ?_, ?_, ?_, ?_, ?_, trivial⟩
          all_goals
            intro x wx hR hd
            simp at hd ⊢
            try simp [hd]
          all_goals try exact fun hX => absurd (show (false : Bool) = true from hX) (by decide)
          · go_simp
            exact next_same _ rfl rfl hR
          · go_simp
            exact next_same _ rfl rfl hR
          · have hq := HC11.out.below hR
            have q0 := hq.get 0 (.int .i64 T2)
            have q1 := hq.get 1 (.string C2)
            have q2 := hq.get 2 (.string N2)
            have q3 := hq.get 3 (.int .u16 y2)
            have q4 := hq.get 4 (.int .i64 z2)
            have q5 := hq.get 5 (.int .i64 k2)
            have q6 := hq.get 6 (.string M2)
            have q7 := hq.get 7 (.string P2)
            have q8 := hq.get 8 (.int .i64 b2)
            have q9 := hq.get 9 (.int .i64 a2)
            clear hq
            go_simp
            exact next_same _ rfl rfl hR
          · go_simp
            go_at_call 33
            refine (HLM.out wx (HL11.out.below hR (Nat.le_refl _))).mono ?_
            rintro e wy ⟨rfl, hby⟩
            exact next_call _ rfl rfl hR hR.size hby
          · go_simp
            exact next_same _ rfl rfl hR
          · go_simp
            exact next_same _ rfl rfl hR
          · have hq := HC11.out.below hR
            have q0 := hq.get 0 (.int .i64 T2)
            have q1 := hq.get 1 (.string C2)
            have q2 := hq.get 2 (.string N2)
            have q3 := hq.get 3 (.int .u16 y2)
            have q4 := hq.get 4 (.int .i64 z2)
            have q5 := hq.get 5 (.int .i64 k2)
            have q6 := hq.get 6 (.string M2)
            have q7 := hq.get 7 (.string P2)
            have q8 := hq.get 8 (.int .i64 b2)
            have q9 := hq.get 9 (.int .i64 a2)
            clear hq
            go_simp
            exact next_same _ rfl rfl hR
          · go_simp
            go_at_call 35
            refine (HBY.out wx (HL11.out.below hR (Nat.le_refl _))).mono ?_
            rintro e wy ⟨rfl, hby⟩
            exact next_call _ rfl rfl hR hR.size hby
          · go_simp
            exact next_same _ rfl rfl hR
          · have hrq := HR11.out.below hR
            have hcv := Txt.conv (P := Tryd.prog) (w := wx) ⟨hrq.sl, hrq.none_⟩ 22 9 5 Tryd.underlying22 Tryd.underlying5 Tryd.underlying9 ck
            rw [show (⟨lk.toArray⟩ : ByteArray) = X2 from HX2.out.symm] at hcv
            clear hrq
            go_simp
            exact next_same _ rfl rfl hR
          · have hb := str_same X2 X2 rfl
            go_simp
            exact next_same _ rfl rfl hR
          · go_simp
            exact next_same _ rfl rfl hR
          · go_simp
            exact next_same _ rfl rfl hR
          · go_simp
            exact next_same _ rfl rfl hR
          · go_simp
            exact next_same _ rfl rfl hR
          · go_simp
            exact next_same _ rfl rfl hR
          · go_simp
            exact next_same _ rfl rfl hR
          · go_simp
            exact next_same _ rfl rfl hR
          · go_simp
            exact next_same _ rfl rfl hR
        intro x w12 hR hx
        simp [AllWords] at hx
        have hx21 : x 21 = .bool false := by simp [hx]
        clear hx
        rw [hx21]
        have HB12 := Lib.hid (HB11.out.trans (hR.mono HB11.out.size))
        clear hx21 hR
        go_wp2_with fail
        go_roundw
        case rel => exact ⟨k + 1, by omega, by go_num, HB12⟩
        case measure => simp [intOf]; omega
    · obtain rfl : k = 4 := by omega
      have HLR := Lib.hid (HL9.out.below HBR.out (Nat.le_refl _))
      have hr2 := HR2'.out.below HBR.out
      have HDE := Lib.hid (evdec_any A8 (q + 1) c8 (L ++ [bw]) wr hr2.sl hr2.none_ hr2.le HLR.out)
      have HBF := Lib.hid (HB9.out.trans (HBR.out.mono HB9.out.size))
      have HR3 := Lib.hid (HR3'.out.below HBR.out)
      clear hr2 HR0' HR1' HR2' HR3' HB9 HL9 HSN HBR
      go_wp2_with (go_at_call 32; refine HDE.out.mono ?_; rintro e w14 ⟨v14, rfl, hdv, hb14⟩; refine Hid.out ?_)
      refine Lib.hid ?_
      obtain rfl := dec_no hdv HL2'.out
      have hb15 := hb14.trans (((Below.refl w14.heap.size w14).alloc (Nat.le_refl _) (.cells #[.int .i64 0, .string ⟨#[]⟩, .string ⟨#[]⟩, .int .u16 0, .int .i64 0, .int .i64 0, .string ⟨#[]⟩, .string ⟨#[]⟩, .int .i64 0, .int .i64 0] 68)).mono hb14.size)
      have HB15 := Lib.hid (HBF.out.trans (hb15.mono HBF.out.size))
      have HL15 := Lib.hid (HLR.out.below hb15 (Nat.le_refl _))
      have hr3 := HR3.out.below hb15
      have HDE2 := Lib.hid (evdec_any (some ⟨w3.heap.size, 0, none⟩) r cap (L.take r) _ hr3.sl hr3.none_ hr3.le HL15.out)
      clear hdv hb14 hb15 HBF HLR HR3 HDE hr3
      go_wp2_with (go_at_call 32; refine HDE2.out.mono ?_; rintro e w16 ⟨v16, rfl, hdv, hb16⟩; refine Hid.out ?_)
      refine Lib.hid ?_
      obtain rfl := dec_no hdv HL3'.out
      have HB16 := Lib.hid (HB15.out.trans (hb16.mono HB15.out.size))
      have HB17 := Lib.hid (HB16.out.alloc HB16.out.size (.cells #[.int .i64 0, .string ⟨#[]⟩, .string ⟨#[]⟩, .int .u16 0, .int .i64 0, .int .i64 0, .string ⟨#[]⟩, .string ⟨#[]⟩, .int .i64 0, .int .i64 0] 68))
      clear hdv hb16 HB15 HL15 HDE2 HB16
      go_wp2_with fail
      go_ret
      exact ⟨rfl, HB17.out⟩
end Go.Proofs.YtodpaejakgjblaaDoor
