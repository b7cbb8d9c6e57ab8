/- The walk of OwnerAddress. -/
import Derived.Test.YtodpaejakgjblaaDoorLawOwX1
import Derived.Test.YtodpaejakgjblaaDoorReg7
namespace Go.Proofs.YtodpaejakgjblaaDoor
open Go.RowKit
set_option linter.unusedVariables false
set_option linter.unusedSimpArgs false
set_option maxRecDepth 20000
attribute [local simp] putsF isV wordOf Deps Region.binds Region.wanted Act.put wantedX isB
theorem oa_follows : Tryd.prog.follows .mixedOrders = true := by kernel_rfl
theorem oatail_cons {P : Program} {Q : Exit → Act → World → Prop} (o : Oper) (os : List Oper) (a : Act) (w : World) : tailWp P Q (o :: os) a w = Oper.wp P o a w (fun a' w' => ∃ v, a' = a.put o.dst v ∧ tailWp P Q os a' w') Q := rfl
theorem oatail_nil {P : Program} {Q : Exit → Act → World → Prop} (a : Act) (w : World) : tailWp P Q [] a w = Q .normal a w := rfl
def atZ (j : Nat) (vs : List Value) : Value → World → Prop := fun v w => ∃ g, v = .pointer (some ⟨g, j, none⟩) ∧ Cs w g vs
theorem atZ_stays (j : Nat) (vs : List Value) : ∀ v w w', atZ j vs v w → Goes w w' → atZ j vs v w' := by
  rintro v w w' ⟨g, hx, hc⟩ he
  exact ⟨g, hx, hc.below he⟩
def tenV : List Value := [.string ⟨#[48]⟩, .string ⟨#[122, 122]⟩, .string ⟨#[49]⟩, .string ⟨#[48, 48]⟩, .string ⟨#[50, 53, 53]⟩, .string ⟨#[50, 53, 54]⟩, .string ⟨#[97]⟩, .string ⟨#[102, 102, 102, 102]⟩, .string ⟨#[45, 49]⟩, .string ⟨#[49, 50, 57]⟩]
theorem ten_get (z : Int) (hz : 0 ≤ z) : ∃ l : List UInt8, l.length ≤ 4 ∧ tenV[(z % 10).toNat]? = some (.string (baL l)) := by
  obtain ⟨k, hk, hk5⟩ : ∃ k : Nat, (z % 10).toNat = k ∧ k < 10 := ⟨_, rfl, by omega⟩
  rw [hk]
  match k, hk5 with
  | 0, _ => exact ⟨[48], by decide, rfl⟩
  | 1, _ => exact ⟨[122, 122], by decide, rfl⟩
  | 2, _ => exact ⟨[49], by decide, rfl⟩
  | 3, _ => exact ⟨[48, 48], by decide, rfl⟩
  | 4, _ => exact ⟨[50, 53, 53], by decide, rfl⟩
  | 5, _ => exact ⟨[50, 53, 54], by decide, rfl⟩
  | 6, _ => exact ⟨[97], by decide, rfl⟩
  | 7, _ => exact ⟨[102, 102, 102, 102], by decide, rfl⟩
  | 8, _ => exact ⟨[45, 49], by decide, rfl⟩
  | 9, _ => exact ⟨[49, 50, 57], by decide, rfl⟩
/-- A slice of strings that lies there. -/
structure Row13 (W : World) (A : Option Addr) (n c : Nat) (ts : List ByteArray) : Prop where
  sl : Sl W W.heap.size 1 A n (ts.map .string)
  le : n ≤ c
  sz : ∀ t ∈ ts, t.size ≤ 140737488355328
  max : n ≤ maxLen
theorem Row13.below {w w' : World} {A : Option Addr} {n c : Nat} {ts : List ByteArray} (h : Row13 w A n c ts) (hb : Below w.heap.size w w') : Row13 w' A n c ts := ⟨(h.sl.below hb).more hb.size, h.le, h.sz, h.max⟩

set_option maxHeartbeats 16000000 in
theorem ownerAddress_walk (w : World) (hL : LaidT w) (B : Option Addr) (m d : Nat) (ts : List ByteArray) (SB : SlView w B m d (ts.map Value.string)) (hlb : ts.length = m) (hzb : ∀ s ∈ ts, s.size ≤ maxLen) (hdb : d ≤ 8796093021952) (hsb : ∀ s ∈ ts, s.size ≤ 140737488351232)
    (six : Bool) (A : Option Addr) (n c : Nat) (zs : List Int) (SA : SlView w A n c (zs.map (Value.int .u8))) (hl : zs.length = n) (hw : ∀ z ∈ zs, (Lit.int .u8 z).wf = true) (hc : c ≤ 140737488351232)
    (bits : Int) (hbi : (Lit.int .u8 bits).wf = true) (at_ : Int) (hat : (Lit.int .u8 at_).wf = true) (wi : Int) (hwi : (Lit.int .u8 wi).wf = true) :
    Calls Tryd.prog 4 #[.slice B m d, .bool six, .slice A n c, .int .u8 bits, .int .u8 at_, .int .u8 wi] w fun e w' => e = .returned (.bool true) ∧ Below w.heap.size w w' := by
  obtain ⟨i0, hi, hz0, hz1, hz2⟩ := info_parts str_info
  have hn : n ≤ 140737488355328 := by have := SA.le; omega
  have hz : ∀ z ∈ zs, 0 ≤ z ∧ z < 256 := fun z h => by have := bounds_u8 (hw z h); omega
  have hbb := bounds_u8 hbi
  have hab := bounds_u8 hat
  have hwb := bounds_u8 hwi
  have hrow0 : Row13 w B m d ts := ⟨SB.sl, SB.le, fun t ht => by have := hsb t ht; omega, by have := SB.le; unfold maxLen; omega⟩
  have HAW := Lib.hid (awake13_any w hL)
  have HTR := Lib.hid (fun (wx : World) h => trigger13_any 0 (by omega) A n c zs six bits (by omega) wx h hz hn)
  have HSA := Lib.hid SA.sl
  have HL0 := Lib.hid hL
  have HROW := Lib.hid hrow0
  clear hn hz hbb hL SA SB hl hlb hzb hdb hsb hw hc hbi hat hwi hrow0
  go_enter Tryd.func4, Tryd.ntmps4
  go_wp2_with (go_at_call 14; refine HAW.out.mono ?_; rintro e w1 ⟨rfl, hb1⟩; refine Hid.out ?_)
  refine Lib.hid ?_
  have HB1 := Lib.hid hb1
  clear hb1 HAW
  go_wp2_with (go_at_call 15; refine (HTR.out _ ((HSA.out.below HB1.out).more HB1.out.size)).mono ?_; rintro e w2 ⟨t, rfl, hok, hb2⟩; refine Hid.out ?_)
  refine Lib.hid ?_
  obtain ⟨hm, -⟩ := hok.pfx (by omega)
  have hsm := hok.small
  obtain ⟨tk, TN, TA, tb, hsh, htt⟩ := trigA_shape t
  rw [hsh]
  rw [htt] at hm hsm
  simp only [toT, Array.length_toList] at hm hsm
  have HB2 := Lib.hid (HB1.out.trans (hb2.mono HB1.out.size))
  have HM := Lib.hid hm
  have hfp := fun w => field_pfx tk TN TA tb w
  have HLP := Lib.hid (fun w => labels13_any TA tb HM.out w)
  have h9 : (prefixR TA.data.toList tb).length ≤ 9 := prefixR_len _ _
  have h1 : 1 ≤ (prefixR TA.data.toList tb).length := by
    unfold prefixR; rw [hm]; simp [prefixL]
  obtain ⟨PX, hPX⟩ : ∃ PX, PX = prefixR TA.data.toList tb := ⟨_, rfl⟩
  have hPs : ∀ x ∈ PX, x.length ≤ 4 := fun x hx => (prefix_labels x (by rw [← hPX]; exact hx)).2
  rw [← hPX] at HLP h9 h1
  have HPS := Lib.hid hPs
  clear hm hsm hb2 hok hsh htt hPX hPs HTR HB1 HSA
  go_wp2_with (go_at_call 19; refine (HLP.out _).mono ?_; rintro e w3 ⟨v3, rfl, hb3⟩; refine Hid.out ?_)
  refine Lib.hid ?_
  have HB3 := Lib.hid (HB2.out.trans (hb3.bel.mono HB2.out.size))
  obtain ⟨A3, c3, rfl, hx1, hx2, hx3⟩ := hb3.slice
  have hsrc := Sl.src (P := Tryd.prog) (c := c3) Tryd.underlying31 hb3.sl (fun h => (hx3 h).1) (by intro u hu; obtain ⟨x, _, rfl⟩ := List.mem_map.1 hu; rfl)
  have hnil := OB.nil HB3.out HB3.out.size
  clear hfp hb3 hx3
  go_wp2_with (at_builtin; go_loud (refine wpList_append_ob rfl _ _ 31 31 rfl 9 i0 _ 16 Tryd.underlying31 hi hz0 hz1 hz2 rfl hnil rfl rfl hsrc ?c1 ?c2 ?_))
  case c1 => unfold maxLen; omega
  case c2 => omega
  intro v4 w4 hb4 _ _ _
  clear hsrc hnil
  obtain ⟨q, hq⟩ : ∃ q, q = PX.length := ⟨_, rfl⟩
  rw [← hq] at hb4 h9 h1
  obtain ⟨A4, c4, rfl, hy1, hy2, hy3⟩ := hb4.slice3
  obtain ⟨g4, rfl⟩ : ∃ g, A4 = some ⟨g, 0, none⟩ := by
    rcases hy3 with ⟨_, h, _⟩ | ⟨g, h, _⟩
    · omega
    · exact ⟨g, h⟩
  have hr0 : (0 : Int) ≤ at_ % (q : Int) := Int.emod_nonneg _ (by omega)
  have hr1 : at_ % (q : Int) < q := Int.emod_lt_of_pos _ (by omega)
  obtain ⟨r, hr⟩ : ∃ r : Nat, at_ % (q : Int) = r := ⟨(at_ % (q : Int)).toNat, by omega⟩
  have hrt : at_.tmod (q : Int) = r := by rw [Int.tmod_eq_emod_of_nonneg hab.1, hr]
  have hrq : r < q := by omega
  have hq0 : ¬ (q : Int) = 0 := by omega
  have hqn : ¬ q = 0 := by omega
  have hwt : wi.tmod 10 = wi % 10 := Int.tmod_eq_emod_of_nonneg hwb.1
  have hw1 : IntKind.i64.wrap at_ = at_ := IntWalk.i64_in _ (by omega)
  have hw2 : IntKind.i64.wrap (r : Int) = r := IntWalk.i64_in _ (by omega)
  have hw3 : IntKind.u8.wrap (wi % 10) = wi % 10 := by rw [IntKind.wrap_u8]; omega
  have hs0 : 0 ≤ wi % 10 := by omega
  have hs1 : wi % 10 < 10 := by omega
  have hri : (r : Int) < q := by omega
  obtain ⟨sl, hsl4, hsl⟩ := ten_get wi hwb.1
  have HSLL := Lib.hid hsl4
  have HSL := Lib.hid hsl
  have HB4 := Lib.hid hb4
  have HQ := Lib.hid hq
  clear hb4 hq hy3 hsl4 hsl hr hab hwb HB3 HB2 hr0 hr1
  go_upto_region 4 with fail
  refine wp_region_tail oa_follows (fun x => by simp [putsF, Act.put]; rfl) (fun v => Below w4.heap.size w4 v)
    [isV (.slice (some ⟨g4, 0, none⟩) q c4), isV (.int .u8 at_), isV (.int .i64 at_), isV (.slice (some ⟨g4, 0, none⟩) q c4), isV (.int .i64 q), isV (.int .i64 r), litZ 10 tenV, isV (.int .u8 wi), isV (.int .u8 (wi % 10)), atZ (wi % 10).toNat tenV, isV (.string (baL sl)), isV (.pointer (some ⟨g4, r, none⟩))]
    12 [] (by kernel_rfl) (by kernel_rfl) (by kernel_rfl) rfl (by kernel_rfl) (by kernel_rfl) ?_ (Below.refl _ _).drew ?_ ?_
  · repeat (first | exact trivial | refine ⟨by first | exact isV_stays _ | exact litZ_stays _ _ | exact atZ_stays _ _, ?_⟩)
  · refine ⟨?_, ?_, ?_, ?_, ?_, ?_, ?_, ?_, ?_, ?_, ?_, ?_, skipped rfl, trivial⟩
    all_goals
      intro _ x wx hR hd
      refine ⟨fun _ => ?_, fun hX => by simp at hX⟩
      simp at hd ⊢
    · go_simp; exact nextL _ rfl rfl hR (Below.refl _ _)
    · go_simp; exact nextL _ rfl rfl hR (Below.refl _ _)
    · go_simp; exact nextL _ rfl rfl hR (Below.refl _ _)
    · go_simp; exact nextL _ rfl rfl hR (Below.refl _ _)
    · go_simp; exact nextL _ rfl rfl hR (Below.refl _ _)
    · obtain ⟨hd1, hd2⟩ := hd
      go_simp
      exact nextL _ rfl rfl hR (Below.refl _ _)
    · go_simp; exact nextL _ rfl ⟨_, rfl, Cs.new _ _ _ _⟩ (hR.alloc hR.size _) ((Below.refl _ _).alloc (Nat.le_refl _) _)
    · go_simp; exact nextL _ rfl rfl hR (Below.refl _ _)
    · go_simp; exact nextL _ rfl rfl hR (Below.refl _ _)
    · obtain ⟨⟨g, hg, hcs⟩, hd2⟩ := hd
      rw [hg, hd2]
      go_simp; exact nextL _ rfl ⟨g, rfl, hcs⟩ hR (Below.refl _ _)
    · obtain ⟨g, hg, hcs⟩ := hd
      rw [hg]
      have hc0 := hcs.get (wi % 10).toNat (.string (baL sl)) HSL.out
      go_simp; exact nextL _ rfl rfl hR (Below.refl _ _)
    · obtain ⟨hd1, hd2⟩ := hd
      go_simp; exact nextL _ rfl rfl hR (Below.refl _ _)
  intro x w5 hR5 hx _
  obtain ⟨x0, x1, x2, x3, x4, x5, -, x7, x8, -, x10, x11, -⟩ := hx
  have x10 : x 10 = .string (baL sl) := x10
  have x11 : x 11 = .pointer (some ⟨g4, r, none⟩) := x11
  have hob5 := HB4.out.keep hR5 (Nat.le_refl _)
  obtain ⟨y, hy⟩ : ∃ y, (PX.map sv)[r]? = some y := ⟨(PX.map sv)[r]'(by rw [List.length_map, ← HQ.out]; exact hrq), List.getElem?_eq_getElem _⟩
  have m0 := hob5.cell r y hy
  have f0 := hob5.frozen r (by omega)
  have hob6 := hob5.set r hrq (.string (baL sl))
  change tailWp _ _ [_] _ _
  rw [oatail_cons, x10, x11]
  go_simp
  rw [oatail_nil]
  obtain ⟨w6, hw6⟩ : ∃ v, v = w5.setCell ⟨g4, r, none⟩ (.string (baL sl)) := ⟨_, rfl⟩
  rw [← hw6] at hob6 ⊢
  obtain ⟨T, hT⟩ : ∃ T, T = (PX.set r sl).map baL := ⟨_, rfl⟩
  have hset : (PX.map sv).set r (.string (baL sl)) = T.map .string := by
    rw [hT, baL_strings, List.map_set]; rfl
  rw [hset] at hob6
  have hrow1 : Row13 w6 (some ⟨g4, 0, none⟩) q c4 T := ⟨hob6.sl, hy1, by
    intro t ht
    rw [hT] at ht
    obtain ⟨x, hx, rfl⟩ := List.mem_map.1 ht
    rw [show (baL x).size = x.length by simp [baL, ByteArray.size]]
    rcases List.mem_or_eq_of_mem_set hx with h | rfl
    · have := HPS.out x h; omega
    · have := HSLL.out; omega, by unfold maxLen; omega⟩
  have hrow0 := HROW.out.below hob6.bel
  have hal := (Below.refl w6.heap.size w6).alloc (Nat.le_refl _) (.cells #[.slice B m d, .slice (some ⟨g4, 0, none⟩) q c4] 31)
  have HB7 := Lib.hid (hob6.bel.trans (hal.mono hob6.bel.size))
  have HR0 := Lib.hid (hrow0.below hal)
  have HR1 := Lib.hid (hrow1.below hal)
  have HSN := Lib.hid (Sl.fresh w6 #[.slice B m d, .slice (some ⟨g4, 0, none⟩) q c4] 31 2 _ rfl rfl)
  have HL7 := Lib.hid (HL0.out.below HB7.out (Nat.le_refl _))
  clear hw6 hT hset hrow1 hrow0 hal hob6 hob5 m0 f0 hy x0 x1 x2 x3 x4 x5 x7 x8 x10 x11 hR5 HB4 HROW HPS HSLL HSL HLP HM HL0 hwt hw1 hw2 hw3 hs0 hs1 hri hrt hq0 hqn hi hz0 hz1 hz2
  go_upto_region 6 with fail
  generalize w6.alloc (.cells #[.slice B m d, .slice (some ⟨g4, 0, none⟩) q c4] 31) = W at HB7 HSN HL7 HR0 HR1 ⊢
  generalize w6.heap.size = P at HSN ⊢
  go_loopw [43] (fun v43 wr => ∃ k : Nat, k ≤ 2 ∧ v43 = .int .i64 k ∧ Hid (Below W.heap.size W wr)) (fun v43 _ => 2 - (intOf v43).toNat)
  case atStart => exact ⟨0, by omega, rfl, Lib.hid (Below.refl _ _)⟩
  case round =>
    obtain ⟨k, hk, rfl, HBR⟩ := hrel
    by_cases hk2 : k < 2
    · have hk2i : (k : Int) < 2 := by omega
      obtain ⟨Ak, nk, ck, tk, hNk, hrk⟩ : ∃ Ak nk ck tk, ([.slice B m d, .slice (some ⟨g4, 0, none⟩) q c4] : List Value)[k]? = some (.slice Ak nk ck) ∧ Row13 W Ak nk ck tk := by
        match k, hk2 with
        | 0, _ => exact ⟨B, m, d, ts, rfl, HR0.out⟩
        | 1, _ => exact ⟨_, q, c4, T, rfl, HR1.out⟩
      have hcl := (HSN.out.below HBR.out).cell k _ hNk
      rw [Nat.zero_add] at hcl
      have hrr := hrk.below HBR.out
      have hLr := HL7.out.below HBR.out (Nat.le_refl _)
      have hadr := address13_any Ak nk ck tk wr hrr.sl hrr.le hrr.sz hrr.max hLr
      have HRR := Lib.hid hrr
      clear hNk hrk hrr hLr
      cases ha : addrR (bytesOf tk) with
      | none =>
        rw [ha] at hadr
        have hadr : Calls Tryd.prog 17 #[.slice Ak nk ck] wr fun e w' => e = .returned (.tuple #[.agg #[.string ⟨#[]⟩, .int .i64 0], .bool false]) ∧ Below wr.heap.size wr w' := hadr
        have HADR := Lib.hid hadr
        have hpq := fun w => pfx_neq ⟨#[]⟩ ⟨#[]⟩ 0 0 w
        simp only [beq_self_eq_true, Bool.and_self, Bool.not_true] at hpq
        clear hadr ha
        go_wp2_with (go_at_call 17; refine HADR.out.mono ?_; rintro e w8 ⟨rfl, hb8⟩; refine Hid.out ?_)
        refine Lib.hid ?_
        have hB8 := HBR.out.trans (hb8.mono HBR.out.size)
        have HB9 := Lib.hid (hB8.alloc hB8.size (.cells #[.string ⟨#[]⟩, .int .i64 0] 24))
        have hC8 := Cs.new w8 #[.string ⟨#[]⟩, .int .i64 0] 24 [.string ⟨#[]⟩, .int .i64 0]
        have d0 := hC8.get 0 (.string ⟨#[]⟩)
        have d1 := hC8.get 1 (.int .i64 0)
        clear hB8 hC8 hb8 HADR
        go_wp2_with fail
        go_roundw
        case rel => exact ⟨k + 1, by omega, by go_num, HB9⟩
        case measure => simp [intOf]; omega
      | some ab =>
        obtain ⟨a, b⟩ := ab
        rw [ha] at hadr
        obtain ⟨PA, hPA⟩ : ∃ PA, PA = baL a := ⟨_, rfl⟩
        have hPAd : PA.data.toList = a := by rw [hPA]; simp [baL]
        have hadr : Calls Tryd.prog 17 #[.slice Ak nk ck] wr fun e w' => e = .returned (.tuple #[.agg #[.string PA, .int .i64 b], .bool true]) ∧ Below wr.heap.size wr w' := by rw [hPA]; exact hadr
        obtain ⟨hmp, hpe⟩ := addr_some ha
        have hPAs : PA.size ≤ 16 := by
          have h := (isCut_four (mayP_cut hmp)).1
          have : PA.size = a.length := by rw [← hPAd]; simp
          omega
        rw [← hPAd] at hmp hpe
        have hmay := fun w => pmay_any PA b w (by omega)
        rw [hasB_mayP, hmp] at hmay
        have hlab := fun w => labels13_any PA b hmp w
        rw [hpe] at hlab
        obtain ⟨LS, hLS⟩ : ∃ LS, LS = bytesOf tk := ⟨_, rfl⟩
        rw [← hLS] at hlab
        have hsl : Sl wr wr.heap.size 1 Ak nk ((LS.map baL).map .string) := by
          rw [baL_strings, hLS, ← strings_sv]; exact HRR.out.sl
        have hnk := HRR.out.max
        have hLn : LS.length = nk := by have := hsl.1; simpa using this
        have HADR := Lib.hid hadr
        have HMAY := Lib.hid hmay
        have HLAB := Lib.hid hlab
        have HSL := Lib.hid hsl
        clear hadr ha hPA hPAd hmp hpe hmay hlab hLS hsl HRR
        go_wp2_with (go_at_call 17; refine HADR.out.mono ?_; rintro e w8 ⟨rfl, hb8⟩; refine Hid.out ?_)
        refine Lib.hid ?_
        have hB8 := HBR.out.trans (hb8.mono HBR.out.size)
        have hb89 := hb8.trans (((Below.refl w8.heap.size w8).alloc (Nat.le_refl _) (.cells #[.string PA, .int .i64 b] 24)).mono hb8.size)
        have HB9 := Lib.hid (hB8.alloc hB8.size (.cells #[.string PA, .int .i64 b] 24))
        have HSL9 := Lib.hid ((HSL.out.below hb89).more hb89.size)
        have HC8 := Lib.hid (Cs.new w8 #[.string PA, .int .i64 b] 24 [.string PA, .int .i64 b])
        clear hB8 hb8 hb89 HADR HSL
        go_upto_region 9 with fail
        generalize w8.alloc (.cells #[.string PA, .int .i64 b] 24) = W9 at HB9 HSL9 HC8 ⊢
        generalize w8.heap.size = P8 at HC8 ⊢
        have c0 := HC8.out.get 0 (.string PA)
        have c1 := HC8.out.get 1 (.int .i64 b)
        go_wp2_with (go_at_call 20; refine (HMAY.out _).mono ?_; rintro e w10 ⟨rfl, hb10⟩; refine Hid.out ?_)
        refine Lib.hid ?_
        have HC10 := Lib.hid (HC8.out.below hb10)
        have HB10 := Lib.hid (HB9.out.trans (hb10.mono HB9.out.size))
        have HSL10 := Lib.hid ((HSL9.out.below hb10).more hb10.size)
        clear c0 c1 hb10 HC8 HB9 HSL9 HMAY
        have c0 := HC10.out.get 0 (.string PA)
        have c1 := HC10.out.get 1 (.int .i64 b)
        go_wp2_with (go_at_call 19; refine (HLAB.out _).mono ?_; rintro e w11 ⟨v11, rfl, hb11⟩; refine Hid.out ?_)
        refine Lib.hid ?_
        rw [hLn] at hb11
        obtain ⟨A11, c11, rfl, hz1', hz2', hz3'⟩ := hb11.slice
        have hsame := same13_any A11 Ak nk c11 nk ck (LS.map baL) (LS.map baL) w11 (by rw [baL_strings]; exact hb11.sl) (HSL10.out.below hb11.bel) (by omega) (by omega)
        rw [decide_eq_true rfl] at hsame
        have HSAME := Lib.hid hsame
        have HB11 := Lib.hid (HB10.out.trans (hb11.bel.mono HB10.out.size))
        clear c0 c1 hsame hb11 hz3' HC10 HSL10 HB10 HLAB
        go_wp2_with (go_at_call 18; refine HSAME.out.mono ?_; rintro e w12 ⟨rfl, k12, rfl⟩)
        go_roundw
        case rel => exact ⟨k + 1, by omega, by go_num, Lib.hid (HB11.out.trans ((drewN_below _ k12).mono HB11.out.size))⟩
        case measure => simp [intOf]; omega
    · obtain rfl : k = 2 := by omega
      have HBF := Lib.hid (HB7.out.trans (HBR.out.mono HB7.out.size))
      go_wp2_with fail
      go_ret
      exact ⟨rfl, HBF.out⟩
end Go.Proofs.YtodpaejakgjblaaDoor
