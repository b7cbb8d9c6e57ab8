/- The walk of OwnerRead. -/
import Derived.Test.YtodpaejakgjblaaDoorLawOwN
import Derived.Test.YtodpaejakgjblaaDoorNameW
namespace Go.Proofs.YtodpaejakgjblaaDoor
open Go.RowKit
set_option linter.unusedVariables false
set_option maxRecDepth 20000

theorem encV_shape (o : Option (List UInt8)) : ∃ NB b, encV o = .tuple #[.string NB, .bool b] := by
  cases o with
  | none => exact ⟨_, _, rfl⟩
  | some n => exact ⟨baL n, true, rfl⟩
def six6L : List (List UInt8) := [cAnswer, cClient, cNsip, cNsname, [120], star]
theorem six6L_len : ∀ x ∈ six6L, x.length ≤ 20 := by decide
theorem six6_cell (w : World) (z : Int) (hz : 0 ≤ z) (T : TypeId) :
    ∃ l ∈ six6L, (w.alloc (.cells #[.string ⟨#[114, 112, 122, 45, 105, 112]⟩, .string ⟨#[114, 112, 122, 45, 99, 108, 105, 101, 110, 116, 45, 105, 112]⟩, .string ⟨#[114, 112, 122, 45, 110, 115, 105, 112]⟩, .string ⟨#[114, 112, 122, 45, 110, 115, 100, 110, 97, 109, 101]⟩, .string ⟨#[120]⟩, .string ⟨#[42]⟩] T)).cell? ⟨w.heap.size, (z % 6).toNat, none⟩ = some (.string (baL l)) := by
  obtain ⟨k, hk, hk6⟩ : ∃ k : Nat, (z % 6).toNat = k ∧ k < 6 := ⟨_, rfl, by omega⟩
  rw [hk]
  have hl : k < six6L.length := hk6
  refine ⟨six6L[k], List.getElem_mem hl, ?_⟩
  have h := news_at w #[.string ⟨#[114, 112, 122, 45, 105, 112]⟩, .string ⟨#[114, 112, 122, 45, 99, 108, 105, 101, 110, 116, 45, 105, 112]⟩, .string ⟨#[114, 112, 122, 45, 110, 115, 105, 112]⟩, .string ⟨#[114, 112, 122, 45, 110, 115, 100, 110, 97, 109, 101]⟩, .string ⟨#[120]⟩, .string ⟨#[42]⟩] T k (.string (baL six6L[k]))
  rw [Addr.add_lit, Nat.zero_add] at h
  apply h
  match k, hk6 with
  | 0, _ => rfl
  | 1, _ => rfl
  | 2, _ => rfl
  | 3, _ => rfl
  | 4, _ => rfl
  | 5, _ => rfl
theorem makeL_len (ls : List (List UInt8)) : ((makeL ls).getD []).length ≤ 254 := by
  cases h : makeL ls with
  | none => simp
  | some x =>
    unfold makeL at h
    split at h
    · rename_i hc
      simp only [Option.some.injEq] at h
      subst h
      exact hc.2
    · cases h
theorem named_small {ls : List (List UInt8)} {e d : Int} {T : Trig} (h : namedR ls e d = some T) : T.name.length ≤ 254 ∧ T.addr.length ≤ 16 := by
  unfold namedR at h
  cases ls with
  | nil => cases h
  | cons l r =>
    simp only at h
    split at h
    all_goals
      simp only [Option.some.injEq] at h
      subst h
      exact ⟨makeL_len _, by simp⟩
theorem decR_small {n : List UInt8} {T : Trig} (h : decR n = some T) : T.name.length ≤ 254 ∧ T.addr.length ≤ 16 := by
  obtain ⟨ls, _, _, _, h4⟩ := decR_some h
  unfold decL at h4
  split at h4
  · exact named_small h4
  · split at h4
    · exact named_small h4
    · cases ha : addrR ls.dropLast with
      | none => rw [ha] at h4; cases h4
      | some p =>
        obtain ⟨a, b⟩ := p
        rw [ha] at h4
        simp only [Option.map_some, Option.some.injEq] at h4
        subst h4
        have := (isCut_four (mayP_cut (addr_some ha).1)).1
        exact ⟨by simp, by simp only; omega⟩
theorem baL_size (l : List UInt8) : (baL l).size = l.length := by simp [baL, ByteArray.size]
/-- What the law asks of one name. -/
structure Asked (N : ByteArray) (dv ev : Value) (tk : Int) (TN TA : ByteArray) (tb : Int) (ok : Bool) (NB : ByteArray) (is : Bool) : Prop where
  dv : dv = .tuple #[.agg #[.int .i64 tk, .string TN, .string TA, .int .i64 tb], .bool ok]
  ev : ev = .tuple #[.string NB, .bool is]
  yes : ok = true → is = true ∧ NB = N ∧ (labelsOf N).isSome = true ∧ N.size ≠ 0
  no : ok = false → tk = 0 ∧ TN = ⟨#[]⟩ ∧ TA = ⟨#[]⟩ ∧ tb = 0
  small : TN.size ≤ 140737488355328 ∧ TA.size ≤ 140737488355328
theorem asked (N : ByteArray) : ∃ tk TN TA tb ok NB is, Asked N (trigV (decR N.data.toList)) (encV (encR (toT tk TN TA tb))) tk TN TA tb ok NB is := by
  cases hd : decR N.data.toList with
  | none =>
    obtain ⟨NB, is, he⟩ := encV_shape (encR (toT 0 ⟨#[]⟩ ⟨#[]⟩ 0))
    exact ⟨0, ⟨#[]⟩, ⟨#[]⟩, 0, false, NB, is, rfl, he, fun h => by (cases h), fun _ => ⟨rfl, rfl, rfl, rfl⟩, by decide, by decide⟩
  | some T =>
    have he := enc_dec hd
    refine ⟨T.kind, baL T.name, baL T.addr, T.bits, true, N, true, rfl, ?_, fun _ => ⟨rfl, rfl, ?_, ?_⟩, fun h => by (cases h), ?_, ?_⟩
    · rw [← toT_surj, he]; show Value.tuple #[sv N.data.toList, .bool true] = _; rw [sv_bytes]
    · obtain ⟨ls, h1, h2, h3, h4⟩ := decR_some hd
      show (nameLabels N.data.toList).isSome = true
      rw [h2, h1.labels]; rfl
    · intro h0
      have : N.data.toList = [] := by
        apply List.eq_nil_of_length_eq_zero
        simpa using h0
      rw [this, decR_nil] at hd
      cases hd
    · have := decR_small hd; rw [baL_size]; omega
    · have := decR_small hd; rw [baL_size]; omega

set_option maxHeartbeats 16000000 in
theorem ownerRead_walk (w : World) (hL : LaidT w) (A : Option Addr) (n c : Nat) (zs : List Int) (SA : SlView w A n c (zs.map (Value.int .u8))) (hl : zs.length = n) (hw : ∀ z ∈ zs, (Lit.int .u8 z).wf = true) (hc : c ≤ 140737488351232)
    (raw : ByteArray) (hraw : raw.size ≤ 140737488351232) (last : Int) (hlast : (Lit.int .u8 last).wf = true) :
    Calls Tryd.prog 6 #[.slice A n c, .string raw, .int .u8 last] w fun e w' => e = .returned (.bool true) ∧ Below w.heap.size w w' := by
  obtain ⟨i0, hi, hz0, hz1, hz2⟩ := info_parts str_info
  have hz : ∀ z ∈ zs, 0 ≤ z ∧ z < 256 := fun z h => by have := bounds_u8 (hw z h); omega
  have hlb := bounds_u8 hlast
  have hA := SA.sl
  have hn : n ≤ maxLen := by have := SA.le; unfold maxLen; omega
  have hwd := fun w h => words_any A n c zs w h hz hn
  have hnm := fun w h => name_any A n c zs w h hz hn
  have hX := wordsZ_len zs
  have hX6 : ∀ x ∈ wordsZ zs, x.length ≤ 6 := fun x hx => (wordsZ_ok zs hz x hx).2.2
  obtain ⟨X, hXe⟩ : ∃ X, X = wordsZ zs := ⟨_, rfl⟩
  rw [← hXe] at hwd hX hX6
  obtain ⟨N2, hN2⟩ : ∃ N, N = baL (nameZ zs) := ⟨_, rfl⟩
  rw [show sv (nameZ zs) = .string N2 by rw [hN2]; rfl] at hnm
  have hN2s : N2.size ≤ 140737488351232 := by
    rw [hN2, baL_size]
    have h1 := few_wire (wordsZ zs) (fun x hx => (wordsZ_ok zs hz x hx).2.2)
    have h2 := wordsZ_len zs
    unfold nameZ; omega
  have HAW := Lib.hid (awake13_any w hL)
  have HWD := Lib.hid hwd
  have HNM := Lib.hid hnm
  have HA := Lib.hid hA
  have HLL := Lib.hid hL
  have HX6 := Lib.hid hX6
  have r0 : 0 ≤ last % 6 := by omega
  have r1 : last % 6 < 6 := by omega
  obtain ⟨l0, l1⟩ := hlb
  clear hwd hnm hA hL hX6 hXe hN2 SA hw hz hl hlast
  go_enter Tryd.func6, Tryd.ntmps6
  go_wp2_with (go_at_call 14; refine HAW.out.mono ?_; rintro e w1 ⟨rfl, hb1⟩; refine Hid.out ?_)
  refine Lib.hid ?_
  have HA1 := Lib.hid ((HA.out.below hb1).more hb1.size)
  have HL1 := Lib.hid (HLL.out.below hb1 (Nat.le_refl _))
  have HB1 := Lib.hid hb1
  clear hb1
  go_wp2_with (go_at_call 24; refine (HWD.out _ HA1.out).mono ?_; rintro e w2 ⟨v2, rfl, hbuf⟩; refine Hid.out ?_)
  refine Lib.hid ?_
  have HB2 := Lib.hid (HB1.out.trans (hbuf.below.mono HB1.out.size))
  obtain ⟨l6, hl6, hcell⟩ := six6_cell w2 last l0 9
  obtain ⟨S6, hS6⟩ : ∃ S, S = baL l6 := ⟨_, rfl⟩
  rw [← hS6] at hcell
  have hb3 := (hbuf.out (C := w.heap.size) (W0 := w) HB1.out.size HB1.out).alloc (.cells #[.string ⟨#[114, 112, 122, 45, 105, 112]⟩, .string ⟨#[114, 112, 122, 45, 99, 108, 105, 101, 110, 116, 45, 105, 112]⟩, .string ⟨#[114, 112, 122, 45, 110, 115, 105, 112]⟩, .string ⟨#[114, 112, 122, 45, 110, 115, 100, 110, 97, 109, 101]⟩, .string ⟨#[120]⟩, .string ⟨#[42]⟩] 9)
  have HS6 := Lib.hid hS6
  have HL6 := Lib.hid (six6L_len l6 hl6)
  clear hbuf hS6 hl6
  go_upto_region 4 with fail
  go_wp2_with (at_builtin; go_loud (refine wpList_append_one rfl _ _ 31 rfl w.heap.size 9 i0 _ 16 Tryd.underlying31 hi hz0 hz1 hz2 rfl hb3 rfl ?hx rfl ?c1 ?c2 ?_))
  case hx => exact congrArg (fun q => Value.slice (some ⟨q, 0, none⟩) 1 1) (by simp)
  case c1 => unfold maxLen; omega
  case c2 => omega
  intro v' w3 hb4
  have hmap : X.map sv ++ [Value.string S6] = (X ++ [l6]).map sv := by rw [HS6.out, List.map_append]; rfl
  rw [hmap] at hb4
  have hlen4 : (X ++ [l6]).length = X.length + 1 := by simp
  have hmk := fun A c w h => makeX_any A (X.length + 1) c (X ++ [l6]) w h (by
    intro x hx
    simp only [List.mem_append, List.mem_cons, List.not_mem_nil, or_false] at hx
    unfold maxLen
    rcases hx with hx | rfl
    · have := HX6.out x hx; omega
    · have := HL6.out; omega) (by unfold maxLen; omega)
  obtain ⟨N1, hN1⟩ : ∃ N, N = baL ((makeL (X ++ [l6])).getD []) := ⟨_, rfl⟩
  rw [show sv ((makeL (X ++ [l6])).getD []) = .string N1 by rw [hN1]; rfl] at hmk
  have hN1s : N1.size ≤ 140737488351232 := by rw [hN1, baL_size]; have := makeL_len (X ++ [l6]); omega
  obtain ⟨A4, c4, rfl, hq1, hq2, hq3⟩ := hb4.slice
  have HB4 := Lib.hid hb4.below
  have HSL4 := Lib.hid hb4.sl
  have HMK := Lib.hid hmk
  have HL4 := Lib.hid (HLL.out.below hb4.below (Nat.le_refl _))
  generalize (makeL (X ++ [l6])).isSome = ok1 at HMK
  clear hb4 hmap hlen4 hmk hN1 hq3 hb3 HS6 HL6 hcell
  go_wp2_with (go_at_call 25; refine (HMK.out _ _ _ HSL4.out).mono ?_; rintro e w4 ⟨rfl, hb5⟩; refine Hid.out ?_)
  refine Lib.hid ?_
  have HB5 := Lib.hid (HB4.out.trans (hb5.mono HB4.out.size))
  have HA5 := Lib.hid ((HA.out.below HB5.out).more HB5.out.size)
  clear hb5
  go_wp2_with (go_at_call 26; refine (HNM.out _ HA5.out).mono ?_; rintro e w5 ⟨rfl, hb6⟩; refine Hid.out ?_)
  refine Lib.hid ?_
  have hB6 := HB5.out.trans (hb6.mono HB5.out.size)
  have HB6 := Lib.hid (hB6.alloc hB6.size (.cells #[.string N1, .string N2, .string raw] 27))
  have HSN := Lib.hid (Sl.fresh w5 #[.string N1, .string N2, .string raw] 27 3 _ rfl rfl)
  have HL6' := Lib.hid (HLL.out.below HB6.out (Nat.le_refl _))
  clear hb6 hB6 HB5 HA5 HB4 HSL4 HMK HL4 HNM HWD HA HA1 HL1 HB1 HB2 HAW
  go_upto_region 7 with fail
  generalize w5.alloc (.cells #[.string N1, .string N2, .string raw] 27) = W at HB6 HSN HL6' ⊢
  generalize w5.heap.size = P at HSN ⊢
  go_loopw [39] (fun v39 wr => ∃ k : Nat, k ≤ 3 ∧ v39 = .int .i64 k ∧ Hid (Below W.heap.size W wr)) (fun v39 _ => 3 - (intOf v39).toNat)
  case atStart => exact ⟨0, by omega, rfl, Lib.hid (Below.refl _ _)⟩
  case round =>
    obtain ⟨k, hk, rfl, HBR⟩ := hrel
    by_cases hk3 : k < 3
    · have hk3i : (k : Int) < 3 := by omega
      obtain ⟨Nk, hNk, hNs⟩ : ∃ N, ([Value.string N1, .string N2, .string raw] : List Value)[k]? = some (.string N) ∧ N.size ≤ 140737488351232 := by
        match k, hk3 with
        | 0, _ => exact ⟨N1, rfl, hN1s⟩
        | 1, _ => exact ⟨N2, rfl, hN2s⟩
        | 2, _ => exact ⟨raw, rfl, hraw⟩
      have hcl := (HSN.out.below HBR.out).cell k _ hNk
      rw [Nat.zero_add] at hcl
      obtain ⟨tk, TN, TA, tb, ok, NB, is, ha⟩ := asked Nk
      have hdc := fun w h => decode_any Nk w (by omega) h
      have hec := fun w h => encode_any tk TN TA tb w ha.small.1 ha.small.2 h
      rw [ha.dv] at hdc
      rw [ha.ev] at hec
      have hmy := fun w => may_any Nk w (by unfold maxLen; omega)
      have hLr := HL6'.out.below HBR.out (Nat.le_refl _)
      have HDC := Lib.hid hdc
      have HEC := Lib.hid hec
      have HLR := Lib.hid hLr
      have hyes := ha.yes
      have hno := ha.no
      have htn := fun w => trig_neq tk 0 TN ⟨#[]⟩ TA ⟨#[]⟩ tb 0 w
      have HYES := Lib.hid hyes
      have HNO := Lib.hid hno
      have HMY := Lib.hid hmy
      have HTN := Lib.hid htn
      clear hdc hec hmy hLr hyes hno ha hNk htn
      go_wp2_with (go_at_call 22; refine (HDC.out _ HLR.out).mono ?_; rintro e w7 ⟨rfl, hb7⟩; refine Hid.out ?_)
      refine Lib.hid ?_
      have hC7 := Cs.new w7 #[.int .i64 tk, .string TN, .string TA, .int .i64 tb] 29 [.int .i64 tk, .string TN, .string TA, .int .i64 tb]
      have hB7 := HBR.out.trans (hb7.mono HBR.out.size)
      have HB7 := Lib.hid (hB7.alloc hB7.size (.cells #[.int .i64 tk, .string TN, .string TA, .int .i64 tb] 29))
      have HL7 := Lib.hid (HL6'.out.below HB7.out (Nat.le_refl _))
      have HC7 := Lib.hid hC7
      clear hb7 hC7 hB7
      go_wp2_with (go_at_call 21; refine (HEC.out _ HL7.out).mono ?_; rintro e w8 ⟨rfl, hb8⟩; refine Hid.out ?_)
      refine Lib.hid ?_
      have hC8 := HC7.out.below hb8
      have k0 := hC8.get 0 (.int .i64 tk)
      have k1 := hC8.get 1 (.string TN)
      have k2 := hC8.get 2 (.string TA)
      have k3 := hC8.get 3 (.int .i64 tb)
      have HB8 := Lib.hid (HB7.out.trans (hb8.mono HB7.out.size))
      generalize w7.heap.size = P7 at k0 k1 k2 k3 ⊢
      clear hb8 hC8 HC7 HL7 HB7
      cases ok with
      | true =>
        obtain ⟨rfl, rfl, hms, hne⟩ := HYES.out rfl
        have hem : (NB.toList == []) = false := str_empty NB hne
        have hem2 := str_empty' NB hne
        have HMY2 := HMY.out
        rw [hms] at HMY2
        have HMY3 := Lib.hid HMY2
        clear HYES HNO HTN HMY HMY2 hms hne
        go_wp2_with (go_at_call 27; refine (HMY3.out _).mono ?_; rintro e w9 ⟨rfl, hb9⟩)
        go_roundw
        case rel => exact ⟨k + 1, by omega, by go_num, Lib.hid (HB8.out.trans (hb9.mono HB8.out.size))⟩
        case measure => simp [intOf]; omega
      | false =>
        obtain ⟨rfl, rfl, rfl, rfl⟩ := HNO.out rfl
        have htn := HTN.out
        rw [trigEq_iff, decide_eq_true rfl] at htn
        clear HYES HNO HTN
        go_wp2_with (go_at_call 27; refine (HMY.out _).mono ?_; rintro e w9 ⟨rfl, hb9⟩)
        all_goals exact ⟨⟨k + 1, by omega, by go_num, Lib.hid (HB8.out.trans (hb9.mono HB8.out.size))⟩, by simp [intOf]; omega⟩
    · obtain rfl : k = 3 := by omega
      have HBF := Lib.hid (HB6.out.trans (HBR.out.mono HB6.out.size))
      go_wp2_with fail
      go_ret
      exact ⟨rfl, HBF.out⟩
end Go.Proofs.YtodpaejakgjblaaDoor
