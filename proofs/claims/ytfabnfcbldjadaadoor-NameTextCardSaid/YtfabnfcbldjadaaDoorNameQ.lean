/- The contract of Parse. -/
import Derived.Test.YtfabnfcbldjadaaDoorNameP
import Derived.Lib.SplitLaws
namespace Go.Proofs.YtfabnfcbldjadaaDoor
open Go.RowKit
set_option linter.unusedVariables false
set_option linter.unusedSimpArgs false
set_option maxRecDepth 20000
/-- Some number stands in the variable internal/bytealg.MaxLen. -/
def ML (w : World) : Prop := ∃ m, w.cell? ⟨0, 0, none⟩ = some (.int .i64 m)
theorem ML.keep {B : Nat} {w w' : World} (h : ML w) (hB : w.heap.size ≤ B) (hb : Below B w w') : ML w' := by
  obtain ⟨m, hm⟩ := h
  have hl := World.block_lt_of_cell? w _ hm
  exact ⟨m, by rw [World.cell?_of_block (a := ⟨0, 0, none⟩) (hb.block _ (Nat.lt_of_lt_of_le hl hB))]; exact hm⟩
theorem piece_le (sep : ByteArray) : ∀ (k : Nat) (s x : ByteArray), x ∈ Lib.splitB sep 0 k s → x.size ≤ s.size
  | 0, s, x, h => by rw [Lib.splitB_zero] at h; simp at h; rw [h]; exact Nat.le_refl _
  | k + 1, s, x, h => by
    by_cases e : Lib.indexB s sep = -1
    · rw [Lib.splitB_miss _ _ _ _ e] at h; simp at h; rw [h]; exact Nat.le_refl _
    · rw [Lib.splitB, if_neg (by simp [e])] at h
      rcases List.mem_cons.1 h with rfl | h
      · rw [ByteArray.size_extract]; omega
      · have := piece_le sep k _ x h
        rw [ByteArray.size_extract] at this; omega
theorem trim_le (s p : List UInt8) : (Lib.trimSuffix s p).length ≤ s.length := by
  unfold Lib.trimSuffix; split
  · simp
  · exact Nat.le_refl _
theorem fold_low' (c : UInt8) : isUp (fold8 c) = false := by
  have v1 := fold8_val c
  cases h : isUp c with
  | true =>
    have h' := h
    simp only [isUp, decide_eq_true_eq] at h'
    rw [if_pos h] at v1
    simp only [isUp, decide_eq_false_iff_not]
    omega
  | false => simp only [fold8, h]; exact h
theorem okLabel_low' {l : List UInt8} (h : okLen l = true) : okLabel (l.map fold8) = true := by
  simp only [okLen, decide_eq_true_eq] at h
  simp only [okLabel, List.length_map, Bool.and_eq_true, decide_eq_true_eq, List.all_eq_true]
  refine ⟨h, fun x hx => ?_⟩
  obtain ⟨y, _, rfl⟩ := List.mem_map.1 hx
  rw [fold_low']; rfl
theorem make_labels {ts : List ByteArray} {o : List UInt8} (h : makeOf ts = some o) : (labelsOf ⟨o.toArray⟩).isSome = true ∧ o.length ≤ 254 := by
  unfold makeOf makeL at h
  by_cases hc : (bytesOf ts).all okLen = true ∧ (wire (lowL (bytesOf ts))).length ≤ 254
  · rw [if_pos hc] at h
    injection h with h
    subst h
    refine ⟨?_, hc.2⟩
    have : nameLabels (wire (lowL (bytesOf ts))) = some (lowL (bytesOf ts)) := (nameLabels_iff _ _).2 ⟨hc.2, rfl, fun x hx => by
      unfold lowL at hx
      obtain ⟨y, hy, rfl⟩ := List.mem_map.1 hx
      exact okLabel_low' (List.all_eq_true.1 hc.1 y hy)⟩
    unfold labelsOf
    simp only [this, Option.isSome_some]
  · rw [if_neg hc] at h; cases h
attribute [local simp] putsF isV wordOf Deps Region.binds Region.wanted Act.put wantedX isB
/-- What Parse answers. -/
def Parsed (s : ByteArray) (e : Ending) : Prop := (∃ N : ByteArray, e = .returned (.tuple #[.string N, .bool true]) ∧ N.size ≤ 254 ∧ (labelsOf N).isSome = true ∧ textOf N = s.data.toList) ∨ e = .returned (.tuple #[.string ⟨#[]⟩, .bool false])
/-- What stands behind the loop: strings of no more bytes than the text. -/
theorem ob_alloc (w : World) (l : List Value) (hl1 : ∀ u ∈ l, u.oneCell' = true) (T : TypeId) (hm : l.length ≤ maxLen) : OB w.heap.size w (.slice (some ⟨w.heap.size, 0, none⟩) l.length l.length) l.length l (w.alloc (.cells l.toArray T)) := by
  refine ⟨(Below.refl _ _).alloc (Nat.le_refl _) _, by simp, rfl, .inr ⟨w.heap.size, l.length, rfl, Nat.le_refl _, by simp, Nat.le_refl _, hm, fun j hj => ⟨?_, World.frozen?_alloc_new w _ T j⟩, fun j u hu => ?_⟩⟩
  · simp [hj]
  · simpa using hu
set_option maxHeartbeats 3200000 in
theorem parse_any (s : ByteArray) (w : World) (hs : s.size ≤ 1048576) (hm : ML w) :
    Calls Tryd.prog 9 #[.string s] w fun e w' => Parsed s e ∧ Below w.heap.size w w' := by
  obtain ⟨m, hm⟩ := hm
  obtain ⟨T, hT⟩ : ∃ T : ByteArray, T = ⟨(Lib.trimSuffix s.data.toList [46]).toArray⟩ := ⟨_, rfl⟩
  have hTs : T.size ≤ s.size := by rw [hT, mk_size]; have := trim_le s.data.toList [46]; simpa using this
  have TS : Hid (Calls Tryd.prog 19 #[.string s, .string ⟨#[46]⟩] w fun e w' => e = .returned (.string T) ∧ w' = w) := Lib.hid (by rw [hT]; exact Tryd.strings_TrimSuffix s ⟨#[46]⟩ w (by omega))
  obtain ⟨C, hC⟩ : ∃ C, C = Lib.countB T ⟨#[46]⟩ := ⟨_, rfl⟩
  have hCl : C ≤ T.size := by rw [hC]; exact Lib.countB_le _ (by decide) _ _ (Nat.le_refl _)
  have hpl : (Lib.splitB ⟨#[46]⟩ 0 C T).length = C + 1 := Lib.splitB_all _ (by decide) 0 _ _ hC.symm
  have hpe : ∀ x ∈ Lib.splitB ⟨#[46]⟩ 0 C T, x.size ≤ 1048576 := fun x hx => by have := piece_le _ _ _ x hx; omega
  have SP := Tryd.strings_Split T ⟨#[46]⟩ m w (by omega) hm (by decide)
  rw [← hC] at SP
  obtain ⟨ps, hps⟩ : ∃ ps, ps = Lib.splitB ⟨#[46]⟩ 0 C T := ⟨_, rfl⟩
  rw [← hps] at SP hpl hpe
  have SP := Lib.hid SP
  have HPE := Lib.hid hpe
  have HPL := Lib.hid hpl
  clear hC hps hT hm hpe hpl
  go_enter Tryd.func9, Tryd.ntmps9
  cases hb : (s.toList == [46]) with
  | true =>
    clear TS SP HPE HPL hCl hTs
    go_wp2_with fail
    go_loopw [16] (fun i wr => i = .int .i64 0 ∧ Hid (w = wr)) (fun _ _ => 0)
    case atStart => exact ⟨rfl, Lib.hid rfl⟩
    case round =>
      obtain ⟨rfl, hw⟩ := hrel
      obtain rfl := hw.out
      go_upto_region 9 with fail
      obtain ⟨WE, hWE⟩ : ∃ WE, WE = w := ⟨_, rfl⟩
      have HBE : Hid (Below w.heap.size w WE) := Lib.hid (by rw [hWE]; exact Below.refl _ _)
      have MK := make_any none 0 0 [] w ⟨rfl, fun h => absurd h (by omega)⟩ (fun t ht => by cases ht) (by unfold maxLen; omega)
      rw [← hWE] at MK ⊢
      have MK := Lib.hid MK
      clear hWE
      cases hmk : makeOf [] with
      | none =>
        have e1 : nameOf [] = [] := by unfold nameOf; rw [hmk]; rfl
        have MK := MK.out
        rw [hmk, e1] at MK
        have MK := Lib.hid MK
        clear hmk e1
        go_wp2_with fail
        refine MK.out.mono ?_
        clear MK
        rintro e w5 ⟨rfl, hb5⟩
        have HB5 := Lib.hid (HBE.out.trans (hb5.mono HBE.out.size))
        clear hb5
        go_wp2_with fail
        refine bodyPost_ret (v := .tuple #[.string ⟨#[]⟩, .bool false]) (by simp [results, Tryd.results9, go_sem]) rfl ?_
        exact ⟨.inr rfl, HB5.out⟩
      | some o =>
        have e1 : nameOf [] = o := by unfold nameOf; rw [hmk]; rfl
        have MK := MK.out
        rw [hmk, e1] at MK
        have MK := Lib.hid MK
        have ML2 := Lib.hid (make_labels hmk)
        obtain ⟨NB, hNB⟩ : ∃ NB : ByteArray, NB = ⟨o.toArray⟩ := ⟨_, rfl⟩
        have hNs : NB.size ≤ 254 := by rw [hNB, mk_size]; exact ML2.out.2
        have hNl : (labelsOf NB).isSome = true := by rw [hNB]; exact ML2.out.1
        obtain ⟨TB, hTB⟩ : ∃ TB : ByteArray, TB = ⟨(textOf NB).toArray⟩ := ⟨_, rfl⟩
        have TX : ∀ w, Calls Tryd.prog 8 #[.string NB] w fun e w' => e = .returned (.string TB) ∧ Below w.heap.size w w' := fun w => by rw [hTB]; exact text_any NB w (by unfold maxLen; omega)
        have MK := MK.out
        rw [show sv o = .string NB by rw [hNB]; rfl] at MK
        have MK := Lib.hid MK
        have HTX := Lib.hid TX
        have HNS := Lib.hid hNs
        have HNL := Lib.hid hNl
        have HTB := Lib.hid hTB
        clear hmk e1 hNB hTB TX hNs hNl ML2
        cases hq : (TB.toList == s.toList) with
        | true =>
          have HTE : Hid (textOf NB = s.data.toList) := Lib.hid (by
            rw [ByteArray.toList_eq, ByteArray.toList_eq] at hq
            have := of_decide_eq_true (by simpa using hq : decide (TB.data.toList = s.data.toList) = true)
            rw [← this, HTB.out])
          go_wp2_with fail
          refine MK.out.mono ?_
          clear MK
          rintro e w5 ⟨rfl, hb5⟩
          have HB5 := Lib.hid (HBE.out.trans (hb5.mono HBE.out.size))
          clear hb5
          go_wp2_with fail
          refine (HTX.out _).mono ?_
          rintro e w6 ⟨rfl, hb6⟩
          have HB6 := Lib.hid (HB5.out.trans (hb6.mono HB5.out.size))
          clear hb6
          go_wp2_with fail
          refine bodyPost_ret (v := .tuple #[.string NB, .bool true]) (by simp [results, Tryd.results9, go_sem]) rfl ?_
          exact ⟨.inl ⟨NB, rfl, HNS.out, HNL.out, HTE.out⟩, HB6.out⟩
        | false =>
          go_wp2_with fail
          refine MK.out.mono ?_
          clear MK
          rintro e w5 ⟨rfl, hb5⟩
          have HB5 := Lib.hid (HBE.out.trans (hb5.mono HBE.out.size))
          clear hb5
          go_wp2_with fail
          refine (HTX.out _).mono ?_
          rintro e w6 ⟨rfl, hb6⟩
          have HB6 := Lib.hid (HB5.out.trans (hb6.mono HB5.out.size))
          clear hb6
          go_wp2_with fail
          refine bodyPost_ret (v := .tuple #[.string ⟨#[]⟩, .bool false]) (by simp [results, Tryd.results9, go_sem]) rfl ?_
          exact ⟨.inr rfl, HB6.out⟩
  | false =>
    go_wp2_with fail
    refine TS.out.mono ?_
    clear TS
    rintro e w2 ⟨rfl, rfl⟩
    go_wp2_with fail
    refine SP.out.mono ?_
    clear SP
    rintro e w3 ⟨rfl, hw3⟩
    have ho := ob_alloc w2 (ps.map .string) (fun u hu => by obtain ⟨x, _, rfl⟩ := List.mem_map.1 hu; rfl) 9 (by rw [List.length_map, HPL.out]; unfold maxLen; omega)
    rw [List.length_map, HPL.out, ← hw3] at ho
    have HO := Lib.hid ho
    have hpp : ps.length = C + 1 := HPL.out
    clear hw3 ho
    go_wp2_with fail
    go_loopw [16] (fun i wr => ∃ (k : Nat) (ts : List ByteArray), k ≤ C + 1 ∧ i = .int .i64 k ∧ ts.length = C + 1 ∧ Hid (∀ x ∈ ts, x.size ≤ 1048576) ∧ Hid (OB w2.heap.size w2 (.slice (some ⟨w2.heap.size, 0, none⟩) (C + 1) (C + 1)) (C + 1) (ts.map .string) wr)) (fun i _ => C + 1 - (intOf i).toNat)
    case atStart => exact ⟨0, ps, Nat.zero_le _, rfl, hpp, HPE, HO⟩
    case round =>
      obtain ⟨k, ts, hk, rfl, htl, HSZ, how⟩ := hrel
      by_cases hlt : k < C + 1
      · have hlti : (k : Int) < (C : Int) + 1 := by omega
        have hlti2 : (k : Int) < ((C + 1 : Nat) : Int) := by omega
        have hkl : k < ts.length := by omega
        obtain ⟨x, hx⟩ : ∃ x, x = ts[k] := ⟨_, rfl⟩
        have c1 := how.out.cell k (.string x) (by rw [List.getElem?_map, List.getElem?_eq_getElem hkl, hx]; rfl)
        have f1 := how.out.frozen k hlt
        have hi2 : IntKind.i64.wrap ((k : Int) + 1) = (k : Int) + 1 := IntWalk.i64_in _ (by omega)
        have PL := Lib.hid (plain_any x wr (HSZ.out x (by rw [hx]; exact List.getElem_mem hkl)))
        have hxs : x.size ≤ 1048576 := HSZ.out x (by rw [hx]; exact List.getElem_mem hkl)
        have HXS := Lib.hid hxs
        clear hx f1 hxs
        go_wp2_with fail
        refine PL.out.mono ?_
        clear PL
        rintro e w5 ⟨l, rfl, hl, hb5⟩
        have h5 := how.out.keep hb5 (Nat.le_refl _)
        have c5 := h5.sl.2 (by omega)
        have f5 := h5.frozen k hlt
        obtain ⟨u5, hu5⟩ : ∃ u, (ts.map Value.string)[k]? = some u := ⟨_, List.getElem?_eq_getElem (by simpa using hkl)⟩
        have c6 := h5.cell k _ hu5
        obtain ⟨LB, hLB⟩ : ∃ LB : ByteArray, LB = ⟨l.toArray⟩ := ⟨_, rfl⟩
        have hls : LB.size ≤ 1048576 := by rw [hLB, mk_size]; have := HXS.out; omega
        rw [show sv l = .string LB by rw [hLB]; rfl]
        have h6 := h5.set k hlt (.string LB)
        have e6 : (ts.map Value.string).set k (.string LB) = (ts.set k LB).map .string := by rw [List.map_set]
        rw [e6] at h6
        have H6 := Lib.hid h6
        have HSZ2 : Hid (∀ x ∈ ts.set k LB, x.size ≤ 1048576) := Lib.hid (fun x hx => by
          rcases List.mem_or_eq_of_mem_set hx with hx | rfl
          · exact HSZ.out x hx
          · exact hls)
        have htl2 : (ts.set k LB).length = C + 1 := by rw [List.length_set]; exact htl
        have HTL2 := Lib.hid htl2
        clear h5 h6 e6 hLB hls c5 hu5 hb5 hl c1 htl2
        go_wp2_with fail
        go_roundw
        case rel => exact ⟨k + 1, ts.set k LB, by omega, by go_num, HTL2.out, HSZ2, H6⟩
        case measure => simp [intOf]; omega
      · obtain rfl : k = C + 1 := by omega
        have hge : ¬ ((C + 1 : Nat) : Int) < ((C + 1 : Nat) : Int) := by omega
        go_upto_region 9 with fail
        obtain ⟨WE, hWE⟩ : ∃ WE, WE = wr := ⟨_, rfl⟩
        have HBE : Hid (Below w2.heap.size w2 WE) := Lib.hid (by rw [hWE]; exact how.out.bel)
        have MK := make_any (some ⟨w2.heap.size, 0, none⟩) (C + 1) (C + 1) ts wr how.out.sl (fun t ht => by have := HSZ.out t ht; unfold maxLen; omega) (by unfold maxLen; omega)
        rw [← hWE] at MK ⊢
        have MK := Lib.hid MK
        clear hWE
        cases hmk : makeOf ts with
        | none =>
          have e1 : nameOf ts = [] := by unfold nameOf; rw [hmk]; rfl
          have MK := MK.out
          rw [hmk, e1] at MK
          have MK := Lib.hid MK
          clear hmk e1
          go_wp2_with fail
          refine MK.out.mono ?_
          clear MK
          rintro e w5 ⟨rfl, hb5⟩
          have HB5 := Lib.hid (HBE.out.trans (hb5.mono HBE.out.size))
          clear hb5
          go_wp2_with fail
          refine bodyPost_ret (v := .tuple #[.string ⟨#[]⟩, .bool false]) (by simp [results, Tryd.results9, go_sem]) rfl ?_
          exact ⟨.inr rfl, HB5.out⟩
        | some o =>
          have e1 : nameOf ts = o := by unfold nameOf; rw [hmk]; rfl
          have MK := MK.out
          rw [hmk, e1] at MK
          have MK := Lib.hid MK
          have ML2 := Lib.hid (make_labels hmk)
          obtain ⟨NB, hNB⟩ : ∃ NB : ByteArray, NB = ⟨o.toArray⟩ := ⟨_, rfl⟩
          have hNs : NB.size ≤ 254 := by rw [hNB, mk_size]; exact ML2.out.2
          have hNl : (labelsOf NB).isSome = true := by rw [hNB]; exact ML2.out.1
          obtain ⟨TB, hTB⟩ : ∃ TB : ByteArray, TB = ⟨(textOf NB).toArray⟩ := ⟨_, rfl⟩
          have TX : ∀ w, Calls Tryd.prog 8 #[.string NB] w fun e w' => e = .returned (.string TB) ∧ Below w.heap.size w w' := fun w => by rw [hTB]; exact text_any NB w (by unfold maxLen; omega)
          have MK := MK.out
          rw [show sv o = .string NB by rw [hNB]; rfl] at MK
          have MK := Lib.hid MK
          have HTX := Lib.hid TX
          have HNS := Lib.hid hNs
          have HNL := Lib.hid hNl
          have HTB := Lib.hid hTB
          clear hmk e1 hNB hTB TX hNs hNl ML2
          cases hq : (TB.toList == s.toList) with
          | true =>
            have HTE : Hid (textOf NB = s.data.toList) := Lib.hid (by
              rw [ByteArray.toList_eq, ByteArray.toList_eq] at hq
              have := of_decide_eq_true (by simpa using hq : decide (TB.data.toList = s.data.toList) = true)
              rw [← this, HTB.out])
            go_wp2_with fail
            refine MK.out.mono ?_
            clear MK
            rintro e w5 ⟨rfl, hb5⟩
            have HB5 := Lib.hid (HBE.out.trans (hb5.mono HBE.out.size))
            clear hb5
            go_wp2_with fail
            refine (HTX.out _).mono ?_
            rintro e w6 ⟨rfl, hb6⟩
            have HB6 := Lib.hid (HB5.out.trans (hb6.mono HB5.out.size))
            clear hb6
            go_wp2_with fail
            refine bodyPost_ret (v := .tuple #[.string NB, .bool true]) (by simp [results, Tryd.results9, go_sem]) rfl ?_
            exact ⟨.inl ⟨NB, rfl, HNS.out, HNL.out, HTE.out⟩, HB6.out⟩
          | false =>
            go_wp2_with fail
            refine MK.out.mono ?_
            clear MK
            rintro e w5 ⟨rfl, hb5⟩
            have HB5 := Lib.hid (HBE.out.trans (hb5.mono HBE.out.size))
            clear hb5
            go_wp2_with fail
            refine (HTX.out _).mono ?_
            rintro e w6 ⟨rfl, hb6⟩
            have HB6 := Lib.hid (HB5.out.trans (hb6.mono HB5.out.size))
            clear hb6
            go_wp2_with fail
            refine bodyPost_ret (v := .tuple #[.string ⟨#[]⟩, .bool false]) (by simp [results, Tryd.results9, go_sem]) rfl ?_
            exact ⟨.inr rfl, HB6.out⟩
end Go.Proofs.YtfabnfcbldjadaaDoor
