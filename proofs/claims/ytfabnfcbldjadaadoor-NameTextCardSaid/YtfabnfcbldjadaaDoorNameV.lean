/- Parse of the text of a name is the name. -/
import Derived.Test.YtfabnfcbldjadaaDoorNameQ
import Derived.Test.YtfabnfcbldjadaaDoorNameU
import Derived.Test.YtfabnfcbldjadaaDoorNameT
namespace Go.Proofs.YtfabnfcbldjadaaDoor
open Go.RowKit
set_option linter.unusedVariables false
set_option linter.unusedSimpArgs false
set_option maxRecDepth 20000
theorem okLabel_fold' {x : List UInt8} (h : okLabel x = true) : x.map fold8 = x := by
  simp only [okLabel, Bool.and_eq_true, List.all_eq_true] at h
  have : x.map fold8 = x.map id := List.map_congr_left fun c hc => by
    have := h.2 c hc
    unfold fold8
    rw [if_neg (by simpa using this)]; rfl
  rw [this, List.map_id]
theorem ok_make' {ls : List (List UInt8)} (h : ∀ x ∈ ls, okLabel x = true) (hl : (wire ls).length ≤ 254) : makeL ls = some (wire ls) := by
  have hlow : lowL ls = ls := by
    unfold lowL
    have : ls.map (·.map fold8) = ls.map id := List.map_congr_left fun x hx => okLabel_fold' (h x hx)
    rw [this, List.map_id]
  unfold makeL
  rw [hlow, if_pos ⟨List.all_eq_true.2 fun x hx => by
    have h9 := h x hx
    simp only [okLabel, Bool.and_eq_true, decide_eq_true_eq] at h9
    unfold okLen; simpa using h9.1, hl⟩]
theorem textOf_law' {s : ByteArray} {ls : List (List UInt8)} (h : labelsOf s = some ls) : textOf s = textLaw ls := by
  unfold textOf textLaw
  rw [h]
  cases ls <;> rfl
def mkB (l : List UInt8) : ByteArray := ⟨l.toArray⟩
theorem bytesOf_mk (ls : List (List UInt8)) : bytesOf (ls.map mkB) = ls := by
  unfold bytesOf; rw [List.map_map]
  have : ((fun x : ByteArray => x.data.toList) ∘ mkB) = id := by funext x; simp [mkB]
  rw [this, List.map_id]
theorem make_mk {ls : List (List UInt8)} (h : ∀ x ∈ ls, okLabel x = true) (hl : (wire ls).length ≤ 254) : makeOf (ls.map mkB) = some (wire ls) := by
  unfold makeOf; rw [bytesOf_mk]; exact ok_make' h hl
attribute [local simp] putsF isV wordOf Deps Region.binds Region.wanted Act.put wantedX isB
set_option maxHeartbeats 3200000 in
theorem parse_text (ls : List (List UInt8)) (hok : ∀ x ∈ ls, okLabel x = true) (hwl : (wire ls).length ≤ 254) (w : World) (hm : ML w) :
    Calls Tryd.prog 9 #[.string ⟨(textLaw ls).toArray⟩] w fun e w' => e = .returned (.tuple #[.string ⟨(wire ls).toArray⟩, .bool true]) ∧ Below w.heap.size w w' := by
  obtain ⟨m, hm⟩ := hm
  have htl := textL_length ls
  obtain ⟨s, hs⟩ : ∃ s : ByteArray, s = ⟨(textLaw ls).toArray⟩ := ⟨_, rfl⟩
  rw [← hs]
  have HSE := Lib.hid hs
  have HOK := Lib.hid hok
  have HWL := Lib.hid hwl
  cases hls : ls with
  | nil =>
    have hb : (s.toList == [46]) = true := by rw [hs, hls]; decide +kernel
    clear hok hwl hs htl
    rw [← hls]
    go_enter Tryd.func9, Tryd.ntmps9
    go_wp2_with fail
    go_loopw [16] (fun i wr => i = .int .i64 0 ∧ Hid (w = wr)) (fun _ _ => 0)
    case atStart => exact ⟨rfl, Lib.hid rfl⟩
    case round =>
      obtain ⟨rfl, hw⟩ := hrel
      obtain rfl := hw.out
      go_upto_region 9 with fail
      obtain ⟨WE, hWE⟩ : ∃ WE, WE = w := ⟨_, rfl⟩
      have HBE : Hid (Below w.heap.size w WE) := Lib.hid (by rw [hWE]; exact Below.refl _ _)
      have MK := make_any none 0 0 [] w ⟨rfl, fun h => absurd h (by omega)⟩ (fun t ht => by cases ht) (by unfold maxLen; omega)
      rw [← hWE] at MK ⊢
      have hmk : makeOf [] = some (wire ls) := by rw [hls]; exact make_mk (ls := []) (by intro x hx; cases hx) (by decide)
      have e1 : nameOf [] = wire ls := by unfold nameOf; rw [hmk]; rfl
      rw [hmk, e1] at MK
      obtain ⟨NB, hNB⟩ : ∃ NB : ByteArray, NB = ⟨(wire ls).toArray⟩ := ⟨_, rfl⟩
      rw [show sv (wire ls) = .string NB by rw [hNB]; rfl] at MK
      have MK := Lib.hid MK
      have hlab : labelsOf NB = some ls := by rw [hNB]; exact (nameLabels_iff _ _).2 ⟨by simpa using HWL.out, by simp, HOK.out⟩
      have hNs : NB.size ≤ 254 := by rw [hNB, mk_size]; exact HWL.out
      have TX : Hid (∀ w, Calls Tryd.prog 8 #[.string NB] w fun e w' => e = .returned (.string s) ∧ Below w.heap.size w w') := Lib.hid (fun w => by
        have := text_any NB w (by unfold maxLen; omega)
        rw [textOf_law' hlab] at this
        rw [HSE.out]; exact this)
      have hq : (s.toList == s.toList) = true := by simp
      have HNB := Lib.hid hNB
      clear hmk e1 hNB hlab hNs hWE
      go_wp2_with fail
      refine MK.out.mono ?_
      clear MK
      rintro e w5 ⟨rfl, hb5⟩
      have HB5 := Lib.hid (HBE.out.trans (hb5.mono HBE.out.size))
      clear hb5
      go_wp2_with fail
      refine (TX.out _).mono ?_
      rintro e w6 ⟨rfl, hb6⟩
      have HB6 := Lib.hid (HB5.out.trans (hb6.mono HB5.out.size))
      clear hb6
      go_wp2_with fail
      refine bodyPost_ret (v := .tuple #[.string NB, .bool true]) (by simp [results, Tryd.results9, go_sem]) rfl ?_
      exact ⟨by rw [HNB.out], HB6.out⟩
  | cons l0 r0 =>
    obtain ⟨T, hT⟩ : ∃ T : ByteArray, T = ⟨(joinL ls).toArray⟩ := ⟨_, rfl⟩
    have hsl : s.data.toList = textL ls := by rw [hs, hls]; rfl
    have htw : (textL ls).length ≤ 1016 := by omega
    have hs1 : s.size ≤ 1016 := by rw [hs, mk_size]; rw [hls]; rw [hls] at htw; exact htw
    have TS : Hid (Calls Tryd.prog 19 #[.string s, .string ⟨#[46]⟩] w fun e w' => e = .returned (.string T) ∧ w' = w) := Lib.hid (by
      have := Tryd.strings_TrimSuffix s ⟨#[46]⟩ w (by omega)
      rw [hsl, show (ByteArray.mk #[46]).data.toList = [46] from rfl, hls, trim_join] at this
      rw [hT, hls]; exact this)
    have hsp := split_text l0 r0 T (by rw [hT, hls])
    obtain ⟨C, hC⟩ : ∃ C, C = r0.length := ⟨_, rfl⟩
    have hTs : T.size ≤ 1016 := by rw [hT, mk_size]; have := textL_join l0 r0; rw [hls] at htw ⊢; rw [this] at htw; simp at htw; omega
    have SP := Tryd.strings_Split T ⟨#[46]⟩ m w (by omega) hm (by decide)
    rw [hsp.1, hsp.2, ← hC] at SP
    have hCl : ls.length = C + 1 := by rw [hls, hC]; rfl
    have hCb : C ≤ 1016 := by
      have h1 : ∀ x : List (List UInt8), x.length ≤ (textL x).length := by
        intro x
        induction x with
        | nil => exact Nat.le_refl _
        | cons a b ih => simp only [textL, List.flatMap_cons, List.length_append, List.length_cons] at ih ⊢; omega
      have := h1 ls
      omega
    rw [← hls] at SP
    have SP := Lib.hid SP
    have HSG : Hid (∀ x ∈ ls, (signs x).length ≤ 1048576 ∧ x.length ≤ maxLen) := Lib.hid (fun x hx => by
      have h9 := hok x hx
      simp only [okLabel, Bool.and_eq_true, decide_eq_true_eq] at h9
      have := signs_length x
      unfold signs
      unfold maxLen
      omega)
    have HCL := Lib.hid hCl
    have hb : (s.toList == [46]) = false := by
      rw [ByteArray.toList_eq, hsl, hls]
      have h9 := hok l0 (by rw [hls]; simp)
      simp only [okLabel, Bool.and_eq_true, decide_eq_true_eq] at h9
      rw [beq_eq_false_iff_ne]
      intro e
      have h2 := congrArg List.length e
      have h3 : ∀ c : UInt8, 1 ≤ (signL c).length := fun c => by unfold signL; split <;> simp
      match l0, h9 with
      | c0 :: l1, _ =>
        have := h3 c0
        simp [textL] at h2
        omega
    rw [← hls]
    clear hok hwl hs htl hls hT hsl htw hs1 hsp hC hTs hm
    go_enter Tryd.func9, Tryd.ntmps9
    go_wp2_with fail
    refine TS.out.mono ?_
    clear TS
    rintro e w2 ⟨rfl, rfl⟩
    go_wp2_with fail
    refine SP.out.mono ?_
    clear SP
    rintro e w3 ⟨rfl, hw3⟩
    have ho := ob_alloc w2 ((ls.map fun x => ByteArray.mk (signs x).toArray).map .string) (fun u hu => by obtain ⟨x, _, rfl⟩ := List.mem_map.1 hu; rfl) 9 (by rw [List.length_map, List.length_map, HCL.out]; unfold maxLen; omega)
    rw [List.length_map, List.length_map, HCL.out, ← hw3] at ho
    have HO := Lib.hid ho
    clear hw3 ho
    go_wp2_with fail
    go_loopw [16] (fun i wr => ∃ k : Nat, k ≤ C + 1 ∧ i = .int .i64 k ∧ Hid (OB w2.heap.size w2 (.slice (some ⟨w2.heap.size, 0, none⟩) (C + 1) (C + 1)) (C + 1) (((ls.take k).map mkB ++ (ls.drop k).map fun x => ByteArray.mk (signs x).toArray).map .string) wr)) (fun i _ => C + 1 - (intOf i).toNat)
    case atStart => exact ⟨0, Nat.zero_le _, rfl, Lib.hid (by simpa using HO.out)⟩
    case round =>
      obtain ⟨k, hk, rfl, how⟩ := hrel
      by_cases hlt : k < C + 1
      · have hlti : (k : Int) < (C : Int) + 1 := by omega
        have hkl : k < ls.length := by rw [HCL.out]; exact hlt
        obtain ⟨x, hx⟩ : ∃ x, x = ls[k] := ⟨_, rfl⟩
        have hxm : x ∈ ls := by rw [hx]; exact List.getElem_mem hkl
        have hdk : (ls.drop k).map (fun x => ByteArray.mk (signs x).toArray) = ByteArray.mk (signs x).toArray :: (ls.drop (k + 1)).map fun x => ByteArray.mk (signs x).toArray := by
          rw [List.drop_eq_getElem_cons hkl, List.map_cons, hx]
        obtain ⟨SX, hSX⟩ : ∃ SX : ByteArray, SX = ⟨(signs x).toArray⟩ := ⟨_, rfl⟩
        have hlen1 : ((ls.take k).map mkB).length = k := by simp; omega
        have how' := how.out
        rw [hdk, ← hSX] at how'
        have hget : (((ls.take k).map mkB ++ SX :: (ls.drop (k + 1)).map fun x => ByteArray.mk (signs x).toArray).map Value.string)[k]? = some (.string SX) := by
          rw [List.getElem?_map, List.getElem?_append_right (by omega), hlen1, Nat.sub_self]; rfl
        have c1 := how'.cell k _ hget
        have hi2 : IntKind.i64.wrap ((k : Int) + 1) = (k : Int) + 1 := IntWalk.i64_in _ (by omega)
        have PL := plain_signs x wr (HSG.out x hxm).1
        rw [← hSX] at PL
        have PL := Lib.hid PL
        have hset : (((ls.take k).map mkB ++ SX :: (ls.drop (k + 1)).map fun x => ByteArray.mk (signs x).toArray).map Value.string).set k (.string (mkB x)) = (((ls.take (k + 1)).map mkB ++ (ls.drop (k + 1)).map fun x => ByteArray.mk (signs x).toArray).map Value.string) := by
          rw [List.take_succ_eq_append_getElem hkl, ← hx, List.map_append, List.map_append, List.map_append, List.map_append, List.set_append_right _ _ (by rw [List.length_map, hlen1]; exact Nat.le_refl _), List.length_map, hlen1, Nat.sub_self]
          simp
        have HOW := Lib.hid how'
        have HSET := Lib.hid hset
        have HGET := Lib.hid hget
        clear hx hdk hSX how' hset hget hlen1
        go_wp2_with fail
        refine PL.out.mono ?_
        clear PL
        rintro e w5 ⟨rfl, hb5⟩
        have h5 := HOW.out.keep hb5 (Nat.le_refl _)
        have f5 := h5.frozen k hlt
        have c6 := h5.cell k _ HGET.out
        obtain ⟨LB, hLB⟩ : ∃ LB : ByteArray, LB = mkB x := ⟨_, rfl⟩
        rw [show sv x = .string LB by rw [hLB]; rfl]
        have h6 := h5.set k hlt (.string LB)
        rw [hLB, HSET.out, ← hLB] at h6
        have H6 := Lib.hid h6
        clear h5 h6 hLB hb5 c1
        go_wp2_with fail
        go_roundw
        case rel => exact ⟨k + 1, by omega, by go_num, H6⟩
        case measure => simp [intOf]; omega
      · obtain rfl : k = C + 1 := by omega
        have hge : ¬ ((C + 1 : Nat) : Int) < ((C + 1 : Nat) : Int) := by omega
        have how' := how.out
        rw [← HCL.out, List.take_length, List.drop_length, List.map_nil, List.append_nil, HCL.out] at how'
        have HOW := Lib.hid how'
        clear how how'
        go_upto_region 9 with fail
        obtain ⟨WE, hWE⟩ : ∃ WE, WE = wr := ⟨_, rfl⟩
        have HBE : Hid (Below w2.heap.size w2 WE) := Lib.hid (by rw [hWE]; exact HOW.out.bel)
        have MK := make_any (some ⟨w2.heap.size, 0, none⟩) (C + 1) (C + 1) (ls.map mkB) wr HOW.out.sl (fun t ht => by obtain ⟨x, hx, rfl⟩ := List.mem_map.1 ht; unfold mkB; rw [mk_size]; exact (HSG.out x hx).2) (by unfold maxLen; omega)
        rw [← hWE] at MK ⊢
        have hmk : makeOf (ls.map mkB) = some (wire ls) := make_mk HOK.out HWL.out
        have e1 : nameOf (ls.map mkB) = wire ls := by unfold nameOf; rw [hmk]; rfl
        rw [hmk, e1] at MK
        obtain ⟨NB, hNB⟩ : ∃ NB : ByteArray, NB = ⟨(wire ls).toArray⟩ := ⟨_, rfl⟩
        rw [show sv (wire ls) = .string NB by rw [hNB]; rfl] at MK
        have MK := Lib.hid MK
        have hlab : labelsOf NB = some ls := by rw [hNB]; exact (nameLabels_iff _ _).2 ⟨by simpa using HWL.out, by simp, HOK.out⟩
        have hNs : NB.size ≤ 254 := by rw [hNB, mk_size]; exact HWL.out
        have TX : Hid (∀ w, Calls Tryd.prog 8 #[.string NB] w fun e w' => e = .returned (.string s) ∧ Below w.heap.size w w') := Lib.hid (fun w => by
          have := text_any NB w (by unfold maxLen; omega)
          rw [textOf_law' hlab] at this
          rw [HSE.out]; exact this)
        have hq : (s.toList == s.toList) = true := by simp
        have HNB := Lib.hid hNB
        clear hmk e1 hNB hlab hNs hWE
        go_wp2_with fail
        refine MK.out.mono ?_
        clear MK
        rintro e w5 ⟨rfl, hb5⟩
        have HB5 := Lib.hid (HBE.out.trans (hb5.mono HBE.out.size))
        clear hb5
        go_wp2_with fail
        refine (TX.out _).mono ?_
        rintro e w6 ⟨rfl, hb6⟩
        have HB6 := Lib.hid (HB5.out.trans (hb6.mono HB5.out.size))
        clear hb6
        go_wp2_with fail
        refine bodyPost_ret (v := .tuple #[.string NB, .bool true]) (by simp [results, Tryd.results9, go_sem]) rfl ?_
        exact ⟨by rw [HNB.out], HB6.out⟩
end Go.Proofs.YtfabnfcbldjadaaDoor
