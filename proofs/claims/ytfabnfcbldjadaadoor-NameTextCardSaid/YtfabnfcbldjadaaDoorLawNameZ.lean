/- The walk of NameText. -/
import Derived.Test.YtfabnfcbldjadaaDoorNameV
import Derived.Test.YtfabnfcbldjadaaDoorNameAw
import Derived.Test.YtfabnfcbldjadaaDoorLawNameL
import Derived.Test.YtfabnfcbldjadaaDoorView
namespace Go.Proofs.YtfabnfcbldjadaaDoor
open Go.RowKit
set_option linter.unusedVariables false
set_option linter.unusedSimpArgs false
set_option maxRecDepth 20000
set_option maxHeartbeats 3200000 in
theorem nameText_walk (w : World) (hm : ML w) (A : Option Addr) (n c : Nat) (ss : List ByteArray) (hV : SlView w A n c (ss.map .string)) (hl : ss.length = n) (hz : ∀ s ∈ ss, s.size ≤ maxLen) (hc : c ≤ 8796093021952) :
    Calls Tryd.prog 3 #[.slice A n c] w fun e w' => e = .returned (.bool true) ∧ Below w.heap.size w w' := by
  have HM := Lib.hid hm
  have HS := Lib.hid hV.sl
  have HZ := Lib.hid hz
  have hnc := hV.le
  clear hm hV hz hl
  go_enter Tryd.func3, Tryd.ntmps3
  go_wp2_with fail
  refine (awake2_any _).mono ?_
  rintro e w1 ⟨rfl, hb1⟩
  have MK := make_any A n c ss w1 ((HS.out.below hb1).more hb1.size) HZ.out (by unfold maxLen; omega)
  have HB1 := Lib.hid hb1
  clear hb1
  cases hmk : makeOf ss with
  | none =>
    rw [hmk] at MK
    obtain ⟨ZN, hZN⟩ : ∃ ZN : ByteArray, ZN = ⟨(nameOf ss).toArray⟩ := ⟨_, rfl⟩
    rw [show sv (nameOf ss) = .string ZN by rw [hZN]; rfl] at MK
    have MK := Lib.hid MK
    clear hmk hZN
    go_wp2_with fail
    refine MK.out.mono ?_
    clear MK
    rintro e w2 ⟨rfl, hb2⟩
    have HB2 := Lib.hid (HB1.out.trans (hb2.mono HB1.out.size))
    clear hb2
    go_wp2_with fail
    go_ret
    exact ⟨rfl, HB2.out⟩
  | some o =>
    have e1 : nameOf ss = o := by unfold nameOf; rw [hmk]; rfl
    rw [hmk, e1] at MK
    obtain ⟨hso, ho254⟩ := make_labels hmk
    obtain ⟨NB, hNB⟩ : ∃ NB : ByteArray, NB = ⟨o.toArray⟩ := ⟨_, rfl⟩
    rw [← hNB] at hso
    obtain ⟨lab, hlab⟩ := Option.isSome_iff_exists.1 hso
    obtain ⟨h254, hw, hok⟩ := (nameLabels_iff _ _).1 (show nameLabels NB.data.toList = some lab from hlab)
    have hoe : NB.data.toList = o := by rw [hNB]
    have hNw : NB = ⟨(wire lab).toArray⟩ := by rw [hNB, ← hoe, hw]
    have hNs : NB.size ≤ 254 := by rw [hNB, mk_size]; exact ho254
    rw [show sv o = .string NB by rw [hNB]; rfl] at MK
    have MK := Lib.hid MK
    have hwl : (wire lab).length ≤ 254 := by rw [← hw]; exact h254
    obtain ⟨TB, hTB⟩ : ∃ TB : ByteArray, TB = ⟨(textLaw lab).toArray⟩ := ⟨_, rfl⟩
    have TX : Hid (∀ w, Calls Tryd.prog 8 #[.string NB] w fun e w' => e = .returned (.string TB) ∧ Below w.heap.size w w') := Lib.hid (fun w => by
      have := text_any NB w (by unfold maxLen; omega)
      rw [textOf_law' hlab] at this
      rw [hTB]; exact this)
    have htl : (textL lab).length ≤ 1048576 := by have := textL_length lab; omega
    have hsz : ∀ l ∈ lab, l.length ≤ 1048576 := fun l hl => by
      have h9 := hok l hl
      simp only [okLabel, Bool.and_eq_true, decide_eq_true_eq] at h9
      omega
    have TL : Hid (∀ (w : World) (A : Option Addr) (n c : Nat), Sl w w.heap.size 1 A n (lab.map sv) → n ≤ maxLen → Calls Tryd.prog 10 #[.slice A n c] w fun e w' => e = .returned (.string TB) ∧ Below w.heap.size w w') := Lib.hid (fun w A n c h1 h2 => by
      have := lawtext_any A n c lab w h1 h2 hsz htl
      rw [hTB]; exact this)
    have PT : Hid (∀ w, ML w → Calls Tryd.prog 9 #[.string TB] w fun e w' => e = .returned (.tuple #[.string NB, .bool true]) ∧ Below w.heap.size w w') := Lib.hid (fun w h => by
      have := parse_text lab hok hwl w h
      rw [hTB, hNw]; exact this)
    have LA : Hid (∀ w, Calls Tryd.prog 7 #[.string NB] w fun e w' => ∃ v, e = .returned (.tuple #[v, .bool true]) ∧ Buf w.heap.size 9 w v lab.length (lab.map sv) w') := Lib.hid (fun w => by
      have := lawlabels_any NB w (by unfold maxLen; omega)
      have hlL : labelsL NB = lab := by unfold labelsL; rw [hlab]; rfl
      rw [hlab, hlL] at this
      exact this)
    have q1 : (TB.toList == TB.toList) = true := by simp
    have q2 : (NB.toList == NB.toList) = true := by simp
    clear hmk e1 hso ho254 hNB hlab h254 hw hok hoe hNw hNs hwl hTB htl hsz
    go_wp2_with fail
    refine MK.out.mono ?_
    clear MK
    rintro e w2 ⟨rfl, hb2⟩
    have HB2 := Lib.hid (HB1.out.trans (hb2.mono HB1.out.size))
    clear hb2
    go_wp2_with fail
    refine (LA.out _).mono ?_
    rintro e w3 ⟨v, rfl, hbuf⟩
    have hob := OB.of_buf hbuf
    obtain ⟨A3, c3, rfl, h3a, h3b, -⟩ := hob.slice
    have HB3 := Lib.hid (HB2.out.trans (hob.bel.mono HB2.out.size))
    have HOB := Lib.hid hob
    clear hbuf hob
    go_wp2_with fail
    refine (TX.out _).mono ?_
    rintro e w4 ⟨rfl, hb4⟩
    have HOB4 := Lib.hid (HOB.out.keep hb4 (Nat.le_refl _))
    have HB4 := Lib.hid (HB3.out.trans (hb4.mono HB3.out.size))
    clear hb4
    have P4 := Lib.hid (PT.out w4 (HM.out.keep (Nat.le_refl _) HB4.out))
    go_wp2_with fail
    refine P4.out.mono ?_
    clear P4
    rintro e w5 ⟨rfl, hb5⟩
    have HOB5 := Lib.hid (HOB4.out.keep hb5 (Nat.le_refl _))
    have HB5 := Lib.hid (HB4.out.trans (hb5.mono HB4.out.size))
    have T5 := Lib.hid (TL.out w5 A3 lab.length c3 HOB5.out.sl (by unfold maxLen at h3b ⊢; omega))
    clear hb5
    go_wp2_with fail
    refine T5.out.mono ?_
    rintro e w6 ⟨rfl, hb6⟩
    have HB6 := Lib.hid (HB5.out.trans (hb6.mono HB5.out.size))
    clear hb6 T5
    go_wp2_with fail
    go_ret
    exact ⟨rfl, HB6.out⟩
end Go.Proofs.YtfabnfcbldjadaaDoor
