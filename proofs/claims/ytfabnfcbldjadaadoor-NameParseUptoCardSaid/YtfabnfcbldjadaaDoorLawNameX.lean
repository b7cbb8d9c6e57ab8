/- The walk of NameParse. -/
import Derived.Test.YtfabnfcbldjadaaDoorNameQ
import Derived.Test.YtfabnfcbldjadaaDoorNameT
import Derived.Test.YtfabnfcbldjadaaDoorNameAw
import Derived.Test.YtfabnfcbldjadaaDoorLawNameL
namespace Go.Proofs.YtfabnfcbldjadaaDoor
open Go.RowKit
set_option linter.unusedVariables false
set_option linter.unusedSimpArgs false
set_option maxRecDepth 20000
theorem textOf_law {s : ByteArray} {ls : List (List UInt8)} (h : labelsOf s = some ls) : textOf s = textLaw ls := by
  unfold textOf textLaw
  rw [h]
  cases ls <;> rfl
set_option maxHeartbeats 3200000 in
theorem nameParse_walk (w : World) (hm : ML w) (s : ByteArray) (hs : s.size ≤ 1048576) :
    Calls Tryd.prog 4 #[.string s] w fun e w' => e = .returned (.bool true) ∧ Below w.heap.size w w' := by
  have HM := Lib.hid hm
  clear hm
  go_enter Tryd.func4, Tryd.ntmps4
  go_wp2_with fail
  refine (awake2_any _).mono ?_
  rintro e w1 ⟨rfl, hb1⟩
  have PA := Lib.hid (parse_any s w1 hs (HM.out.keep (Nat.le_refl _) hb1))
  have HB1 := Lib.hid hb1
  clear hb1 HM
  go_wp2_with fail
  refine PA.out.mono ?_
  clear PA
  rintro e w2 ⟨hp, hb2⟩
  have HB2 := Lib.hid (HB1.out.trans (hb2.mono HB1.out.size))
  clear hb2
  rcases hp with ⟨N, rfl, hN, hl, ht⟩ | rfl
  · have MA := may_any N w2 (by unfold maxLen; omega)
    rw [hl] at MA
    have MA := Lib.hid MA
    obtain ⟨TB, hTB⟩ : ∃ TB : ByteArray, TB = ⟨(textOf N).toArray⟩ := ⟨_, rfl⟩
    have hq : (TB.toList == s.toList) = true := by
      rw [ByteArray.toList_eq, ByteArray.toList_eq, hTB, ht]; simp
    have TX : Hid (∀ w, Calls Tryd.prog 8 #[.string N] w fun e w' => e = .returned (.string TB) ∧ Below w.heap.size w w') := Lib.hid (fun w => by rw [hTB]; exact text_any N w (by unfold maxLen; omega))
    clear hTB hl ht
    go_wp2_with fail
    refine MA.out.mono ?_
    clear MA
    rintro e w3 ⟨rfl, hb3⟩
    have HB3 := Lib.hid (HB2.out.trans (hb3.mono HB2.out.size))
    clear hb3
    go_wp2_with fail
    refine (TX.out _).mono ?_
    rintro e w4 ⟨rfl, hb4⟩
    have HB4 := Lib.hid (HB3.out.trans (hb4.mono HB3.out.size))
    clear hb4
    go_wp2_with fail
    go_ret
    exact ⟨rfl, HB4.out⟩
  · have LA := lawlabels_any s w2 (by unfold maxLen; omega)
    cases hls : labelsOf s with
    | none =>
      rw [hls] at LA
      have LA := Lib.hid LA
      clear hls
      go_wp2_with fail
      refine LA.out.mono ?_
      clear LA
      rintro e w3 ⟨v, rfl, hbuf⟩
      have HB3 := Lib.hid (HB2.out.trans ((OB.of_buf hbuf).bel.mono HB2.out.size))
      clear hbuf
      go_wp2_with fail
      go_ret
      exact ⟨rfl, HB3.out⟩
    | some ls =>
      have hlL : labelsL s = ls := by unfold labelsL; rw [hls]; rfl
      rw [hls, hlL] at LA
      have LA := Lib.hid LA
      obtain ⟨h254, hw, hok⟩ := (nameLabels_iff _ _).1 (show nameLabels s.data.toList = some ls from hls)
      have hwl : (wire ls).length ≤ 254 := by rw [← hw]; exact h254
      have htl : (textL ls).length ≤ 1048576 := by have := textL_length ls; omega
      have hsz : ∀ l ∈ ls, l.length ≤ 1048576 := fun l hl => by
        have h9 := hok l hl
        simp only [okLabel, Bool.and_eq_true, decide_eq_true_eq] at h9
        omega
      obtain ⟨TB, hTB⟩ : ∃ TB : ByteArray, TB = ⟨(textOf s).toArray⟩ := ⟨_, rfl⟩
      have TX : Hid (∀ w, Calls Tryd.prog 8 #[.string s] w fun e w' => e = .returned (.string TB) ∧ Below w.heap.size w w') := Lib.hid (fun w => by rw [hTB]; exact text_any s w (by unfold maxLen; omega))
      have TL : Hid (∀ (w : World) (A : Option Addr) (n c : Nat), Sl w w.heap.size 1 A n (ls.map sv) → n ≤ maxLen → Calls Tryd.prog 10 #[.slice A n c] w fun e w' => e = .returned (.string TB) ∧ Below w.heap.size w w') := Lib.hid (fun w A n c h1 h2 => by
        have := lawtext_any A n c ls w h1 h2 hsz htl
        rw [← textOf_law hls] at this
        rw [hTB]; exact this)
      clear hls hlL h254 hw hok hwl htl hsz hTB
      go_wp2_with fail
      refine LA.out.mono ?_
      clear LA
      rintro e w3 ⟨v, rfl, hbuf⟩
      have hob := OB.of_buf hbuf
      obtain ⟨A3, c3, rfl, h3a, h3b, -⟩ := hob.slice
      have HB3 := Lib.hid (HB2.out.trans (hob.bel.mono HB2.out.size))
      have HOB := Lib.hid hob
      clear hbuf hob
      go_wp2_with fail
      refine (TX.out _).mono ?_
      rintro e w4 ⟨rfl, hb4⟩
      have h4 := HOB.out.keep hb4 (Nat.le_refl _)
      have HB4 := Lib.hid (HB3.out.trans (hb4.mono HB3.out.size))
      have T4 := Lib.hid (TL.out w4 A3 ls.length c3 h4.sl (by unfold maxLen at h3b ⊢; omega))
      clear hb4 h4
      go_wp2_with fail
      refine T4.out.mono ?_
      rintro e w5 ⟨rfl, hb5⟩
      have HB5 := Lib.hid (HB4.out.trans (hb5.mono HB4.out.size))
      clear hb5 T4
      go_wp2_with fail
      go_ret
      exact ⟨rfl, HB5.out⟩
end Go.Proofs.YtfabnfcbldjadaaDoor
