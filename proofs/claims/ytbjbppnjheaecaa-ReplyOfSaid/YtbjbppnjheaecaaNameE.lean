/- The contracts of Join, Parent, Strip, Below. -/
import Derived.Test.YtbjbppnjheaecaaNameB
namespace Go.Proofs.Ytbjbppnjheaecaa
open Go.RowKit
set_option linter.unusedVariables false

/-! ### Join -/
def joinOf (s t : ByteArray) : Option ByteArray := if (labelsOf s).isSome = true ∧ (labelsOf t).isSome = true ∧ s.size + t.size ≤ 254 then some (s ++ t) else none
def strOf (o : Option ByteArray) : ByteArray := o.getD ⟨#[]⟩
theorem may_size {s : ByteArray} (h : (labelsOf s).isSome = true) : s.size ≤ 254 := by
  unfold labelsOf nameLabels at h
  split at h
  · simpa using ‹_›
  · cases h
set_option maxHeartbeats 1600000 in
theorem join_any (s t : ByteArray) (w : World) (hs : s.size ≤ maxLen) (ht : t.size ≤ maxLen) :
    Calls Try.prog 41 #[.string s, .string t] w fun e w' => e = .returned (.tuple #[.string (strOf (joinOf s t)), .bool (joinOf s t).isSome]) ∧ Below w.heap.size w w' := by
  have hms := fun w => may_any s w hs
  have hmt := fun w => may_any t w ht
  by_cases h : (labelsOf s).isSome = true ∧ (labelsOf t).isSome = true ∧ s.size + t.size ≤ 254
  · have hj : joinOf s t = some (s ++ t) := by unfold joinOf; rw [if_pos h]
    rw [hj]
    rw [h.1] at hms
    rw [h.2.1] at hmt
    have h3 : ¬ (254 : Int) < (s.size : Int) + t.size := by omega
    have h4 : s.size + t.size ≤ 254 := h.2.2
    have HS := Lib.hid hms
    have HT := Lib.hid hmt
    clear hms hmt h hj
    go_enter Try.func41, Try.ntmps41
    go_wp2_with fail
    refine (HS.out _).mono ?_
    rintro e w1 ⟨rfl, hb1⟩
    go_wp2_with fail
    refine (HT.out _).mono ?_
    rintro e w2 ⟨rfl, hb2⟩
    have hb := hb1.trans (hb2.mono hb1.size)
    clear hb1 hb2
    go_wp2_with fail
    go_ret2
    exact ⟨rfl, hb⟩
  · have hj : joinOf s t = none := by unfold joinOf; rw [if_neg h]
    rw [hj]
    have hc : (labelsOf s).isSome = false ∨ ((labelsOf s).isSome = true ∧ (labelsOf t).isSome = false) ∨ ((labelsOf s).isSome = true ∧ (labelsOf t).isSome = true ∧ 254 < s.size + t.size) := by
      cases h1 : (labelsOf s).isSome <;> cases h2 : (labelsOf t).isSome <;> simp
      rw [h1, h2] at h
      simp at h
      omega
    clear hj h
    rcases hc with h1 | ⟨h1, h2⟩ | ⟨h1, h2, h3⟩
    · rw [h1] at hms
      have HS := Lib.hid hms
      clear hms h1 hmt
      go_enter Try.func41, Try.ntmps41
      go_wp2_with fail
      refine (HS.out _).mono ?_
      rintro e w1 ⟨rfl, hb1⟩
      go_wp2_with fail
      go_ret2
      exact ⟨rfl, hb1⟩
    · rw [h1] at hms
      rw [h2] at hmt
      have HS := Lib.hid hms
      have HT := Lib.hid hmt
      clear hms h1 hmt h2
      go_enter Try.func41, Try.ntmps41
      go_wp2_with fail
      refine (HS.out _).mono ?_
      rintro e w1 ⟨rfl, hb1⟩
      go_wp2_with fail
      refine (HT.out _).mono ?_
      rintro e w2 ⟨rfl, hb2⟩
      have hb := hb1.trans (hb2.mono hb1.size)
      clear hb1 hb2
      go_wp2_with fail
      go_ret2
      exact ⟨rfl, hb⟩
    · have ms := may_size h1
      have mt := may_size h2
      rw [h1] at hms
      rw [h2] at hmt
      have h3' : (254 : Int) < (s.size : Int) + t.size := by omega
      have HS := Lib.hid hms
      have HT := Lib.hid hmt
      clear hms h1 hmt h2
      go_enter Try.func41, Try.ntmps41
      go_wp2_with fail
      refine (HS.out _).mono ?_
      rintro e w1 ⟨rfl, hb1⟩
      go_wp2_with fail
      refine (HT.out _).mono ?_
      rintro e w2 ⟨rfl, hb2⟩
      have hb := hb1.trans (hb2.mono hb1.size)
      clear hb1 hb2
      go_wp2_with fail
      go_ret2
      exact ⟨rfl, hb⟩
/-! ### Parent -/
def parentOf (s : ByteArray) : Option (List UInt8) := match labelsOf s with | some (_ :: ls) => some (wire ls) | _ => none
end Go.Proofs.Ytbjbppnjheaecaa
