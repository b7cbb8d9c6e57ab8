/- The contracts of Join, Parent, Strip, Below. -/
import Derived.Test.YtkdknfedieeenaaDoorNameB
namespace Go.Proofs.YtkdknfedieeenaaDoor
open Go.RowKit
set_option linter.unusedVariables false

/-! ### Join -/
def joinOf (s t : ByteArray) : Option ByteArray := if (labelsOf s).isSome = true ∧ (labelsOf t).isSome = true ∧ s.size + t.size ≤ 254 then some (s ++ t) else none
def strOf (o : Option ByteArray) : ByteArray := o.getD ⟨#[]⟩
theorem may_size {s : ByteArray} (h : (labelsOf s).isSome = true) : s.size ≤ 254 := by
  unfold labelsOf nameLabels at h
  split at h
  · simpa using ‹_›
  · cases h
/-! ### Parent -/
def parentOf (s : ByteArray) : Option (List UInt8) := match labelsOf s with | some (_ :: ls) => some (wire ls) | _ => none
theorem parent_bytes {s : ByteArray} {l : List UInt8} {ls : List (List UInt8)} (h : labelsOf s = some (l :: ls)) : ∃ h0 : 0 < s.size, s[0].toNat = l.length ∧ 1 + l.length ≤ s.size ∧ Value.string (s.extract (1 + l.length) s.size) = sv (wire ls) ∧ l.length ≤ 63 := by
  have h1 := (nameLabels_iff _ _).1 h
  have h2 := h1.2.2 l (by simp)
  simp only [okLabel, Bool.and_eq_true, decide_eq_true_eq] at h2
  have h3 := h1.2.1
  rw [wire_cons] at h3
  have h4 : s.data.toList.length = s.size := by simp
  have h5 : s.size = l.length + 1 + (wire ls).length := by rw [← h4, h3]; simp; omega
  have h0 : 0 < s.size := by omega
  refine ⟨h0, ?_, by omega, ?_, h2.1.2⟩
  · have h6 := toList_get s 0 h0
    rw [← h6]
    simp only [h3]
    simp
    omega
  · rw [ba_extract, h3, ← h4, h3]
    congr 1
    simp [List.extract_eq_take_drop, Nat.add_comm 1]

set_option maxHeartbeats 800000 in
theorem parent_any (s : ByteArray) (w : World) (hs : s.size ≤ maxLen) :
    Calls Tryd.prog 56 #[.string s] w fun e w' => e = .returned (.tuple #[sv ((parentOf s).getD []), .bool (parentOf s).isSome]) ∧ Below w.heap.size w w' := by
  have hms := fun w => may_any s w hs
  by_cases h0 : s.size = 0
  · have he : s = ⟨#[]⟩ := by
      apply ByteArray.ext
      apply Array.eq_empty_of_size_eq_zero
      exact h0
    subst he
    have hp : parentOf ⟨#[]⟩ = none := by rfl
    rw [hp]
    clear hp hms
    go_enter Tryd.func56, Tryd.ntmps56
    go_wp2_with fail
    go_ret2
    exact ⟨rfl, Below.refl _ _⟩
  · have hne := str_empty s h0
    have hne' := str_empty' s h0
    cases hl : labelsOf s with
    | none =>
      have hp : parentOf s = none := by unfold parentOf; rw [hl]
      rw [hl] at hms
      rw [hp]
      have HS := Lib.hid hms
      clear hms hl hp
      go_enter Tryd.func56, Tryd.ntmps56
      go_wp2_with fail
      refine (HS.out _).mono ?_
      rintro e w1 ⟨rfl, hb⟩
      go_wp2_with fail
      go_ret2
      exact ⟨rfl, hb⟩
    | some ls =>
      cases ls with
      | nil =>
        have := (nameLabels_iff _ _).1 hl
        have h4 : s.data.toList.length = s.size := by simp
        rw [this.2.1] at h4
        simp [wire] at h4
        omega
      | cons l ls =>
        obtain ⟨h0', hb0, hle, hext, h63⟩ := parent_bytes hl
        have hp : parentOf s = some (wire ls) := by unfold parentOf; rw [hl]
        rw [hl] at hms
        rw [hp]
        have HS := Lib.hid hms
        have HE := Lib.hid hext
        have hi1 : IntKind.i64.wrap (l.length : Int) = l.length := IntWalk.i64_in _ (by omega)
        clear hms hl hp hext
        go_enter Tryd.func56, Tryd.ntmps56
        go_wp2_with fail
        refine (HS.out _).mono ?_
        rintro e w1 ⟨rfl, hb⟩
        go_wp2_with fail
        go_ret2
        refine ⟨?_, hb⟩
        have := HE.out
        simp only [Option.getD_some, Option.isSome_some]
        rw [← this]
        first | rfl | trace_state
end Go.Proofs.YtkdknfedieeenaaDoor
