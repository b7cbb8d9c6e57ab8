/- The walk of NameJoin. -/
import Derived.Test.YthhlgogokcblgabNameAw
import Derived.Test.YthhlgogokcblgabBuf2
import Derived.Test.YthhlgogokcblgabLawNameS
import Derived.Test.YthhlgogokcblgabLawNameL
namespace Go.Proofs.Ythhlgogokcblgab
open Go.RowKit
set_option linter.unusedVariables false

theorem one_strings (l : List (List UInt8)) : ∀ u ∈ l.map sv, u.oneCell' = true := by
  intro u hu
  obtain ⟨_, _, rfl⟩ := List.mem_map.1 hu
  rfl
theorem labels_len {s : ByteArray} {ls : List (List UInt8)} (h : labelsOf s = some ls) : ls.length ≤ 254 := by
  have h1 := (nameLabels_iff _ _).1 h
  have h2 : ∀ l : List (List UInt8), l.length ≤ (wire l).length := by
    intro l
    induction l with
    | nil => simp
    | cons a l ih => rw [wire_length_cons]; simp; omega
  have h3 := h2 ls
  rw [← h1.2.1] at h3
  omega
theorem labelsL_len (s : ByteArray) : (labelsL s).length ≤ 254 := by
  unfold labelsL
  cases h : labelsOf s with
  | none => simp
  | some ls => exact labels_len h
theorem labels_join {s t : ByteArray} {xs ys : List (List UInt8)} (h1 : labelsOf s = some xs) (h2 : labelsOf t = some ys) (h : s.size + t.size ≤ 254) : labelsOf (s ++ t) = some (xs ++ ys) := by
  have a1 := (nameLabels_iff _ _).1 h1
  have a2 := (nameLabels_iff _ _).1 h2
  refine (nameLabels_iff _ _).2 ⟨?_, ?_, ?_⟩
  · simp at a1 a2 ⊢; omega
  · rw [wire_append, ← a1.2.1, ← a2.2.1]; simp
  · intro x hx
    rcases List.mem_append.1 hx with hx | hx
    · exact a1.2.2 x hx
    · exact a2.2.2 x hx
theorem strip_join {s t : ByteArray} {xs ys : List (List UInt8)} (h1 : labelsOf s = some xs) (h2 : labelsOf t = some ys) (h : s.size + t.size ≤ 254) : stripOf (s ++ t) t = some (wire xs) := by
  unfold stripOf
  rw [labels_join h1 h2 h, h2]
  simp only
  rw [stripL_found (k := xs.length) (by simp) (by simp)]
  simp

set_option maxHeartbeats 3200000 in
theorem nameJoin_walk (w : World) (a : ByteArray) (ha : a.size ≤ 140737488351232) (b : ByteArray) (hb : b.size ≤ 140737488351232) :
    Calls Try.prog 3 #[.string a, .string b] w fun e w' => e = .returned (.bool true) ∧ Below w.heap.size w w' := by
  obtain ⟨i0, hi, hz0, hz1, hz2⟩ := info_parts str_info
  have ha' : a.size ≤ maxLen := by unfold maxLen; omega
  have hb' : b.size ≤ maxLen := by unfold maxLen; omega
  have l1 := fun w => lawlabels_any a w ha'
  have l2 := fun w => lawlabels_any b w hb'
  have j1 := fun w => join_any a b w ha' hb'
  have b1 := fun w => below_any a b w ha' hb'
  by_cases h : (labelsOf a).isSome = true ∧ (labelsOf b).isSome = true ∧ a.size + b.size ≤ 254
  · obtain ⟨h1, h2, h3⟩ := h
    have hj : joinOf a b = some (a ++ b) := by unfold joinOf; rw [if_pos ⟨h1, h2, h3⟩]
    obtain ⟨xs, hx⟩ := Option.isSome_iff_exists.1 h1
    obtain ⟨ys, hy⟩ := Option.isSome_iff_exists.1 h2
    have hlj := labels_join hx hy h3
    have hsj := strip_join hx hy h3
    have hx' : labelsL a = xs := by unfold labelsL; rw [hx]; rfl
    have hy' : labelsL b = ys := by unfold labelsL; rw [hy]; rfl
    have hlj' : labelsL (a ++ b) = xs ++ ys := by unfold labelsL; rw [hlj]; rfl
    have hab : (a ++ b).size ≤ maxLen := by rw [ByteArray.size_append]; unfold maxLen; omega
    have l3 := fun w => labels_any (a ++ b) w hab
    have b2 := fun w => below_any (a ++ b) b w hab hb'
    rw [hlj, hlj'] at l3
    rw [hsj] at b2
    rw [hx, hx'] at l1
    rw [hy, hy'] at l2
    rw [hj] at j1
    have nx := labels_len hx
    have ny := labels_len hy
    have h3' : ¬ (254 : Int) < (a.size : Int) + b.size := by omega
    have L1 := Lib.hid l1
    have L2 := Lib.hid l2
    have L3 := Lib.hid l3
    have J1 := Lib.hid j1
    have B2 := Lib.hid b2
    clear l1 l2 l3 j1 b1 b2 hlj hsj hx' hy' hlj' hab hj h1 h2 hx hy
    go_enter Try.func3, Try.ntmps3
    go_wp2_with fail
    refine (awake2_any _).mono ?_
    rintro e w1 ⟨rfl, hb1⟩
    go_wp2_with fail
    refine (L1.out _).mono ?_
    rintro e w2 ⟨v, rfl, hb2⟩
    obtain ⟨A, c, rfl, hc1, hc2, hc3⟩ := hb2.slice
    have hB2 := below_trans hb1 hb1.size hb2.below
    have hS2 := hb2.sl
    have hz2' := hB2.size
    clear hb1 hb2
    go_wp2_with fail
    refine (L2.out _).mono ?_
    rintro e w3 ⟨v, rfl, hb3⟩
    obtain ⟨D, d, rfl, hd1, hd2, hd3⟩ := hb3.slice
    have hB3 := below_trans hB2 hz2' hb3.below
    have hS3 := hb3.sl
    have hS23 := (hS2.below hb3.below).more hb3.below.size
    have hz3 := hB3.size
    clear hb3 hS2 hB2 hz2'
    go_wp2_with fail
    refine (J1.out _).mono ?_
    rintro e w4 ⟨rfl, hb4⟩
    have hB4 := below_trans hB3 hz3 hb4
    have hz4 := hB4.size
    have hSx := (hS23.below hb4).more hb4.size
    have hSy := (hS3.below hb4).more hb4.size
    clear hS3 hS23 hB3 hz3 hb4
    go_wp2_with fail
    refine (L3.out _).mono ?_
    rintro e w5 ⟨v, rfl, hb5⟩
    obtain ⟨E, g, rfl, hg1, hg2, hg3⟩ := hb5.slice
    have hB5 := below_trans hB4 hz4 hb5.below
    have hz5 := hB5.size
    have hSx5 := (hSx.below hb5.below).more hb5.below.size
    have hSy5 := (hSy.below hb5.below).more hb5.below.size
    have hS5 := hb5.sl
    have hlen5 : (xs ++ ys).length = xs.length + ys.length := by simp
    rw [hlen5] at hS5
    clear hSx hSy hB4 hz4 hb5
    have hst := Buf.start w5 9
    go_wp2_with (at_builtin; go_loud (refine wpList_append_all rfl _ _ 23 rfl w5.heap.size 9 i0 _ 16 Try.underlying23 hi hz0 hz1 hz2 rfl hst rfl hSx5 hc3 rfl (one_strings _) ?c1 ?c2 ?_))
    case c1 => unfold maxLen; omega
    case c2 => omega
    intro v6 w6 hb6
    try simp only [Nat.zero_add, List.nil_append] at hb6
    have hSy6 := (hSy5.below' hb6.below (Nat.le_refl _))
    have hS6 := (hS5.below' hb6.below (Nat.le_refl _))
    go_wp2_with (at_builtin; go_loud (refine wpList_append_all rfl _ _ 23 rfl w5.heap.size 9 i0 _ 16 Try.underlying23 hi hz0 hz1 hz2 rfl hb6 rfl hSy6 hd3 rfl (one_strings _) ?d1 ?d2 ?_))
    case d1 => unfold maxLen; omega
    case d2 => omega
    intro v7 w7 hb7
    obtain ⟨F, f, rfl, hf1, hf2, hf3⟩ := hb7.slice
    have hB7 := below_trans hB5 hz5 hb7.below
    have hz7 := hB7.size
    have hS7 := (hS5.below' hb7.below (Nat.le_refl _)).more hb7.below.size
    have hT7 := hb7.sl
    rw [← List.map_append] at hT7
    clear hSx5 hSy5 hS5 hSy6 hS6 hb6 hb7 hB5 hz5 hst
    go_wp2_with fail
    refine (same_any E (xs.length + ys.length) g (xs ++ ys) F (xs.length + ys.length) f (xs ++ ys) _ _ hS7 hT7 (by unfold maxLen; omega)).mono ?_
    rintro e w8 ⟨rfl, k, rfl⟩
    rw [decide_eq_true rfl]
    have hB8 := below_drewN hB7 k
    have hz8 := hB8.size
    clear hB7 hS7 hT7
    go_wp2_with fail
    refine (B2.out _).mono ?_
    rintro e w9 ⟨rfl, hb9⟩
    have hB9 := below_trans hB8 hz8 hb9
    clear hB8 hb9
    go_wp2_with fail
    go_ret
    exact ⟨rfl, hB9⟩
  · have hj : joinOf a b = none := by unfold joinOf; rw [if_neg h]
    rw [hj, show strOf none = ⟨#[]⟩ from rfl] at j1
    have hbn : (labelsOf a).isSome = false → (stripOf a b).isSome = false := by
      intro h0
      unfold stripOf
      rw [Option.isSome_eq_false_iff, Option.isNone_iff_eq_none] at h0
      rw [h0]; rfl
    have nx := labelsL_len a
    have ny := labelsL_len b
    have hc : (labelsOf a).isSome = false ∨ ((labelsOf a).isSome = true ∧ (labelsOf b).isSome = false) ∨ ((labelsOf a).isSome = true ∧ (labelsOf b).isSome = true ∧ 254 < a.size + b.size) := by
      cases h1 : (labelsOf a).isSome <;> cases h2 : (labelsOf b).isSome <;> simp
      rw [h1, h2] at h
      simp at h
      omega
    clear hj h
    rcases hc with h1 | ⟨h1, h2⟩ | ⟨h1, h2, h3⟩
    · rw [h1] at l1
      rw [hbn h1] at b1
      generalize (labelsOf b).isSome = ok at *
      have L1 := Lib.hid l1
      have L2 := Lib.hid l2
      have J1 := Lib.hid j1
      have B1 := Lib.hid b1
      clear l1 l2 j1 b1 hbn h1
      go_enter Try.func3, Try.ntmps3
      go_wp2_with fail
      refine (awake2_any _).mono ?_
      rintro e w1 ⟨rfl, hb1⟩
      go_wp2_with fail
      refine (L1.out _).mono ?_
      rintro e w2 ⟨v, rfl, hb2⟩
      have hB2 := below_trans hb1 hb1.size hb2.below
      have hz2' := hB2.size
      clear hb1 hb2
      go_wp2_with fail
      refine (L2.out _).mono ?_
      rintro e w3 ⟨v, rfl, hb3⟩
      have hB3 := below_trans hB2 hz2' hb3.below
      have hz3 := hB3.size
      clear hb3 hB2 hz2'
      go_wp2_with fail
      refine (J1.out _).mono ?_
      rintro e w4 ⟨rfl, hb4⟩
      have hB4 := below_trans hB3 hz3 hb4
      have hz4 := hB4.size
      clear hB3 hz3 hb4
      go_wp2_with fail
      refine (B1.out _).mono ?_
      rintro e w5 ⟨rfl, hb5⟩
      have hB5 := below_trans hB4 hz4 hb5
      clear hB4 hz4 hb5
      go_wp2_with fail
      go_ret
      exact ⟨rfl, hB5⟩
    · rw [h1] at l1
      rw [h2] at l2
      have L1 := Lib.hid l1
      have L2 := Lib.hid l2
      have J1 := Lib.hid j1
      clear l1 l2 j1 b1 hbn h1 h2
      go_enter Try.func3, Try.ntmps3
      go_wp2_with fail
      refine (awake2_any _).mono ?_
      rintro e w1 ⟨rfl, hb1⟩
      go_wp2_with fail
      refine (L1.out _).mono ?_
      rintro e w2 ⟨v, rfl, hb2⟩
      have hB2 := below_trans hb1 hb1.size hb2.below
      have hz2' := hB2.size
      clear hb1 hb2
      go_wp2_with fail
      refine (L2.out _).mono ?_
      rintro e w3 ⟨v, rfl, hb3⟩
      have hB3 := below_trans hB2 hz2' hb3.below
      have hz3 := hB3.size
      clear hb3 hB2 hz2'
      go_wp2_with fail
      refine (J1.out _).mono ?_
      rintro e w4 ⟨rfl, hb4⟩
      have hB4 := below_trans hB3 hz3 hb4
      clear hB3 hz3 hb4
      go_wp2_with fail
      go_ret
      exact ⟨rfl, hB4⟩
    · rw [h1] at l1
      rw [h2] at l2
      have h3' : (254 : Int) < (a.size : Int) + b.size := by omega
      have L1 := Lib.hid l1
      have L2 := Lib.hid l2
      have J1 := Lib.hid j1
      clear l1 l2 j1 b1 hbn h1 h2
      go_enter Try.func3, Try.ntmps3
      go_wp2_with fail
      refine (awake2_any _).mono ?_
      rintro e w1 ⟨rfl, hb1⟩
      go_wp2_with fail
      refine (L1.out _).mono ?_
      rintro e w2 ⟨v, rfl, hb2⟩
      have hB2 := below_trans hb1 hb1.size hb2.below
      have hz2' := hB2.size
      clear hb1 hb2
      go_wp2_with fail
      refine (L2.out _).mono ?_
      rintro e w3 ⟨v, rfl, hb3⟩
      have hB3 := below_trans hB2 hz2' hb3.below
      have hz3 := hB3.size
      clear hb3 hB2 hz2'
      go_wp2_with fail
      refine (J1.out _).mono ?_
      rintro e w4 ⟨rfl, hb4⟩
      have hB4 := below_trans hB3 hz3 hb4
      clear hB3 hz3 hb4
      go_wp2_with fail
      go_ret
      exact ⟨rfl, hB4⟩
end Go.Proofs.Ythhlgogokcblgab
