/- What a CNAME's target means is what the statement says; records by numbers whose type is CNAME have names as data. -/
import Derived.Test.YtlofbgbbbpmodaaLawActG
import Derived.Test.YtlofbgbbbpmodaaActO
namespace Go.Proofs.Ytlofbgbbbpmodaa
open Go.RowKit
set_option linter.unusedVariables false
set_option maxRecDepth 20000
theorem spec_label (s : ByteArray) (l : List UInt8) (h : s = ⟨(wire [l]).toArray⟩) (LS : List (List UInt8)) (hlo : labelsOf s = some LS) (hl : labelsOf ⟨(wire [l]).toArray⟩ = some [l]) : LS = [l] := by
  rw [h, hl] at hlo; injection hlo with hlo; exact hlo.symm
theorem tgt_ofL (s : ByteArray) (LS : List (List UInt8)) (hlo : labelsOf s = some LS) : tgtOf s = ofL s LS := by
  have hw := (nameLabels_iff _ _).1 hlo
  by_cases e1 : s = ⟨#[]⟩
  · have : LS = [] := by rw [e1] at hlo; have h0 : labelsOf ⟨#[]⟩ = some [] := by decide
                         rw [h0] at hlo; injection hlo with hlo; exact hlo.symm
    subst this e1; decide
  by_cases e2 : s = ⟨#[1, 42]⟩
  · have : LS = [[42]] := by rw [e2] at hlo; have h0 : labelsOf ⟨#[1, 42]⟩ = some [[42]] := by decide
                             rw [h0] at hlo; injection hlo with hlo; exact hlo.symm
    subst this e2; decide +kernel
  by_cases e3 : s = ⟨#[12, 114, 112, 122, 45, 112, 97, 115, 115, 116, 104, 114, 117]⟩
  · have : LS = [[114, 112, 122, 45, 112, 97, 115, 115, 116, 104, 114, 117]] := by
      rw [e3] at hlo
      have h0 : labelsOf ⟨#[12, 114, 112, 122, 45, 112, 97, 115, 115, 116, 104, 114, 117]⟩ = some [[114, 112, 122, 45, 112, 97, 115, 115, 116, 104, 114, 117]] := by decide +kernel
      rw [h0] at hlo; injection hlo with hlo; exact hlo.symm
    subst this e3; decide +kernel
  by_cases e4 : s = ⟨#[8, 114, 112, 122, 45, 100, 114, 111, 112]⟩
  · have : LS = [[114, 112, 122, 45, 100, 114, 111, 112]] := by
      rw [e4] at hlo
      have h0 : labelsOf ⟨#[8, 114, 112, 122, 45, 100, 114, 111, 112]⟩ = some [[114, 112, 122, 45, 100, 114, 111, 112]] := by decide +kernel
      rw [h0] at hlo; injection hlo with hlo; exact hlo.symm
    subst this e4; decide +kernel
  by_cases e5 : s = ⟨#[12, 114, 112, 122, 45, 116, 99, 112, 45, 111, 110, 108, 121]⟩
  · have : LS = [[114, 112, 122, 45, 116, 99, 112, 45, 111, 110, 108, 121]] := by
      rw [e5] at hlo
      have h0 : labelsOf ⟨#[12, 114, 112, 122, 45, 116, 99, 112, 45, 111, 110, 108, 121]⟩ = some [[114, 112, 122, 45, 116, 99, 112, 45, 111, 110, 108, 121]] := by decide +kernel
      rw [h0] at hlo; injection hlo with hlo; exact hlo.symm
    subst this e5; decide +kernel
  have ne : ∀ t : ByteArray, s ≠ t → (s.data.toList == t.data.toList) = false := by
    intro t h
    rw [beq_eq_false_iff_ne]
    intro e
    exact h (ByteArray.ext (Array.ext' e))
  have hg : smGet specL s = none := by
    unfold smGet specL
    simp only [List.find?_cons, List.find?_nil, ne _ e1, ne _ e2, ne _ e3, ne _ e4, ne _ e5, Option.map_none]
  have ws : ∀ l, LS = [l] → s = ⟨(wire [l]).toArray⟩ := by
    rintro l rfl
    exact ByteArray.ext (Array.ext' (by simpa using hw.2.1))
  unfold tgtOf
  rw [hg, hlo]
  match LS, ws, hw, hlo with
  | [], _, hw, _ =>
    exact absurd (ByteArray.ext (Array.ext' (by simpa [wire] using hw.2.1))) e1
  | [l], ws, _, _ =>
    have hs := ws l rfl
    have n1 : l ≠ [42] := by rintro rfl; exact e2 hs
    have n2 : l ≠ [114, 112, 122, 45, 112, 97, 115, 115, 116, 104, 114, 117] := by rintro rfl; exact e3 hs
    have n3 : l ≠ [114, 112, 122, 45, 100, 114, 111, 112] := by rintro rfl; exact e4 hs
    have n4 : l ≠ [114, 112, 122, 45, 116, 99, 112, 45, 111, 110, 108, 121] := by rintro rfl; exact e5 hs
    simp only [ofL, n1, n2, n3, n4, if_false]
  | l :: m :: ls, _, _, _ => simp only [ofL]
theorem nmB_labels (l : List UInt8) : ∃ LS, labelsOf (nmB l) = some LS ∧ (nmB l).size ≤ 254 := by
  refine ⟨wordsZ (intsB l), ?_, ?_⟩
  · unfold nmB nameZ
    exact few_labels (wordsZ_ok _ (intsB_ok l)) (wordsZ_len _)
  · unfold nmB
    have := nameZ_le (intsB l) (intsB_ok l)
    simpa [ByteArray.size] using this
theorem dataOf_cname (q : Nat) (X s : ByteArray) (h : ((dataOf q X s).1 : Int) = 5) : (dataOf q X s).2 = X := by
  unfold dataOf at h ⊢
  by_cases c0 : q = 0 ∨ q = 1
  · rw [if_pos c0] at h; simp at h
  rw [if_neg c0] at h ⊢
  by_cases c2 : q = 2
  · rw [if_pos c2]
  rw [if_neg c2] at h ⊢
  by_cases c3 : q = 3
  · rw [if_pos c3]
  rw [if_neg c3] at h ⊢
  by_cases c4 : q = 4
  · rw [if_pos c4] at h; simp at h
  rw [if_neg c4] at h ⊢
  by_cases c5 : q = 5
  · rw [if_pos c5] at h; simp at h
  rw [if_neg c5] at h ⊢
  by_cases c6 : q = 6
  · rw [if_pos c6] at h; simp at h
  rw [if_neg c6] at h; simp at h
theorem dataOf_le (q : Nat) (X s : ByteArray) (hX : X.size ≤ 254) (hs : s.size ≤ 30) : (dataOf q X s).2.size ≤ 600 := by
  have k1 : (ByteArray.mk #[0]).size = 1 := rfl
  have k2 : (ByteArray.mk #[UInt8.ofNat s.size]).size = 1 := rfl
  unfold dataOf
  by_cases c0 : q = 0 ∨ q = 1
  · rw [if_pos c0]; simp only [ByteArray.size_extract]; omega
  rw [if_neg c0]
  by_cases c2 : q = 2
  · rw [if_pos c2]; simp only; omega
  rw [if_neg c2]
  by_cases c3 : q = 3
  · rw [if_pos c3]; simp only; omega
  rw [if_neg c3]
  by_cases c4 : q = 4
  · rw [if_pos c4]; simp only [ByteArray.size_append, ByteArray.size_extract, k1]; omega
  rw [if_neg c4]
  by_cases c5 : q = 5
  · rw [if_pos c5]; simp only [ByteArray.size_append, ByteArray.size_extract, k2]; omega
  rw [if_neg c5]
  by_cases c6 : q = 6
  · rw [if_pos c6]; simp only [ByteArray.size_extract]; omega
  rw [if_neg c6]; simp only [ByteArray.size_extract]; omega
theorem txtB_le (s : ByteArray) : (txtB s).size ≤ 30 := by unfold txtB; rw [ByteArray.size_extract]; omega
theorem recOf_data (a : ActT) : (recOf a).2.2.2.size ≤ 600 := by
  obtain ⟨_, -, h⟩ := nmB_labels a.2.2.2.1.2.2.2
  exact dataOf_le _ _ _ h (txtB_le _)
theorem rec_cname (a : ActT) (h : (recOf a).2.1 = 5) : ∃ LS, labelsOf (recOf a).2.2.2 = some LS ∧ (recOf a).2.2.2.size ≤ 254 := by
  have h1 := dataOf_cname _ _ _ h
  have : (recOf a).2.2.2 = nmB a.2.2.2.1.2.2.2 := h1
  rw [this]
  exact nmB_labels _
end Go.Proofs.Ytlofbgbbbpmodaa
