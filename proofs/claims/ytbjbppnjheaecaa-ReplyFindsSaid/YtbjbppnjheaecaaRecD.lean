/- Records by numbers: how long their parts are; whose data are names. -/
import Derived.Test.YtbjbppnjheaecaaRecB
namespace Go.Proofs.Ytbjbppnjheaecaa
open Go.RowKit
set_option linter.unusedVariables false
set_option maxRecDepth 20000
theorem nmB_labels (l : List UInt8) : ∃ LS, labelsOf (nmB l) = some LS ∧ (nmB l).size ≤ 254 := by
  refine ⟨wordsZ (intsB l), ?_, ?_⟩
  · unfold nmB nameZ
    exact few_labels (wordsZ_ok _ (intsB_ok l)) (wordsZ_len _)
  · unfold nmB
    have := nameZ_le (intsB l) (intsB_ok l)
    simpa [ByteArray.size] using this
theorem dataOf_cname (q : Nat) (X s : ByteArray) (h : ((dataOf q X s).1 : Int) = 5) : (dataOf q X s).2 = X := by
  unfold dataOf at h ⊢
  by_cases c0 : q = 0 ∨ q = 1
  · rw [if_pos c0] at h; simp at h
  rw [if_neg c0] at h ⊢
  by_cases c2 : q = 2
  · rw [if_pos c2]
  rw [if_neg c2] at h ⊢
  by_cases c3 : q = 3
  · rw [if_pos c3]
  rw [if_neg c3] at h ⊢
  by_cases c4 : q = 4
  · rw [if_pos c4] at h; simp at h
  rw [if_neg c4] at h ⊢
  by_cases c5 : q = 5
  · rw [if_pos c5] at h; simp at h
  rw [if_neg c5] at h ⊢
  by_cases c6 : q = 6
  · rw [if_pos c6] at h; simp at h
  rw [if_neg c6] at h; simp at h
theorem dataOf_le (q : Nat) (X s : ByteArray) (hX : X.size ≤ 254) (hs : s.size ≤ 30) : (dataOf q X s).2.size ≤ 600 := by
  have k1 : (ByteArray.mk #[0]).size = 1 := rfl
  have k2 : (ByteArray.mk #[UInt8.ofNat s.size]).size = 1 := rfl
  unfold dataOf
  by_cases c0 : q = 0 ∨ q = 1
  · rw [if_pos c0]; simp only [ByteArray.size_extract]; omega
  rw [if_neg c0]
  by_cases c2 : q = 2
  · rw [if_pos c2]; simp only; omega
  rw [if_neg c2]
  by_cases c3 : q = 3
  · rw [if_pos c3]; simp only; omega
  rw [if_neg c3]
  by_cases c4 : q = 4
  · rw [if_pos c4]; simp only [ByteArray.size_append, ByteArray.size_extract, k1]; omega
  rw [if_neg c4]
  by_cases c5 : q = 5
  · rw [if_pos c5]; simp only [ByteArray.size_append, ByteArray.size_extract, k2]; omega
  rw [if_neg c5]
  by_cases c6 : q = 6
  · rw [if_pos c6]; simp only [ByteArray.size_extract]; omega
  rw [if_neg c6]; simp only [ByteArray.size_extract]; omega
theorem txtB_le (s : ByteArray) : (txtB s).size ≤ 30 := by unfold txtB; rw [ByteArray.size_extract]; omega
theorem recOf_data (a : ActT) : (recOf a).2.2.2.size ≤ 600 := by
  obtain ⟨_, -, h⟩ := nmB_labels a.2.2.2.1.2.2.2
  exact dataOf_le _ _ _ h (txtB_le _)
theorem rec_cname (a : ActT) (h : (recOf a).2.1 = 5) : ∃ LS, labelsOf (recOf a).2.2.2 = some LS ∧ (recOf a).2.2.2.size ≤ 254 := by
  have h1 := dataOf_cname _ _ _ h
  have : (recOf a).2.2.2 = nmB a.2.2.2.1.2.2.2 := h1
  rw [this]
  exact nmB_labels _
theorem recOf_name (a : ActT) : (recOf a).1.size ≤ 254 := (nmB_labels a.1.2.2.2).choose_spec.2
end Go.Proofs.Ytbjbppnjheaecaa
