/- 'same' of layer 2's statements: two slices of strings are compared. -/
import Derived.Test.YthhlgogokcblgaaBuf
import Derived.Test.YthhlgogokcblgaaRows
import Derived.WalkSmall
import Derived.BigQuiet
namespace Go.Proofs.Ythhlgogokcblgaa
open Go.RowKit
set_option linter.unusedVariables false

theorem take_ext {α : Type} [DecidableEq α] (xs ys : List α) (k : Nat) (ha : k < xs.length) (hb : k < ys.length) (h : xs.take k = ys.take k) (h2 : xs[k] = ys[k]) : xs.take (k + 1) = ys.take (k + 1) := by
  rw [List.take_succ_eq_append_getElem ha, List.take_succ_eq_append_getElem hb, h, h2]
theorem strs_test (x y : List UInt8) : ((ByteArray.mk x.toArray).toList == (ByteArray.mk y.toArray).toList) = decide (x = y) := by
  rw [ByteArray.toList_eq, ByteArray.toList_eq]
  by_cases h : x = y
  · simp [h]
  · simp [h]

set_option maxHeartbeats 1600000 in
theorem same_any (A : Option Addr) (n c : Nat) (xs : List (List UInt8)) (D : Option Addr) (m d : Nat) (ys : List (List UInt8)) (w : World) (B : Nat) (hA : Sl w B 1 A n (xs.map sv)) (hD : Sl w B 1 D m (ys.map sv)) (hn : n ≤ maxLen) :
    Calls Try.prog 24 #[.slice A n c, .slice D m d] w fun e w' => e = .returned (.bool (decide (xs = ys))) ∧ ∃ k, w.drewN k = w' := by
  have hal : xs.length = n := by simpa using hA.1
  have hbl : ys.length = m := by simpa using hD.1
  unfold maxLen at hn
  by_cases hnm : n = m
  · subst hnm
    go_enter Try.func24, Try.ntmps24
    go_wp2_with fail
    go_loopw [13] (fun i wr => ∃ k : Nat, k ≤ n ∧ i = .int .i64 k ∧ Hid (xs.take k = ys.take k) ∧ ∃ j, wr = w.drewN j) (fun i _ => n - (intOf i).toNat)
    case atStart => exact ⟨0, Nat.zero_le _, rfl, Lib.hid (by simp), 0, rfl⟩
    case round =>
      obtain ⟨k, hk, rfl, heq, j, rfl⟩ := hrel
      by_cases hlt : k < n
      · obtain ⟨b, off, u, rfl, hb, hu, hc⟩ := hA.at_ hlt
        obtain ⟨b', off', u', rfl, hb', hu', hc'⟩ := hD.at_ hlt
        have hka : k < xs.length := by omega
        have hkb : k < ys.length := by omega
        simp only [List.getElem?_map, List.getElem?_eq_getElem hka, Option.map_some, Option.some.injEq] at hu
        simp only [List.getElem?_map, List.getElem?_eq_getElem hkb, Option.map_some, Option.some.injEq] at hu'
        subst hu hu'
        have hnext := take_ext xs ys k hka hkb heq.out
        have hdiff : xs[k] ≠ ys[k] → xs ≠ ys := by
          intro h1 h2
          subst h2
          exact h1 rfl
        have htest : (xs[k] == ys[k]) = decide (xs[k] = ys[k]) := by by_cases h : xs[k] = ys[k] <;> simp [h]
        simp only [sv] at hc hc'
        generalize xs[k] = x at *
        generalize ys[k] = y at *
        have hlt' : (k : Int) < n := by omega
        by_cases hxy : x = y
        · rw [decide_eq_true hxy] at htest
          have HN := Lib.hid (hnext hxy)
          clear hnext hdiff hxy
          go_wp2_with fail
          go_quiet (fail)
          go_wp2_with fail
          go_roundw
          case rel => exact ⟨k + 1, by omega, by go_num, HN, _, rfl⟩
          case measure => simp [intOf]; omega
        · rw [decide_eq_false hxy] at htest
          have HN := Lib.hid (hdiff hxy)
          clear hnext hdiff hxy
          go_wp2_with fail
          go_quiet (fail)
          go_wp2_with fail
          go_ret
          exact ⟨by rw [decide_eq_false HN.out]; rfl, j + nq, by simp⟩
      · obtain rfl : k = n := by omega
        have hlt' : ¬ (k : Int) < k := by omega
        have he := heq.out
        rw [List.take_of_length_le (by omega), List.take_of_length_le (by omega)] at he
        have HE := Lib.hid he
        clear he
        go_wp2_with fail
        go_ret
        exact ⟨by rw [decide_eq_true HE.out]; rfl, _, rfl⟩
  · have hne : xs ≠ ys := fun h => hnm (by rw [← hal, ← hbl, h])
    have hnm' : ((n : Int) == (m : Int)) = false := by rw [beq_eq_false_iff_ne]; omega
    have HE := Lib.hid hne
    clear hne hnm
    go_enter Try.func24, Try.ntmps24
    go_wp2_with fail
    go_ret
    exact ⟨by rw [decide_eq_false HE.out]; rfl, 0, rfl⟩
end Go.Proofs.Ythhlgogokcblgaa
