/- trie: side, common, strings.HasPrefix. -/
import Derived.Test.YtgfoahednmipkaaDoorProg
import Derived.Test.YtgfoahednmipkaaDoorTrM
import Derived.Test.YtgfoahednmipkaaDoorGot
import Derived.BigQuiet
import Derived.IntWalk
import Derived.WalkSmall
import Derived.Deep.Cut
import Derived.Deep.DeepCutAuto
import Derived.Lib.Hide
import Derived.WalkMore
import Derived.Outline
namespace Go.Proofs.YtgfoahednmipkaaDoor
open Go.RowKit
set_option linter.unusedVariables false
set_option maxRecDepth 20000
theorem alike_at {a b : List UInt8} {j : Nat} (h : j < alike a b) (h1 : j < a.length) (h2 : j < b.length) : a[j] = b[j] := by
  have := alike_take a b
  have h3 := congrArg (fun l : List UInt8 => l[j]?) this
  simp only [List.getElem?_take, if_pos h] at h3
  rw [List.getElem?_eq_getElem h1, List.getElem?_eq_getElem h2] at h3
  exact Option.some.inj h3
theorem side_num {q : List UInt8} {i : Nat} (hq : BitsL q) (hi : i < q.length) : (q[i].toNat : Int) = if side q i then 49 else 48 := by
  have hx := hq _ (List.getElem_mem hi)
  simp only [side, List.getD_eq_getElem?_getD, List.getElem?_eq_getElem hi, Option.getD_some]
  rcases hx with hx | hx <;> rw [hx] <;> rfl
/-- By which sign a word goes on. -/
theorem side_any (q : List UInt8) (i : Nat) (w : World) (hq : BitsL q) (hi : i < q.length) (hl : q.length ≤ maxLen) :
    Calls Tryd.prog 23 #[.string (sb q), .int .i64 i] w fun e w' => e = .returned (.int .i64 (if side q i then 1 else 0)) ∧ w = w' := by
  have hsz : i < (sb q).size := by rw [sb_size]; exact hi
  have hsz' : (i : Int) < (sb q).size := by omega
  have hg : ((sb q)[i].toNat : Int) = if side q i then 49 else 48 := by rw [sb_get]; exact side_num hq hi
  generalize side q i = s at *
  generalize hn : (sb q)[i].toNat = n at *
  cases s with
  | true =>
    obtain rfl : n = 49 := by have : (n : Int) = _ := hg; simp at this; omega
    clear hg
    go_enter Tryd.func23, Tryd.ntmps23
    go_wp2
    go_ret
    exact ⟨rfl, rfl⟩
  | false =>
    obtain rfl : n = 48 := by have : (n : Int) = _ := hg; simp at this; omega
    clear hg
    go_enter Tryd.func23, Tryd.ntmps23
    go_wp2
    go_ret
    exact ⟨rfl, rfl⟩
set_option maxHeartbeats 1600000 in
/-- How many signs two words have alike. -/
theorem common_any (a b : List UInt8) (w : World) (ha : a.length ≤ maxLen) (hb : b.length ≤ maxLen) :
    Calls Tryd.prog 26 #[.string (sb a), .string (sb b)] w fun e w' => e = .returned (.int .i64 (alike a b)) ∧ ∃ n, w.drewN n = w' := by
  have hal := alike_le a b
  have hm : maxLen = 9223372036854775807 := by decide
  have hsa := sb_size a
  have hsb := sb_size b
  obtain ⟨A, hA⟩ : ∃ A, sb a = A := ⟨_, rfl⟩
  obtain ⟨B, hB⟩ : ∃ B, sb b = B := ⟨_, rfl⟩
  have heq : Hid (∀ j (h : j < alike a b) (h1 : j < A.size) (h2 : j < B.size), A[j].toNat = B[j].toNat) := Lib.hid (fun j h h1 h2 => by
    subst hA hB
    rw [sb_get, sb_get, alike_at h])
  have hne : Hid (∀ (h1 : alike a b < A.size) (h2 : alike a b < B.size), A[alike a b].toNat ≠ B[alike a b].toNat) := Lib.hid (fun h1 h2 e => by
    subst hA hB
    rw [sb_get, sb_get] at e
    rw [sb_size] at h1 h2
    have := alike_ne a b h1 h2
    rw [List.getElem?_eq_getElem h1, List.getElem?_eq_getElem h2] at this
    exact this (by rw [UInt8.toNat_inj.1 e]))
  rw [hA] at hsa ⊢
  rw [hB] at hsb ⊢
  generalize alike a b = m at *
  have hma : m ≤ A.size := by omega
  have hmb : m ≤ B.size := by omega
  have hma' : A.size ≤ 9223372036854775807 := by omega
  have hmb' : B.size ≤ 9223372036854775807 := by omega
  clear hA hB hsa hsb hal ha hb hm
  go_enter Tryd.func26, Tryd.ntmps26
  go_wp2_with fail
  go_loopw [5] (fun v wr => ∃ j n : Nat, j ≤ m ∧ v = .int .i64 j ∧ w.drewN n = wr) (fun v _ => m - (intOf v).toNat)
  case atStart => exact ⟨0, 0, Nat.zero_le _, rfl, rfl⟩
  case round =>
    obtain ⟨j, n, hj, rfl, rfl⟩ := hrel
    by_cases hjm : j < m
    · have hja : j < A.size := by omega
      have hjb : j < B.size := by omega
      have d1 : decide ((j : Int) < A.size) = true := by simp; omega
      have d2 : decide ((j : Int) < B.size) = true := by simp; omega
      have d3 : decide (j < A.size) = true := by simp; omega
      have d4 : decide (j < B.size) = true := by simp; omega
      have e0 := heq.out j hjm hja hjb
      obtain ⟨c, hc⟩ : ∃ c, B[j].toNat = c := ⟨_, rfl⟩
      rw [hc] at e0
      have d5 : ((c : Int) == (c : Int)) = true := by simp
      have HEQ := Lib.hid heq.out
      clear heq
      go_upto_region 2 with fail
      go_quiet (fail)
      go_wp2_with fail
      go_roundw
      case rel => exact ⟨j + 1, _, by omega, by go_num, rfl⟩
      case measure => simp [intOf]; omega
    · obtain rfl : j = m := by omega
      by_cases hja : j < A.size
      · by_cases hjb : j < B.size
        · have d1 : decide ((j : Int) < A.size) = true := by simp; omega
          have d2 : decide ((j : Int) < B.size) = true := by simp; omega
          have e0 := hne.out hja hjb
          obtain ⟨c, hc⟩ : ∃ c, A[j].toNat = c := ⟨_, rfl⟩
          obtain ⟨d, hd⟩ : ∃ d, B[j].toNat = d := ⟨_, rfl⟩
          rw [hc, hd] at e0
          have d5 : ((c : Int) == (d : Int)) = false := by simp; omega
          clear heq hne
          go_upto_region 2 with fail
          go_quiet (fail)
          go_wp2_with fail
          go_ret
          exact ⟨rfl, _, (World.drewN_drewN _ _ _).symm⟩
        · have d1 : decide ((j : Int) < A.size) = true := by simp; omega
          have d2 : decide ((j : Int) < B.size) = false := by simp; omega
          clear heq hne
          go_upto_region 2 with fail
          go_quiet (fail)
          go_wp2_with fail
          go_ret
          exact ⟨rfl, _, (World.drewN_drewN _ _ _).symm⟩
      · have d1 : decide ((j : Int) < A.size) = false := by simp; omega
        clear heq hne
        go_upto_region 2 with fail
        go_quiet (fail)
        go_wp2_with fail
        go_ret
        exact ⟨rfl, _, (World.drewN_drewN _ _ _).symm⟩
end Go.Proofs.YtgfoahednmipkaaDoor
