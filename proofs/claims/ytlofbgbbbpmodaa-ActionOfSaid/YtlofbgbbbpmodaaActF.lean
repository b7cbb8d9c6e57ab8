/- The contracts of layer 14 in general: whether two actions are the same. -/
import Derived.Test.YtlofbgbbbpmodaaRecC
namespace Go.Proofs.Ytlofbgbbbpmodaa
open Go.RowKit
set_option linter.unusedVariables false
set_option linter.unusedSimpArgs false
set_option maxRecDepth 20000
/-- An action: what it does, its target, wild or not, its records. -/
abbrev ActionT := Int × ByteArray × Bool × List RecT
def actEq (a a' : ActionT) : Bool := decide (a.1 = a'.1) && (decide (a.2.1 = a'.2.1) && (decide (a.2.2.1 = a'.2.2.1) && decide (a.2.2.2 = a'.2.2.2)))
theorem actEq_iff (a a' : ActionT) : actEq a a' = true ↔ a = a' := by
  obtain ⟨k, s, b, rs⟩ := a
  obtain ⟨k', s', b', rs'⟩ := a'
  unfold actEq
  simp [Prod.ext_iff]
theorem actEq_self (a : ActionT) : actEq a a = true := (actEq_iff a a).2 rfl
theorem actEq_ne {a a' : ActionT} (h : a ≠ a') : actEq a a' = false := by
  cases e : actEq a a' with
  | false => rfl
  | true => exact absurd ((actEq_iff _ _).1 e) h
def actionV (k : Int) (s : ByteArray) (b : Bool) (A : Option Addr) (n c : Nat) : Value := .agg #[.int .i64 k, .string s, .bool b, .slice A n c]
theorem str_eq_of {s t : ByteArray} (h : (s.toList == t.toList) = true) : s = t := by
  have := eq_of_beq h; rw [ByteArray.toList_eq, ByteArray.toList_eq] at this; exact ByteArray.ext (Array.ext' this)
theorem str_ne_of {s t : ByteArray} (h : (s.toList == t.toList) = false) : s ≠ t := by rintro rfl; simp at h
set_option maxHeartbeats 1600000 in
theorem same_any (a a' : ActionT) (A A' : Option Addr) (c c' : Nat) (w : World) (h : Recs w A a.2.2.2) (h' : Recs w A' a'.2.2.2) (hn : a.2.2.2.length ≤ maxLen) (hn' : a'.2.2.2.length ≤ maxLen) :
    Calls Try.prog 10 #[actionV a.1 a.2.1 a.2.2.1 A a.2.2.2.length c, actionV a'.1 a'.2.1 a'.2.2.1 A' a'.2.2.2.length c'] w fun e w' => e = .returned (.bool (actEq a a')) ∧ Below w.heap.size w w' := by
  obtain ⟨k, s, b, rs⟩ := a
  obtain ⟨k', s', b', rs'⟩ := a'
  unfold actionV
  simp only at h h' hn hn' ⊢
  have EQ := Lib.hid (fun w (h : Recs w A rs) (h' : Recs w A' rs') => equal_recs A A' c c' rs rs' w h h' hn hn')
  have HR := Lib.hid h
  have HR' := Lib.hid h'
  clear h h'
  by_cases e1 : k = k'
  · subst e1
    have t1 : (k == k) = true := by simp
    cases hs : (s.toList == s'.toList) with
    | true =>
      have e2 := Lib.hid (str_eq_of hs)
      by_cases e3 : b = b'
      · subst e3
        have t3 : (b == b) = true := by simp
        have HD : Hid (actEq (k, s, b, rs) (k, s', b, rs') = decide (rs = rs')) := Lib.hid (by rw [e2.out]; simp [actEq])
        obtain ⟨q, hq⟩ : ∃ q, decide (rs = rs') = q := ⟨_, rfl⟩
        rw [HD.out, hq]
        rw [hq] at EQ
        clear HD hq
        go_enter Try.func10, Try.ntmps10
        go_wp2_with fail
        refine (EQ.out _ (HR.out.below (((Below.refl _ _).alloc (Nat.le_refl _) _).alloc (by simp) _)) (HR'.out.below (((Below.refl _ _).alloc (Nat.le_refl _) _).alloc (by simp) _))).mono ?_
        rintro e w1 ⟨rfl, hb⟩
        have HB := Lib.hid hb
        clear hb
        go_wp2_with fail
        go_ret
        exact ⟨rfl, (((Below.refl _ _).alloc (Nat.le_refl _) _).alloc (by simp) _).trans (HB.out.mono (by simp; omega))⟩
      · have t3 : (b == b') = false := by simpa using e3
        have HD : Hid (actEq (k, s, b, rs) (k, s', b', rs') = false) := Lib.hid (by simp [actEq, e3])
        rw [HD.out]
        clear HD
        go_enter Try.func10, Try.ntmps10
        go_wp2_with fail
        go_ret
        exact ⟨rfl, ((Below.refl _ _).alloc (Nat.le_refl _) _).alloc (by simp) _⟩
    | false =>
      have HD : Hid (actEq (k, s, b, rs) (k, s', b', rs') = false) := Lib.hid (by have := str_ne_of hs; simp [actEq, this])
      rw [HD.out]
      clear HD
      go_enter Try.func10, Try.ntmps10
      go_wp2_with fail
      go_ret
      exact ⟨rfl, ((Below.refl _ _).alloc (Nat.le_refl _) _).alloc (by simp) _⟩
  · have t1 : (k == k') = false := by simpa using e1
    have HD : Hid (actEq (k, s, b, rs) (k', s', b', rs') = false) := Lib.hid (by simp [actEq, e1])
    clear e1
    rw [HD.out]
    clear HD
    go_enter Try.func10, Try.ntmps10
    go_wp2_with fail
    go_ret
    exact ⟨rfl, ((Below.refl _ _).alloc (Nat.le_refl _) _).alloc (by simp) _⟩
end Go.Proofs.Ytlofbgbbbpmodaa
