/- The walk of TableHash. -/
import Derived.Test.YtpihkelihhcihaaTabC
import Derived.Test.YtpihkelihhcihaaView
import Derived.Test.YtpihkelihhcihaaReg2
namespace Go.Proofs.Ytpihkelihhcihaa
open Go.RowKit
set_option linter.unusedVariables false
set_option maxRecDepth 20000
theorem awake15_any (w : World) : Calls Try.prog 15 #[] w fun e w' => e = .returned (.bool true) ∧ Below w.heap.size w w' := by
  go_enter Try.func15, Try.ntmps15
  go_wp2_with fail
  have hC0 : Cs (w.alloc (.cells #[.slice none 0 0, .int .i64 0, .int .i64 0] 30)) w.heap.size [.slice none 0 0, .int .i64 0, .int .i64 0] := Cs.new w _ _ _
  have hB0 : Below w.heap.size w (w.alloc (.cells #[.slice none 0 0, .int .i64 0, .int .i64 0] 30)) := (Below.refl _ _).alloc (Nat.le_refl _) _
  obtain ⟨b, hb⟩ : ∃ b, w.heap.size = b := ⟨_, rfl⟩
  have hBb : b ≤ b := Nat.le_refl _
  rw [hb] at hC0 hB0 ⊢
  refine (put_first _ b b 1 hBb hC0).mono ?_
  rintro e w1 ⟨rfl, g, hbg, hBg, hC1, hS1, hB1⟩
  go_wp2_with fail
  refine (put_again _ b g b 1 1 1 2 hbg hBb hBg hC1 hS1).mono ?_
  rintro e w2 ⟨rfl, hC2, hS2, hB2⟩
  go_wp2_with fail
  refine (get_live _ b g 1 1 2 hC2 hS2).mono ?_
  rintro e w3 ⟨rfl, hB3⟩
  have hC3 := hC2.below hB3
  go_wp2_with fail
  refine (len_any _ b _ 1 1 hC3).mono ?_
  rintro e w4 ⟨rfl, rfl⟩
  go_wp2
  go_ret
  have q := hC2.lt
  refine ⟨rfl, ?_⟩
  rw [hb]
  exact (((hB0.trans hB1).trans hB2).trans (hB3.mono (by omega)))
attribute [local simp] wantedX isB
set_option maxHeartbeats 800000 in
theorem tableHash_walk (w : World) (s : ByteArray) (hs : s.size ≤ 140737488351232) (m : Int) (hm : (Lit.int .i64 m).wf = true) :
    Calls Try.prog 3 #[.string s, .int .i64 m] w fun e w' => e = .returned (.bool true) ∧ Below w.heap.size w w' := by
  have hmb := bounds_i64 hm
  have HH := fun w => hash_any s m w (by omega) (by unfold maxLen; omega)
  obtain ⟨l, hl⟩ : ∃ l, s.data.toList = l := ⟨_, rfl⟩
  have hlen : l.length = s.size := by rw [← hl]; simp
  have hget : ∀ k (h : k < s.size), s[k].toNat = (l[k]'(by omega)).toNat := by
    intro k h; subst hl; rw [toList_get s k h]
  have hS : slotsN m = max 1 m.toNat := by simp only [slotsN]; omega
  obtain ⟨N, hN⟩ : ∃ N, slotsN m = N := ⟨_, rfl⟩
  rw [hl, hN] at HH
  rw [hN] at hS
  have hN0 : 0 < N := by omega
  have hNle : N ≤ 9223372036854775807 := by omega
  have hmx : (m < 1 ∧ N = 1) ∨ (1 ≤ m ∧ m = (N : Int)) := by omega
  have HM := Lib.hid hmx
  have HG := Lib.hid hget
  have HC := Lib.hid HH
  clear hmx hget hS hl HH hN hm
  go_enter Try.func3, Try.ntmps3
  go_wp2_with fail
  refine (awake15_any _).mono ?_
  rintro e w1 ⟨rfl, hb1⟩
  go_wp2_with fail
  go_loopw [5, 6] (fun v i wr => ∃ k : Nat, k ≤ s.size ∧ i = .int .i64 k ∧ v = .int .u64 (hashL (l.take k) : Nat) ∧ wr = w1) (fun _ i _ => s.size - (intOf i).toNat)
  case atStart => exact ⟨0, Nat.zero_le _, rfl, rfl, rfl⟩
  case round =>
    obtain ⟨k, hk, rfl, rfl, rfl⟩ := hrel
    have hq : hashL (l.take k) < 4294967296 := hashL_lt _
    generalize hh : hashL (l.take k) = h at *
    have HH := Lib.hid hh
    clear hh
    by_cases hlt : k < s.size
    · have q1 : (k : Int) < s.size := by omega
      obtain ⟨c, hc⟩ : ∃ c, s[k]'hlt = c := ⟨_, rfl⟩
      have hc2 := UInt8.toNat_lt c
      have hcl : (l[k]'(by omega)).toNat = c.toNat := by rw [← HG.out k hlt, hc]
      have HCl := Lib.hid hcl
      clear hcl
      obtain ⟨q, hq2⟩ : ∃ q, c.toNat = q := ⟨_, rfl⟩
      rw [hq2] at hc2
      go_wp2
      go_round
      case rel =>
        refine ⟨k + 1, by omega, by go_num, ?_, by first | trivial | rfl⟩
        rw [hashL_take l k (by omega), HH.out, HCl.out, hq2]
        first | go_num | (simp [IntKind.wrap, IntKind.bits, IntKind.signed]; omega)
      case measure => simp [intOf]; omega
    · obtain rfl : k = s.size := by omega
      have hLt : l.take s.size = l := List.take_of_length_le (by omega)
      rw [hLt] at HH
      have hfin := HC.out
      rw [HH.out] at hfin
      have HF := Lib.hid hfin
      clear hfin
      have q1 : ¬ ((s.size : Nat) : Int) < s.size := by omega
      have hmod := Nat.mod_lt h hN0
      have hmod2 := Nat.mod_le h N
      have e1 : (h : Int).tmod N = ((h % N : Nat) : Int) := by rw [Int.tmod_eq_emod_of_nonneg (by omega)]; simp
      have e2 : IntKind.u64.wrap ((h % N : Nat) : Int) = ((h % N : Nat) : Int) := by simp only [IntKind.wrap, IntKind.bits, IntKind.signed]; simp; omega
      have e3 : IntKind.u64.wrap (N : Int) = (N : Int) := by simp only [IntKind.wrap, IntKind.bits, IntKind.signed]; simp; omega
      have e0 : ¬ (N : Int) = 0 := by omega
      obtain ⟨R, hR⟩ : ∃ R, h % N = R := ⟨_, rfl⟩
      rw [hR] at e1 e2 HF
      have HR := Lib.hid hR
      clear hmod hmod2 hR HH HG
      rcases HM.out with ⟨h1, h2⟩ | ⟨h1, h2⟩
      · have h1' : ¬ 1 ≤ m := by omega
        have h1'' : ¬ 1 < m := by omega
        subst h2
        have hR0 : R = 0 := by have := HR.out; omega
        subst hR0
        go_wp2_with fail
        all_goals
          go_quiet ((go_at_call 16; exact Calls.quiet_of_same ((HF.out _).mono fun e w' ⟨a, b⟩ => ⟨a, b.symm⟩)))
          go_wp2
          go_ret
          exact ⟨rfl, below_drewN hb1 _⟩
      · subst h2
        by_cases hN1 : N = 1
        · subst hN1
          have hR0 : R = 0 := by have := HR.out; omega
          subst hR0
          go_wp2_with fail
          all_goals
            go_quiet ((go_at_call 16; exact Calls.quiet_of_same ((HF.out _).mono fun e w' ⟨a, b⟩ => ⟨a, b.symm⟩)))
            go_wp2
            go_ret
            exact ⟨rfl, below_drewN hb1 _⟩
        · have h1' : ¬ (N : Int) < 1 := by omega
          have h1'' : (1 : Int) < N := by omega
          have h1a : (1 : Int) ≤ N := by omega
          have h1b : ¬ (N : Int) ≤ 1 := by omega
          go_wp2_with fail
          all_goals
            go_quiet ((go_at_call 16; exact Calls.quiet_of_same ((HF.out _).mono fun e w' ⟨a, b⟩ => ⟨a, b.symm⟩)))
            go_wp2
            go_ret
            exact ⟨rfl, below_drewN hb1 _⟩
end Go.Proofs.Ytpihkelihhcihaa
