/- The walks of layer 1's statements: each law's Go text returns true, and writes nothing that was there. -/
import Derived.Test.YthhlgogokcblgaaView
import Derived.Test.YthhlgogokcblgaaNum
import Derived.Test.YthhlgogokcblgaaAw1
import Derived.Deep.DeepCutAuto
import Derived.WalkSmall
namespace Go.Proofs.Ythhlgogokcblgaa
open Go.RowKit
set_option linter.unusedVariables false

theorem bits_flags_take (n K : Nat) (hK : K ≤ 16) : ∀ j, j ≤ K → bitsN ((flagsL n K).take j) = n / 2 ^ (K - j) % 2 ^ j := by
  intro j
  induction j with
  | zero => intro _; simp [bitsN, Nat.mod_one]
  | succ j ih =>
    intro hj
    have hl : j < (flagsL n K).length := by simp [flagsL]; omega
    rw [List.take_succ_eq_append_getElem hl, bitsN_snoc, ih (by omega)]
    have hg : (flagsL n K)[j] = (n / 2 ^ (K - 1 - j) % 2 == 1) := by simp [flagsL]
    rw [hg]
    have e1 : n / 2 ^ (K - j) = n / 2 ^ (K - (j + 1)) / 2 := by
      rw [Nat.div_div_eq_div_mul, show K - j = K - (j + 1) + 1 by omega, Nat.pow_succ]
    rw [e1, show K - 1 - j = K - (j + 1) by omega]
    generalize n / 2 ^ (K - (j + 1)) = q
    have h2 : (2 : Nat) ^ (j + 1) ≤ 65536 := Nat.pow_le_pow_right (n := 2) (by omega) (by omega : j + 1 ≤ 16)
    have hm := Nat.mod_mul (x := q) (a := 2) (b := 2 ^ j)
    rw [show 2 ^ (j + 1) = 2 * 2 ^ j by rw [Nat.pow_succ, Nat.mul_comm]] at *
    have hlt := Nat.mod_lt q (show 0 < 2 * 2 ^ j by have := Nat.two_pow_pos j; omega)
    rw [hm] at *
    generalize q / 2 % 2 ^ j = r at *
    rcases Nat.mod_two_eq_zero_or_one q with h | h <;> simp [h] at * <;> omega
theorem bits_flags (n K : Nat) (hK : K ≤ 16) : bitsN (flagsL n K) = n % 2 ^ K := by
  have := bits_flags_take n K hK K (Nat.le_refl _)
  rw [List.take_of_length_le (by simp [flagsL])] at this
  rw [this]; simp

set_option maxHeartbeats 800000 in
theorem numBits_walk (w : World) (A : Option Addr) (n c : Nat) (fs : List Bool) (hS : SlView w A n c (fs.map Value.bool)) (hl : fs.length = n) (hc : c ≤ 140737488351232) (x : Int) (hx : (Lit.int .u16 x).wf = true) (m : Int) (hm : (Lit.int .i8 m).wf = true) :
    Calls Try.prog 5 #[.slice A n c, .int .u16 x, .int .i8 m] w fun e w' => e = .returned (.bool true) ∧ Below w.heap.size w w' := by
  have hx2 := bounds_u16 hx
  have hm2 := bounds_i8 hm
  obtain ⟨y, rfl⟩ := Int.eq_ofNat_of_zero_le hx2.1
  have hy : y < 65536 := by omega
  have hA := hS.sl
  have hn : n ≤ 140737488351232 := Nat.le_trans hS.le hc
  obtain ⟨K, hK⟩ : ∃ K, K = clampN m := ⟨_, rfl⟩
  have hK16 : K ≤ 16 := by rw [hK]; unfold clampN; omega
  have hKv : (max 0 (min m 16)) = (K : Int) := by rw [hK]; unfold clampN; omega
  have HK := Lib.hid hKv
  have HC := Lib.hid hK
  have HB := Lib.hid (bits_flags y K hK16)
  clear hKv hK hx hm
  go_enter Try.func5, Try.ntmps5
  go_wp2_with (go_at_call 13; refine (awake1_any _).mono ?_; rintro e w1 ⟨rfl, hb1⟩)
  have hA1 := (hA.below hb1).more hb1.size
  go_loop [7, 16] (fun v i => ∃ k : Nat, k ≤ n ∧ i = .int .i64 k ∧ v = .int .i64 (bitsN (fs.take k))) (fun _ i => n - (intOf i).toNat)
  case atStart => exact ⟨0, Nat.zero_le _, rfl, rfl⟩
  case round =>
    obtain ⟨k, hk, rfl, rfl⟩ := hrel
    by_cases hlt : k < n
    · obtain ⟨b, off, u, rfl, hb, hu, hc⟩ := hA1.at_ hlt
      have hkl : k < fs.length := by omega
      have ht : fs.take (k + 1) = fs.take k ++ [fs[k]] := List.take_succ_eq_append_getElem hkl
      simp only [List.getElem?_map, List.getElem?_eq_getElem hkl, Option.map_some, Option.some.injEq] at hu
      obtain ⟨f, hf⟩ : ∃ f, f = fs[k] := ⟨_, rfl⟩
      rw [← hf] at hu ht
      subst hu
      have hb16 := bitsN_lt (fs.take k)
      have hst := bitsN_snoc (fs.take k) f
      rw [← ht] at hst
      have HS := Lib.hid hst
      clear hst ht hf hl
      generalize bitsN (fs.take k) = q at *
      cases f
      all_goals
        go_wp2
        go_round
        case rel => exact ⟨k + 1, by omega, by go_num, congrArg (Value.int IntKind.i64) (by rw [HS.out]; simp <;> omega)⟩
        case measure => simp [intOf]; omega
    · have hle : fs.length ≤ k := by omega
      rw [List.take_of_length_le hle]
      have hb16 := bitsN_lt fs
      clear hl
      have hne : ((bitsN fs : Int) != (bitsN fs : Int)) = false := by simp
      go_upto_region 13 with (go_at_call 19; refine (bits_any _ _ _ _ _ hA1 (by unfold maxLen; omega)).mono ?_; rintro e w2 ⟨rfl, rfl⟩)
      go_cut [10] (fun v wc => v = .int .i64 (K : Int) ∧ wc = w1)
      case first =>
        rcases Int.lt_or_le 16 m with h | h
        · have HE := Lib.hid (show (K : Int) = 16 by have := HK.out; omega)
          go_wp2
          all_goals (go_meet; exact ⟨congrArg (Value.int IntKind.i64) (by have := HE.out; omega), rfl⟩)
        · rcases Int.lt_or_le m 0 with h0 | h0
          · have HE := Lib.hid (show (K : Int) = 0 by have := HK.out; omega)
            go_wp2
            all_goals (go_meet; exact ⟨congrArg (Value.int IntKind.i64) (by have := HE.out; omega), rfl⟩)
          · have HE := Lib.hid (show (K : Int) = m by have := HK.out; omega)
            go_wp2
            all_goals (go_meet; exact ⟨congrArg (Value.int IntKind.i64) (by have := HK.out; omega), rfl⟩)
      case rest =>
        obtain ⟨rfl, rfl⟩ := hcut
        go_wp2_with fail
        refine (flags_any y m _ hy).mono ?_
        rw [← HC.out]
        rintro e w2 ⟨g, rfl, hown, hb2⟩
        have hS2 := Sl.of_own hown
        have hB2 := below_trans hb1 hb1.size hb2
        clear hown hb2
        go_wp2_with fail
        have hp : (2 : Nat) ^ K ≤ 65536 := Nat.pow_le_pow_right (n := 2) (by omega) hK16
        have hp0 : 0 < (2 : Nat) ^ K := Nat.two_pow_pos K
        have hpi : (2 : Int) ^ K = ((2 ^ K : Nat) : Int) := by simp
        have eW : IntKind.i64.wrap ((2 : Int) ^ K) = (2 : Int) ^ K := IntWalk.i64_in _ (by rw [hpi]; omega)
        have e0 : ¬ (2 : Int) ^ K = 0 := by rw [hpi]; omega
        have eY : IntKind.i64.wrap (y : Int) = (y : Int) := IntWalk.i64_in _ (by omega)
        have hb2 := bitsN_lt (flagsL y K)
        have eB : IntKind.i64.wrap (bitsN (flagsL y K) : Int) = (bitsN (flagsL y K) : Int) := IntWalk.i64_in _ (by omega)
        have eF : (y : Int).tmod ((2 : Int) ^ K) = (bitsN (flagsL y K) : Int) := by
          rw [HB.out, hpi, Int.tmod_eq_emod_of_nonneg (by omega)]; simp
        clear hpi hp hp0
        go_quiet ((go_at_call 19; exact Calls.quiet_of_same ((bits_any _ _ _ _ _ (hS2.drewN _) (by unfold maxLen; omega)).mono fun e w' ⟨a, b⟩ => ⟨a, b.symm⟩)))
        go_wp2
        go_ret
        exact ⟨rfl, below_drewN hB2 _⟩
end Go.Proofs.Ythhlgogokcblgaa
