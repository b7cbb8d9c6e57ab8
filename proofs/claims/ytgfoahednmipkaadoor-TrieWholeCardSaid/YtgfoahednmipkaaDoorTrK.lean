/- bolterlaw16.Key of any numbers. -/
import Derived.Test.YtgfoahednmipkaaDoorTrJ
import Derived.Laws.BitsAllLaws
namespace Go.Proofs.YtgfoahednmipkaaDoor
open Go.RowKit
set_option linter.unusedVariables false
set_option maxRecDepth 20000
def signN (n k : Nat) : UInt8 := if n / 2 ^ (k % 16) % 2 = 1 then 49 else 48
def keyL (n l : Nat) : List UInt8 := (List.range (l % 14)).map (signN n)
theorem sign_enc (n k : Nat) (hn : n < 65536) : Utf8.encode (wrap32 (IntKind.u16.wrap (48 + bits BinOp.and IntKind.u16 ((n : Int) / 2 ^ (k % 16)) 1))) = sb [signN n k] := by
  have e1 : ((n : Int) / 2 ^ (k % 16)) = ((n / 2 ^ (k % 16) : Nat) : Int) := by simp
  have hlt : n / 2 ^ (k % 16) < 65536 := Nat.lt_of_le_of_lt (Nat.div_le_self _ _) hn
  have e2 : bits BinOp.and IntKind.u16 ((n : Int) / 2 ^ (k % 16)) 1 = ((n / 2 ^ (k % 16) % 2 : Nat) : Int) := by
    rw [e1]
    have := u16_and_nat (n / 2 ^ (k % 16)) 1 hlt (by decide)
    rw [Nat.and_one_is_mod] at this
    exact this
  rw [e2]
  unfold signN
  rcases Nat.mod_two_eq_zero_or_one (n / 2 ^ (k % 16)) with h | h
  · rw [h]
    have e3 : wrap32 (IntKind.u16.wrap (48 + ((0 : Nat) : Int))) = 48 := by simp [wrap32, IntKind.wrap, IntKind.bits, IntKind.signed]
    rw [e3]; rfl
  · rw [h]
    have e3 : wrap32 (IntKind.u16.wrap (48 + ((1 : Nat) : Int))) = 49 := by simp [wrap32, IntKind.wrap, IntKind.bits, IntKind.signed]
    rw [e3]; rfl
theorem keyL_may (n l : Nat) : mayL (keyL n l) = true := by
  rw [mayL_iff]
  refine ⟨by simp [keyL]; omega, fun x hx => ?_⟩
  simp only [keyL, List.mem_map] at hx
  obtain ⟨k, _, rfl⟩ := hx
  unfold signN
  split <;> simp
theorem keyL_len (n l : Nat) : (keyL n l).length ≤ 13 := by simp [keyL]; omega
theorem key16_any (n l : Nat) (hn : n < 65536) (hl : l < 256) (w : World) : Calls Tryd.prog 10 #[.int .u16 n, .int .u8 l] w fun e w' => e = .returned (.string (sb (keyL n l))) ∧ w = w' := by
  obtain ⟨m, hm, hm2⟩ : ∃ m : Nat, (l : Int) % 14 = m ∧ m = l % 14 := ⟨l % 14, by omega, rfl⟩
  have hm14 : m < 14 := by omega
  have hmod : (l : Int).tmod 14 = m := by rw [Int.tmod_eq_emod_of_nonneg (by omega)]; exact hm
  have HR : Hid (keyL n l = (List.range m).map (signN n)) := Lib.hid (by rw [keyL, hm2])
  clear hm hm2
  go_enter Tryd.func10, Tryd.ntmps10
  go_wp2_with fail
  go_loop [5, 6] (fun s i => ∃ (k : Nat) (S : ByteArray), k ≤ m ∧ s = .string S ∧ i = .int .i64 k ∧ Hid (S = sb ((List.range k).map (signN n)))) (fun _ i => m - (intOf i).toNat)
  case atStart => exact ⟨0, _, Nat.zero_le _, rfl, rfl, Lib.hid rfl⟩
  case round =>
    obtain ⟨k, S, hk, rfl, rfl, hS⟩ := hrel
    by_cases hkm : k < m
    · have d1 : (k : Int) < m := by omega
      have hE := sign_enc n k hn
      have hes : (sb [signN n k]).size = 1 := by rw [sb_size]; rfl
      have hss : S.size = k := by rw [hS.out, sb_size]; simp
      obtain ⟨E, hEE⟩ : ∃ E, sb [signN n k] = E := ⟨_, rfl⟩
      rw [hEE] at hE hes
      have HEE := Lib.hid hEE
      have f1 : ¬ 9223372036854775807 < S.size + E.size := by omega
      have f2 : S.size + E.size ≤ 9223372036854775807 := by omega
      clear hEE hss hes
      go_wp2_with fail
      go_round
      case rel =>
        refine ⟨k + 1, _, by omega, rfl, by go_num, Lib.hid ?_⟩
        rw [hS.out, ← HEE.out, sb_append, List.range_succ, List.map_append]
        rfl
      case measure => simp [intOf]; omega
    · obtain rfl : k = m := by omega
      clear hkm
      go_wp2_with fail
      go_ret
      exact ⟨by rw [HR.out, hS.out]; rfl, rfl⟩
end Go.Proofs.YtgfoahednmipkaaDoor
