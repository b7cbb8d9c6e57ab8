/- table.Hash of any word; the table of the document's example. -/
import Derived.Test.YtikbekchddinfaaCs
import Derived.Test.YtikbekchddinfaaRows
import Derived.Test.YtikbekchddinfaaBuf
import Derived.WalkSmall
import Derived.Deep.DeepCutAuto
import Derived.Laws.BitsAllLaws
import Derived.IntWalk
import Derived.Lib.Hide
namespace Go.Proofs.Ytikbekchddinfaa
open Go.RowKit
set_option linter.unusedVariables false
set_option maxRecDepth 20000
/-- A word's number, modulo 2^32. -/
def hashL (l : List UInt8) : Nat := l.foldl (fun h c => (h * 31 + c.toNat) % 4294967296) 17
theorem hashL_lt (l : List UInt8) : hashL l < 4294967296 := by
  have key : ∀ (l : List UInt8) (h : Nat), h < 4294967296 → l.foldl (fun h c => (h * 31 + c.toNat) % 4294967296) h < 4294967296 := by
    intro l
    induction l with
    | nil => intro h hh; exact hh
    | cons c l ih => intro h hh; exact ih _ (Nat.mod_lt _ (by decide))
  exact key l 17 (by decide)
theorem hashL_take (l : List UInt8) (k : Nat) (hk : k < l.length) : hashL (l.take (k + 1)) = (hashL (l.take k) * 31 + (l[k]).toNat) % 4294967296 := by
  rw [hashL, List.take_succ_eq_append_getElem hk, List.foldl_append]; rfl
/-- So many slots, one at least. -/
def slotsN (m : Int) : Nat := (max 1 m).toNat
theorem hash_any (s : ByteArray) (m : Int) (w : World) (hm : m ≤ 9223372036854775807) (hs : s.size ≤ maxLen) :
    Calls Try.prog 18 #[.string s, .int .i64 m] w fun e w' => e = .returned (.int .i64 ((hashL s.data.toList % slotsN m : Nat) : Int)) ∧ w = w' := by
  obtain ⟨l, hl⟩ : ∃ l, s.data.toList = l := ⟨_, rfl⟩
  have hlen : l.length = s.size := by rw [← hl]; simp
  have hget : ∀ k (h : k < s.size), s[k].toNat = (l[k]'(by omega)).toNat := by
    intro k h; subst hl; rw [toList_get s k h]
  have hS : slotsN m = max 1 m.toNat := by simp only [slotsN]; omega
  obtain ⟨N, hN⟩ : ∃ N, slotsN m = N := ⟨_, rfl⟩
  rw [hl, hN]
  rw [hN] at hS
  have hN0 : 0 < N := by omega
  have hmx : (m < 1 ∧ N = 1) ∨ (1 ≤ m ∧ m = (N : Int)) := by omega
  have HM := Lib.hid hmx
  have HG := Lib.hid hget
  have HS := Lib.hid hs
  have HL := Lib.hid hl
  unfold maxLen at hs
  clear hmx hget hS hl
  go_enter Try.func18, Try.ntmps18
  go_wp2_with fail
  go_loop [5, 9] (fun v i => ∃ k : Nat, k ≤ s.size ∧ i = .int .i64 k ∧ v = .int .u32 (hashL (l.take k) : Nat)) (fun _ i => s.size - (intOf i).toNat)
  case atStart => exact ⟨0, Nat.zero_le _, rfl, rfl⟩
  case round =>
    obtain ⟨k, hk, rfl, rfl⟩ := hrel
    have hq : hashL (l.take k) < 4294967296 := hashL_lt _
    generalize hh : hashL (l.take k) = h at *
    have HH := Lib.hid hh
    clear hh
    by_cases hlt : k < s.size
    · have q1 : (k : Int) < s.size := by omega
      obtain ⟨c, hc⟩ : ∃ c, s[k]'hlt = c := ⟨_, rfl⟩
      have hc2 := UInt8.toNat_lt c
      have hcl : (l[k]'(by omega)).toNat = c.toNat := by rw [← HG.out k hlt, hc]
      have HC := Lib.hid hcl
      clear hcl
      obtain ⟨q, hq2⟩ : ∃ q, c.toNat = q := ⟨_, rfl⟩
      rw [hq2] at hc2
      go_wp2
      go_round
      case rel =>
        refine ⟨k + 1, by omega, by go_num, ?_⟩
        rw [hashL_take l k (by omega), HH.out, HC.out, hq2]
        first | go_num | (simp [IntKind.wrap, IntKind.bits, IntKind.signed]; omega)
      case measure => simp [intOf]; omega
    · obtain rfl : k = s.size := by omega
      have hLt : l.take s.size = l := List.take_of_length_le (by omega)
      rw [hLt] at HH
      have q1 : ¬ ((s.size : Nat) : Int) < s.size := by omega
      have i1 : IntKind.i64.wrap (h : Int) = h := IntWalk.i64_in _ (by omega)
      rcases HM.out with ⟨h1, h2⟩ | ⟨h1, rfl⟩
      · subst h2
        have h1' : ¬ 1 ≤ m := by omega
        have h1'' : ¬ 1 < m := by omega
        have e0 : (h : Int).tmod 1 = 0 := by simp
        go_wp2
        go_ret
        refine ⟨?_, rfl⟩; simp
      · have h1' : ¬ (N : Int) < 1 := by omega
        have e0 : ¬ (N : Int) = 0 := by omega
        have e1 : (h : Int).tmod N = ((h % N : Nat) : Int) := by rw [Int.tmod_eq_emod_of_nonneg (by omega)]; simp
        have e2 : IntKind.i64.wrap ((h % N : Nat) : Int) = ((h % N : Nat) : Int) := IntWalk.i64_in _ (by have := Nat.mod_lt h hN0; have := Nat.mod_le h N; omega)
        go_wp2
        go_ret
        refine ⟨?_, rfl⟩; simp [HH.out]
end Go.Proofs.Ytikbekchddinfaa
