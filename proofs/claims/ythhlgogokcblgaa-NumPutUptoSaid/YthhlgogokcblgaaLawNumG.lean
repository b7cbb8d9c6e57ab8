/- The walk of NumGet: the law's Go text returns true, and writes nothing that was there. -/
import Derived.Test.YthhlgogokcblgaaLawNum
namespace Go.Proofs.Ythhlgogokcblgaa
open Go.RowKit
set_option linter.unusedVariables false
/-- The number of k bytes from a place on. -/
def valN (s : ByteArray) (a : Nat) : Nat → Nat
  | 0 => 0
  | k + 1 => valN s a k * 256 + at8 s (a + k)
theorem valN_lt (s : ByteArray) (a : Nat) : ∀ k, valN s a k < 256 ^ k
  | 0 => by simp [valN]
  | k + 1 => by
    have h1 := valN_lt s a k
    have h2 := at8_lt s (a + k)
    simp only [valN, Nat.pow_succ]
    omega
theorem valN_le (s : ByteArray) (a k : Nat) (h : k ≤ 4) : valN s a k < 4294967296 := by
  have h1 := valN_lt s a k
  have h2 : 256 ^ k ≤ 256 ^ 4 := Nat.pow_le_pow_right (by omega) h
  omega
theorem valN2 (s : ByteArray) (a : Nat) : valN s a 2 = n16 s a := by simp [valN, n16]
theorem valN4 (s : ByteArray) (a : Nat) : valN s a 4 = n32 s a := by simp only [valN, n32, Nat.add_zero]; omega

theorem wrap_step (q x : Nat) (hq : q < 4294967296) (hx : x < 256) : wrap64 ((q : Int) * 256 + wrap64 (x : Int)) = ((q * 256 + x : Nat) : Int) := by
  rw [IntWalk.wrap64_in (x : Int) (by omega), IntWalk.wrap64_in _ (by omega)]; simp

set_option maxHeartbeats 400000 in
theorem want_yes (s : ByteArray) (a k : Nat) (pa pb : Nat) (w : World) (hs : s.size ≤ 140737488351232) (hk : k ≤ 4) (h1 : a + k ≤ s.size) (ca : w.cell? ⟨pa, 0, none⟩ = some (.int .i64 a)) (cb : w.cell? ⟨pb, 0, none⟩ = some (.string s)) :
    Calls Try.prog 18 #[.int .i64 k, .pointer (some ⟨pa, 0, none⟩), .pointer (some ⟨pb, 0, none⟩)] w fun e w' => e = .returned (.tuple #[.int .i64 (valN s a k), .bool true]) ∧ w = w' := by
  have h2 : ¬ (a : Int) < 0 := by omega
  have h3 : ¬ (s.size : Int) - k < a := by omega
  go_enter Try.func18, Try.ntmps18
  go_wp2
  go_loop [6, 7] (fun v i => ∃ j : Nat, j ≤ k ∧ i = .int .i64 ((a + j : Nat) : Int) ∧ v = .int .i64 (valN s a j)) (fun _ i => a + k - (intOf i).toNat)
  case atStart => exact ⟨0, Nat.zero_le _, by simp, by simp [valN]⟩
  case round =>
    obtain ⟨j, hj, rfl, rfl⟩ := hrel
    have hv := valN_le s a j (by omega)
    by_cases hlt : j < k
    · have hi : (a : Int) + j < s.size := by omega
      have hi2 : a + j < s.size := by omega
      have hlt2 : (a : Int) + j < a + k := by omega
      have h8 := at8_eq s (a + j) hi2
      have hst : valN s a (j + 1) = valN s a j * 256 + at8 s (a + j) := rfl
      rw [h8] at hst
      have HS := Lib.hid hst
      have HX := Lib.hid (UInt8.toNat_lt s[a + j])
      clear hst h8
      generalize valN s a j = q at *
      go_wp2
      go_round
      case rel => exact ⟨j + 1, by omega, by go_num, congrArg (Value.int IntKind.i64) (by rw [HS.out]; exact wrap_step _ _ hv HX.out)⟩
      case measure => simp [intOf]; omega
    · obtain rfl : j = k := by omega
      have hlt2 : ¬ (a : Int) + j < a + j := by omega
      go_wp2
      go_ret2
      exact ⟨rfl, rfl⟩
theorem want_no (s : ByteArray) (a k : Int) (pa pb : Nat) (w : World) (hs : s.size ≤ 140737488351232) (hk0 : 0 ≤ k) (hk : k ≤ 4) (h1 : a < 0 ∨ (s.size : Int) - k < a) (ca : w.cell? ⟨pa, 0, none⟩ = some (.int .i64 a)) (cb : w.cell? ⟨pb, 0, none⟩ = some (.string s)) :
    Calls Try.prog 18 #[.int .i64 k, .pointer (some ⟨pa, 0, none⟩), .pointer (some ⟨pb, 0, none⟩)] w fun e w' => e = .returned (.tuple #[.int .i64 0, .bool false]) ∧ w = w' := by
  by_cases h : a < 0
  · clear h1
    go_enter Try.func18, Try.ntmps18
    go_wp2
    go_ret2
    exact ⟨rfl, rfl⟩
  · have h2 : (s.size : Int) - k < a := by omega
    clear h1
    go_enter Try.func18, Try.ntmps18
    go_wp2
    go_ret2
    exact ⟨rfl, rfl⟩

set_option maxHeartbeats 800000 in
theorem want_said (s : ByteArray) (a k : Int) (r : Int) (ok : Bool) (w : World) (hs : s.size ≤ 140737488351232) (hk : k = 2 ∨ k = 4) (pa pb : Nat) (ca : w.cell? ⟨pa, 0, none⟩ = some (.int .i64 a)) (cb : w.cell? ⟨pb, 0, none⟩ = some (.string s))
    (h : (0 ≤ a ∧ a + k ≤ s.size ∧ r = valN s a.toNat k.toNat ∧ ok = true) ∨ ((a < 0 ∨ (s.size : Int) - k < a) ∧ r = 0 ∧ ok = false)) :
    Calls Try.prog 18 #[.int .i64 k, .pointer (some ⟨pa, 0, none⟩), .pointer (some ⟨pb, 0, none⟩)] w fun e w' => e = .returned (.tuple #[.int .i64 r, .bool ok]) ∧ w = w' := by
  rcases h with ⟨h0, h1, rfl, rfl⟩ | ⟨h1, rfl, rfl⟩
  · obtain ⟨n, rfl⟩ := Int.eq_ofNat_of_zero_le h0
    have hk' : k = ((k.toNat : Nat) : Int) := by omega
    have := want_yes s n k.toNat pa pb w hs (by omega) (by omega) ca cb
    rw [← hk'] at this
    exact this
  · exact want_no s a k pa pb w hs (by omega) (by omega) h1 ca cb

set_option maxHeartbeats 1600000 in
theorem numGet_walk (w : World) (s : ByteArray) (hs : s.size ≤ 140737488351232) (a : Int) (ha : (Lit.int .i64 a).wf = true) :
    Calls Try.prog 4 #[.string s, .int .i64 a] w fun e w' => e = .returned (.bool true) ∧ Below w.heap.size w w' := by
  have hs' : s.size ≤ maxLen := by unfold maxLen; omega
  -- what the two calls and the closure answer, the same on each way
  obtain ⟨r2, o2, hr2, g2, f2⟩ : ∃ (r : Int) (ok : Bool), (0 ≤ r ∧ r < 65536) ∧ (∀ w, Calls Try.prog 16 #[.string s, .int .i64 a] w fun e w' => e = .returned (.tuple #[.int .u16 r, .bool ok]) ∧ ∃ n, w.drewN n = w') ∧
      ((0 ≤ a ∧ a + 2 ≤ s.size ∧ r = valN s a.toNat (2 : Int).toNat ∧ ok = true) ∨ ((a < 0 ∨ (s.size : Int) - 2 < a) ∧ r = 0 ∧ ok = false)) := by
    by_cases h : 0 ≤ a ∧ a + 2 ≤ s.size
    · obtain ⟨n, rfl⟩ := Int.eq_ofNat_of_zero_le h.1
      refine ⟨n16 s n, true, ?_, fun w => get16_yes s n w hs' (by omega), .inl ⟨h.1, h.2, ?_, rfl⟩⟩
      · have h1 := at8_lt s n; have h2 := at8_lt s (n + 1); unfold n16; omega
      · rw [show (2 : Int).toNat = 2 by rfl, Int.toNat_natCast, valN2]
    · exact ⟨0, false, by omega, fun w => (get16_no s a w hs' (by omega)).mono fun e w' ⟨h1, h2⟩ => ⟨h1, 0, h2⟩, .inr ⟨by omega, rfl, rfl⟩⟩
  obtain ⟨r4, o4, hr4, g4, f4⟩ : ∃ (r : Int) (ok : Bool), (0 ≤ r ∧ r < 4294967296) ∧ (∀ w, Calls Try.prog 17 #[.string s, .int .i64 a] w fun e w' => e = .returned (.tuple #[.int .u32 r, .bool ok]) ∧ ∃ n, w.drewN n = w') ∧
      ((0 ≤ a ∧ a + 4 ≤ s.size ∧ r = valN s a.toNat (4 : Int).toNat ∧ ok = true) ∨ ((a < 0 ∨ (s.size : Int) - 4 < a) ∧ r = 0 ∧ ok = false)) := by
    by_cases h : 0 ≤ a ∧ a + 4 ≤ s.size
    · obtain ⟨n, rfl⟩ := Int.eq_ofNat_of_zero_le h.1
      refine ⟨n32 s n, true, ?_, fun w => get32_yes s n w hs' (by omega), .inl ⟨h.1, h.2, ?_, rfl⟩⟩
      · have h1 := valN_le s n 4 (by omega); rw [valN4] at h1; omega
      · rw [show (4 : Int).toNat = 4 by rfl, Int.toNat_natCast, valN4]
    · exact ⟨0, false, by omega, fun w => (get32_no s a w hs' (by omega)).mono fun e w' ⟨h1, h2⟩ => ⟨h1, 0, h2⟩, .inr ⟨by omega, rfl, rfl⟩⟩
  have G2 := Lib.hid g2
  have G4 := Lib.hid g4
  have F2 := Lib.hid f2
  have F4 := Lib.hid f4
  clear g2 g4 f2 f4 ha
  go_enter Try.func4, Try.ntmps4
  go_wp2_with (first
      | (go_at_call 13; refine (awake1_any _).mono ?_; rintro e w1 ⟨rfl, hb1⟩
         have c0 : w1.cell? ⟨w.heap.size, 0, none⟩ = some (.string s) := (hb1.cell (p := ⟨w.heap.size, 0, none⟩) (by simp only [World.size_alloc]; omega)).trans (by simp)
         have c1 : w1.cell? ⟨w.heap.size + 1, 0, none⟩ = some (.int .i64 a) := (hb1.cell (p := ⟨w.heap.size + 1, 0, none⟩) (by simp)).trans (by simp)
         have hB := below_trans (((Below.refl w.heap.size w).alloc (Nat.le_refl _) _).alloc (by simp) _) (by simp; omega) hb1
         clear hb1)
      | (go_at_call 16; refine (G2.out _).mono ?_; rintro e w2 ⟨rfl, k2, rfl⟩)
      | (go_at_call 17; refine (G4.out _).mono ?_; rintro e w2 ⟨rfl, k4, rfl⟩))
  refine (want_said s a 2 r2 o2 (w1.drewN (k2 + k4)) hs (.inl rfl) _ _ c1 c0 F2.out).mono ?_
  rintro e w3 ⟨rfl, rfl⟩
  go_wp2_with fail
  refine (want_said s a 4 r4 o4 (w1.drewN (k2 + k4)) hs (.inr rfl) _ _ c1 c0 F4.out).mono ?_
  rintro e w3 ⟨rfl, rfl⟩
  go_wp2_with fail
  go_ret
  exact ⟨rfl, below_drewN hB _⟩
end Go.Proofs.Ythhlgogokcblgaa
