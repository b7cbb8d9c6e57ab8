/- The contracts of package frame: Check, first. -/
import Derived.Test.YtidpffgdndjgpaaDoorRows
import Derived.Test.YtidpffgdndjgpaaDoorFrames
import Derived.Test.YtidpffgdndjgpaaDoorNum
import Derived.Test.YtidpffgdndjgpaaDoorBuf2
import Derived.Test.YtidpffgdndjgpaaDoorReg
import Derived.Outline
namespace Go.Proofs.YtidpffgdndjgpaaDoor
open Go.RowKit
set_option linter.unusedVariables false

theorem flip_nat (n : Nat) (h : n < 65536) : 65535 ^^^ n = 65535 - n := by
  apply Nat.eq_of_testBit_eq
  intro i
  rw [Nat.testBit_xor, show 65535 = 2 ^ 16 - 1 by rfl, Nat.testBit_two_pow_sub_one, show 2 ^ 16 - 1 - n = 2 ^ 16 - (n + 1) by omega, Nat.testBit_two_pow_sub_succ (by omega)]
  by_cases hi : i < 16
  · simp [hi]
  · rw [Nat.testBit_lt_two_pow (Nat.lt_of_lt_of_le h (Nat.pow_le_pow_right (n := 2) (by omega) (by omega : 16 ≤ i)))]
    simp [hi]
theorem flip16 (n : Nat) (h : n < 65536) : bits .xor .u16 IntKind.u16.max (n : Int) = ((65535 - n : Nat) : Int) := by
  rw [show IntKind.u16.max = ((65535 : Nat) : Int) by rfl, u16_xor_nat _ _ (by omega) h, flip_nat n h]

theorem check_any (A : Option Addr) (n c : Nat) (l : List UInt8) (w : World) (hA : Sl w w.heap.size 1 A n (l.map bv)) (hn : n ≤ maxLen) :
    Calls Tryd.prog 23 #[.slice A n c] w fun e w' => e = .returned (.int .u16 (chkN l)) ∧ w = w' := by
  unfold maxLen at hn
  have hl : l.length = n := by simpa using hA.1
  go_enter Tryd.func23, Tryd.ntmps23
  go_wp2
  go_loop [3, 4, 9] (fun s t i => ∃ k : Nat, k ≤ n ∧ i = .int .i64 k ∧ s = .int .u16 ((chkP (l.take k)).1 : Nat) ∧ t = .int .u16 ((chkP (l.take k)).2 : Nat)) (fun _ _ i => n - (intOf i).toNat)
  case atStart => exact ⟨0, Nat.zero_le _, rfl, rfl, rfl⟩
  case round =>
    obtain ⟨k, hk, rfl, rfl, rfl⟩ := hrel
    have hb := chkP_lt (l.take k)
    by_cases hlt : k < n
    · obtain ⟨b, off, u, rfl, hbb, hu, hc⟩ := hA.at_ hlt
      have hkl : k < l.length := by omega
      have ht := chkP_take hkl
      simp only [List.getElem?_map, List.getElem?_eq_getElem hkl, Option.map_some, Option.some.injEq] at hu
      have h8 := UInt8.toNat_lt l[k]
      subst hu
      simp only [bv] at hc
      generalize (l[k]).toNat = y at *
      generalize (chkP (l.take k)).1 = s at *
      generalize (chkP (l.take k)).2 = t at *
      have HT := Lib.hid ht
      clear ht hl
      go_wp2
      go_round
      case rel => exact ⟨k + 1, by omega, by go_num, by rw [HT.out]; simp, by rw [HT.out]; simp⟩
      case measure => simp [intOf]; omega
    · rw [List.take_of_length_le (by omega)] at hb ⊢
      have hq : chkN l = 256 * (chkP l).2 + (chkP l).1 := rfl
      have HQ := Lib.hid hq
      clear hl hq
      generalize (chkP l).1 = s at *
      generalize (chkP l).2 = t at *
      go_wp2
      go_ret
      exact ⟨by rw [HQ.out]; simp, rfl⟩
/-- The cells of a part of a slice. -/
theorem Sl.part {w : World} {B n a m b off : Nat} {l : List UInt8} (h : Sl w B 1 (some ⟨b, off, none⟩) n (l.map bv)) (hm : a + m ≤ n) : Sl w B 1 (some ⟨b, off + a, none⟩) m (((l.drop a).take m).map bv) := by
  have hl : l.length = n := by simpa using h.1
  refine ⟨by simp; omega, fun hpos => ⟨b, off + a, rfl, ?_, fun j u hu => ?_⟩⟩
  · obtain ⟨b', off', e, hb, _⟩ := h.2 (by omega)
    injection e with e; injection e with e _
    omega
  · rw [List.getElem?_map] at hu
    obtain ⟨y, hy, rfl⟩ := Option.map_eq_some_iff.1 hu
    have hj : j < m := by have := (List.getElem?_eq_some_iff.1 hy).1; simp at this; omega
    rw [List.getElem?_take_of_lt hj, List.getElem?_drop] at hy
    have := h.cell (a + j) (bv y) (by rw [List.getElem?_map, hy]; rfl)
    rwa [← Nat.add_assoc] at this
theorem n16_list (l : List UInt8) (i : Nat) : n16 ⟨l.toArray⟩ i = n16L l i := rfl
theorem get16_at (l : List UInt8) (i : Nat) (a : Int) (m : Nat) (w : World) (ha : a = i) (hs : l.length ≤ maxLen) (h1 : i + 2 ≤ l.length) (hm : m = n16L l i) :
    Calls Tryd.prog 32 #[.string ⟨l.toArray⟩, .int .i64 a] w fun e w' => e = .returned (.tuple #[.int .u16 (m : Nat), .bool true]) ∧ ∃ k, w.drewN k = w' := by
  subst ha hm
  have := get16_yes ⟨l.toArray⟩ i w (by rw [mk_size]; exact hs) (by rw [mk_size]; exact h1)
  rwa [n16_list] at this
theorem n16L_take (l : List UInt8) (k a : Nat) (h : a + 2 ≤ k) : n16L (l.take k) a = n16L l a := by
  unfold n16L
  simp only [List.getD, List.getElem?_take]
  rw [if_pos (by omega), if_pos (by omega)]
theorem n16L_drop (l : List UInt8) (k a : Nat) : n16L (l.drop k) a = n16L l (k + a) := by
  unfold n16L
  simp only [List.getD, List.getElem?_drop, Nat.add_assoc]
/-- The ways in which bytes begin with no frame. -/
theorem firstL_none {l : List UInt8} (h : firstL l = none) : l.length < 6 ∨ (6 ≤ l.length ∧ n16L l 2 ≠ 65535 - n16L l 0) ∨ (6 ≤ l.length ∧ n16L l 2 = 65535 - n16L l 0 ∧ 600 < n16L l 0) ∨
    (6 ≤ l.length ∧ n16L l 2 = 65535 - n16L l 0 ∧ n16L l 0 ≤ 600 ∧ l.length < n16L l 0 + 6) ∨ (6 ≤ l.length ∧ n16L l 2 = 65535 - n16L l 0 ∧ n16L l 0 ≤ 600 ∧ n16L l 0 + 6 ≤ l.length ∧ n16L l (4 + n16L l 0) ≠ chkN ((l.drop 4).take (n16L l 0))) := by
  unfold firstL at h
  split at h
  · exact .inl (by omega)
  split at h
  · rename_i h1 h2
    omega
  split at h
  · rename_i h1 h2 h3
    omega
  · cases h
theorem firstL_yes {l : List UInt8} {m : Nat} (h : firstL l = some m) : 6 ≤ l.length ∧ n16L l 2 = 65535 - n16L l 0 ∧ n16L l 0 ≤ 600 ∧ n16L l 0 + 6 ≤ l.length ∧ n16L l (4 + n16L l 0) = chkN ((l.drop 4).take (n16L l 0)) ∧ m = n16L l 0 := by
  unfold firstL at h
  split at h
  · cases h
  split at h
  · cases h
  split at h
  · cases h
  rename_i h1 h2 h3
  simp only [Option.some.injEq] at h
  omega

set_option maxHeartbeats 800000 in
set_option maxRecDepth 20000 in
theorem first_any (A : Option Addr) (n c : Nat) (l : List UInt8) (w : World) (hA : Sl w w.heap.size 1 A n (l.map bv)) (hA0 : A = none → n = 0) (hn : n ≤ c) (hN : n ≤ 281474976710656) :
    (firstL l = none → Calls Tryd.prog 28 #[.slice A n c] w fun e w' => e = .returned (.tuple #[.int .i64 0, .bool false]) ∧ ∃ k, w.drewN k = w') ∧
    (∀ m, firstL l = some m → Calls Tryd.prog 28 #[.slice A n c] w fun e w' => e = .returned (.tuple #[.int .i64 m, .bool true]) ∧ ∃ k, w.drewN k = w') := by
  have hl : l.length = n := by simpa using hA.1
  by_cases h6 : n < 6
  · refine ⟨fun h => ?_, fun m h => by have := (firstL_yes h).1; omega⟩
    go_enter Tryd.func28, Tryd.ntmps28
    go_wp2_with fail
    go_ret2
    exact ⟨rfl, 0, rfl⟩
  cases A with
  | none => exact absurd (hA0 rfl) (by omega)
  | some ad =>
  obtain ⟨b, off, e, -, -⟩ := hA.2 (by omega)
  obtain rfl := Option.some.inj e
  have p4 := hA.part (a := 0) (m := 4) (by omega)
  rw [Nat.add_zero, List.drop_zero] at p4
  have g0 := n16L_take l 4 0 (by omega)
  have g2 := n16L_take l 4 2 (by omega)
  have hl4 : (l.take 4).length = 4 := by simp; omega
  generalize l.take 4 = l4 at *
  have l0 := n16L_lt l 0
  have l2 := n16L_lt l 2
  have c4 := fun (w1 : World) (h : Sl w1 w.heap.size 1 (some ⟨b, off, none⟩) 4 (l4.map bv)) => run_string_of (P := Tryd.prog) w1 32 9 5 _ _ 4 l4 Tryd.underlying32 Tryd.underlying5 Tryd.underlying9 h (fun h => by cases h)
  have c4a := c4 w p4
  have c4b := fun k => c4 (w.drewN k) (p4.drewN k)
  have hN := @firstL_none l
  have hY := @firstL_yes l
  have hcs : n16L l 0 + 6 ≤ n → ∃ ck lc lk, lc = (l.drop (4 + n16L l 0)).take 2 ∧ lk = (l.drop 4).take (n16L l 0) ∧ ck = n16L l (4 + n16L l 0) ∧ ck < 65536 ∧ lc.length = 2 ∧ n16L lc 0 = ck ∧
      Sl w w.heap.size 1 (some ⟨b, off + (4 + n16L l 0), none⟩) 2 (lc.map bv) ∧ Sl w w.heap.size 1 (some ⟨b, off + 4, none⟩) (n16L l 0) (lk.map bv) := fun h =>
    ⟨_, _, _, rfl, rfl, rfl, n16L_lt _ _, by simp; omega, by rw [n16L_take _ _ _ (by omega), n16L_drop, Nat.add_zero], hA.part (by omega), hA.part (by omega)⟩
  obtain ⟨s0, e0⟩ : ∃ x, x = n16L l 0 := ⟨_, rfl⟩
  obtain ⟨s2, e2⟩ : ∃ x, x = n16L l 2 := ⟨_, rfl⟩
  obtain ⟨m0, e3⟩ : ∃ x, x = 65535 - s0 := ⟨_, rfl⟩
  rw [← e0] at g0 l0
  rw [← e2] at g2 l2
  simp only [← e0, ← e2, hl, ← e3] at hN hY hcs
  have hfl := flip16 s0 l0
  rw [← e3] at hfl
  have G0 := Lib.hid g0
  have G2 := Lib.hid g2
  have HL4 := Lib.hid hl4
  have HA := Lib.hid hA0
  clear g0 g2 c4 hl4 e0 e2 e3 hA0
  have hN1 : firstL l = none → Hid _ := fun h => Lib.hid (hN h)
  have hY1 : ∀ m, firstL l = some m → Hid _ := fun m h => Lib.hid (hY h)
  clear hN hY
  by_cases hx : s2 = m0
  rotate_left
  · refine ⟨fun h => ?_, fun m h => by have := (hY1 m h).out; omega⟩
    have hx' : ((s2 : Int) != (m0 : Int)) = true := by simp; omega
    clear hcs hN1 hY1 h
    go_enter Tryd.func28, Tryd.ntmps28
    go_wp2_with fail
    refine (get16_at l4 0 0 s0 _ (by decide) (by rw [HL4.out]; decide) (by rw [HL4.out]; decide) G0.out.symm).mono ?_
    rintro e w1 ⟨rfl, k1, rfl⟩
    have c4c := c4b k1
    go_wp2_with fail
    refine (get16_at l4 2 2 s2 _ (by decide) (by rw [HL4.out]; decide) (by rw [HL4.out]; decide) G2.out.symm).mono ?_
    rintro e w1 ⟨rfl, k2, rfl⟩
    clear c4c c4b c4a
    go_wp2_with fail
    go_ret2
    exact ⟨rfl, _, rfl⟩
  subst hx
  by_cases h600 : 600 < s0 ∨ n < s0 + 6
  · refine ⟨fun h => ?_, fun m h => by have := (hY1 m h).out; omega⟩
    clear hcs hN1 hY1 h
    go_enter Tryd.func28, Tryd.ntmps28
    go_wp2_with fail
    refine (get16_at l4 0 0 s0 _ (by decide) (by rw [HL4.out]; decide) (by rw [HL4.out]; decide) G0.out.symm).mono ?_
    rintro e w1 ⟨rfl, k1, rfl⟩
    have c4c := c4b k1
    go_wp2_with fail
    refine (get16_at l4 2 2 s2 _ (by decide) (by rw [HL4.out]; decide) (by rw [HL4.out]; decide) G2.out.symm).mono ?_
    rintro e w1 ⟨rfl, k2, rfl⟩
    clear c4c c4b c4a
    by_cases h6 : 600 < s0
    · have d6 : decide ((600 : Int) < (s0 : Int)) = true := by simp; omega
      clear h6 h600
      go_wp2_with fail
      go_ret2
      exact ⟨rfl, _, rfl⟩
    · have d6 : decide ((600 : Int) < (s0 : Int)) = false := by simp; omega
      have d7 : decide ((n : Int) < 4 + (s0 : Int) + 2) = true := by simp; omega
      have h7 : s0 ≤ 600 := by omega
      clear h6 h600
      go_wp2_with fail
      go_ret2
      exact ⟨rfl, _, rfl⟩
  obtain ⟨ck, lc, lk, -, e5, e6, hck, hlc, hlc0, plc, plk⟩ := hcs (by omega)
  rw [← e6, ← e5] at hN1 hY1
  have hchk : chkN lk < 65535 := chkN_lt lk
  have cc := fun (w1 : World) (h : Sl w1 w.heap.size 1 (some ⟨b, off + (4 + s0), none⟩) 2 (lc.map bv)) => run_string_of (P := Tryd.prog) w1 32 9 5 _ _ 2 lc Tryd.underlying32 Tryd.underlying5 Tryd.underlying9 h (fun h => by cases h)
  have cb := fun k => cc (w.drewN k) (plc.drewN k)
  have HLC := Lib.hid hlc
  have HLC0 := Lib.hid hlc0
  clear e5 e6 cc hlc hlc0 hcs
  have n600 : s0 ≤ 600 := by omega
  have n6 : s0 + 6 ≤ n := by omega
  clear h600
  have rest : ∀ (Q : Ending → World → Prop), (∀ k, Q (if ck = chkN lk then .returned (.tuple #[.int .i64 (s0 : Nat), .bool true]) else .returned (.tuple #[.int .i64 0, .bool false])) (w.drewN k)) →
      Calls Tryd.prog 28 #[.slice (some ⟨b, off, none⟩) n c] w Q := by
    intro Q hQ
    have HQ := Lib.hid hQ
    have HF := Lib.hid hfl
    clear hQ hN1 hY1 hfl
    go_enter Tryd.func28, Tryd.ntmps28
    go_wp2_with fail
    refine (get16_at l4 0 0 s0 _ (by decide) (by rw [HL4.out]; decide) (by rw [HL4.out]; decide) G0.out.symm).mono ?_
    rintro e w1 ⟨rfl, k1, rfl⟩
    have c4c := c4b k1
    go_wp2_with fail
    refine (get16_at l4 2 2 s2 _ (by decide) (by rw [HL4.out]; decide) (by rw [HL4.out]; decide) G2.out.symm).mono ?_
    rintro e w1 ⟨rfl, k2, rfl⟩
    have cd := cb (k1 + k2)
    clear c4c c4b c4a cb
    have hb' := HF.out.symm
    go_wp2_with fail
    refine (get16_at lc 0 0 ck _ (by decide) (by rw [HLC.out]; decide) (by rw [HLC.out]; decide) HLC0.out.symm).mono ?_
    rintro e w1 ⟨rfl, k3, rfl⟩
    clear cd hb'
    go_wp2_with fail
    refine (check_any _ _ _ lk _ (plk.drewN _) (by unfold maxLen; omega)).mono ?_
    rintro e w1 ⟨rfl, rfl⟩
    have hQ := HQ.out (k1 + k2 + k3)
    generalize chkN lk = q at *
    by_cases hq : ck = q
    · rw [if_pos hq] at hQ
      subst hq
      have hx2 : ((ck : Int) != (ck : Int)) = false := by simp
      have HQ' := Lib.hid hQ
      clear hQ
      go_wp2_with fail
      exact HQ'.out
    · rw [if_neg hq] at hQ
      have hx2 : ((ck : Int) != (q : Int)) = true := by simp; omega
      have HQ' := Lib.hid hQ
      clear hQ
      go_wp2_with fail
      exact HQ'.out
  refine ⟨fun h => rest _ fun k => ?_, fun m h => rest _ fun k => ?_⟩
  · have := (hN1 h).out
    rw [if_neg (by omega)]
    exact ⟨rfl, k, rfl⟩
  · have := (hY1 m h).out
    rw [if_pos (by omega)]
    exact ⟨by rw [show m = s0 by omega], k, rfl⟩
end Go.Proofs.YtidpffgdndjgpaaDoor
