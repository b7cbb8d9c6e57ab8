/- The walks of layer 6: each law's Go text returns true, and writes nothing. -/
import Derived.Test.YthhlgogokcblgabSerial

import Derived.WalkSmall
namespace Go.Proofs.Ythhlgogokcblgab
open Go.RowKit
set_option linter.unusedVariables false

set_option maxHeartbeats 800000 in
theorem serialLater_walk (w : World) (a : Int) (ha : (Lit.int .u32 a).wf = true) (b : Int) (hb : (Lit.int .u32 b).wf = true) :
    Calls Try.prog 4 #[.int .u32 a, .int .u32 b] w fun e w' => e = .returned (.bool true) ∧ Below w.heap.size w w' := by
  have ha2 := bounds_u32 ha
  have hb2 := bounds_u32 hb
  obtain ⟨d, hd⟩ : ∃ d, (a - b + 4294967296) % 4294967296 = d := ⟨_, rfl⟩
  have l1 := fun w => later_any a b w ha2 hb2
  have l2 := fun w => later_any b a w hb2 ha2
  have l3 := fun w => apart_any a b w ha2 hb2
  have hcase : (d = 0 ∧ laterB a b = false ∧ laterB b a = false ∧ apartB a b = false) ∨ (0 < d ∧ d < 2147483648 ∧ laterB a b = true ∧ laterB b a = false ∧ apartB a b = false) ∨
      (d = 2147483648 ∧ laterB a b = false ∧ laterB b a = false ∧ apartB a b = true) ∨ (2147483648 < d ∧ laterB a b = false ∧ laterB b a = true ∧ apartB a b = false) := by
    simp only [laterB, apartB, decide_eq_true_eq, decide_eq_false_iff_not]
    omega
  rcases hcase with ⟨h, e1, e2, e3⟩ | ⟨h, h', e1, e2, e3⟩ | ⟨h, e1, e2, e3⟩ | ⟨h, e1, e2, e3⟩
  all_goals
    rw [e1] at l1
    rw [e2] at l2
    rw [e3] at l3
    have L1 := Lib.hid l1
    have L2 := Lib.hid l2
    have L3 := Lib.hid l3
    clear l1 l2 l3 e1 e2 e3 ha hb
    try subst h
    go_enter Try.func4, Try.ntmps4
    go_wp2_with (go_at_call 20; refine (awake6_any _).mono ?_; rintro e w1 ⟨rfl, rfl⟩)
    refine (L1.out _).mono ?_
    rintro e w1 ⟨rfl, rfl⟩
    go_wp2_with fail
    refine (L2.out _).mono ?_
    rintro e w1 ⟨rfl, rfl⟩
    go_wp2_with fail
    refine (L3.out _).mono ?_
    rintro e w1 ⟨rfl, rfl⟩
    go_wp2_with fail
    go_ret
    refine ⟨?_, Below.refl _ _⟩
    first | rfl | (simp; omega)

set_option maxHeartbeats 800000 in
theorem serialTurn_walk (w : World) (a : Int) (ha : (Lit.int .u32 a).wf = true) (b : Int) (hb : (Lit.int .u32 b).wf = true) (n : Int) (hn : (Lit.int .u32 n).wf = true) :
    Calls Try.prog 8 #[.int .u32 a, .int .u32 b, .int .u32 n] w fun e w' => e = .returned (.bool true) ∧ Below w.heap.size w w' := by
  have ha2 := bounds_u32 ha
  have hb2 := bounds_u32 hb
  have hn2 := bounds_u32 hn
  have l1 := fun w => later_any a b w ha2 hb2
  have l2 := fun w => later_any ((a + n) % 4294967296) ((b + n) % 4294967296) w (by omega) (by omega)
  have l3 := fun w => apart_any a b w ha2 hb2
  have l4 := fun w => apart_any ((b + n) % 4294967296) ((a + n) % 4294967296) w (by omega) (by omega)
  have l5 := fun w => later_any a a w ha2 ha2
  have e1 : laterB ((a + n) % 4294967296) ((b + n) % 4294967296) = laterB a b := by
    simp only [laterB, decide_eq_decide]; omega
  have e2 : apartB ((b + n) % 4294967296) ((a + n) % 4294967296) = apartB a b := by
    simp only [apartB, decide_eq_decide]; omega
  have e3 : laterB a a = false := by simp [laterB]
  rw [e1] at l2
  rw [e2] at l4
  rw [e3] at l5
  generalize laterB a b = x at *
  generalize apartB a b = y at *
  have L1 := Lib.hid l1
  have L2 := Lib.hid l2
  have L3 := Lib.hid l3
  have L4 := Lib.hid l4
  have L5 := Lib.hid l5
  clear l1 l2 l3 l4 l5 e1 e2 e3 ha hb hn
  have hx : (x == x) = true := by simp
  have hy : (y == y) = true := by simp
  go_enter Try.func8, Try.ntmps8
  go_wp2_with (go_at_call 20; refine (awake6_any _).mono ?_; rintro e w1 ⟨rfl, rfl⟩)
  refine (L1.out _).mono ?_
  rintro e w1 ⟨rfl, rfl⟩
  go_wp2_with fail
  refine (L2.out _).mono ?_
  rintro e w1 ⟨rfl, rfl⟩
  go_wp2_with fail
  refine (L3.out _).mono ?_
  rintro e w1 ⟨rfl, rfl⟩
  go_wp2_with fail
  refine (L4.out _).mono ?_
  rintro e w1 ⟨rfl, rfl⟩
  go_wp2_with fail
  refine (L5.out _).mono ?_
  rintro e w1 ⟨rfl, rfl⟩
  go_wp2_with fail
  go_ret
  exact ⟨rfl, Below.refl _ _⟩

set_option maxHeartbeats 800000 in
theorem serialAdd_walk (w : World) (a : Int) (ha : (Lit.int .u32 a).wf = true) (n : Int) (hn : (Lit.int .u32 n).wf = true) :
    Calls Try.prog 5 #[.int .u32 a, .int .u32 n] w fun e w' => e = .returned (.bool true) ∧ Below w.heap.size w w' := by
  have ha2 := bounds_u32 ha
  have hn2 := bounds_u32 hn
  by_cases h : 2147483648 ≤ n
  · have L1 := Lib.hid (fun w => add_no a n w ha2 h)
    clear ha hn
    go_enter Try.func5, Try.ntmps5
    go_wp2_with (go_at_call 20; refine (awake6_any _).mono ?_; rintro e w1 ⟨rfl, rfl⟩)
    refine (L1.out _).mono ?_
    rintro e w1 ⟨rfl, rfl⟩
    go_wp2_with fail
    go_ret
    exact ⟨rfl, Below.refl _ _⟩
  · have L1 := Lib.hid (fun w => add_yes a n w ha2 ⟨hn2.1, by omega⟩)
    have l2 := fun w => later_any ((a + n) % 4294967296) a w (by omega) ha2
    rw [show laterB ((a + n) % 4294967296) a = decide (0 < n) by simp only [laterB, decide_eq_decide]; omega] at l2
    have L2 := Lib.hid l2
    clear ha hn l2
    go_enter Try.func5, Try.ntmps5
    go_wp2_with (go_at_call 20; refine (awake6_any _).mono ?_; rintro e w1 ⟨rfl, rfl⟩)
    refine (L1.out _).mono ?_
    rintro e w1 ⟨rfl, rfl⟩
    go_wp2_with fail
    refine (L2.out _).mono ?_
    rintro e w1 ⟨rfl, rfl⟩
    go_wp2_with fail
    go_ret
    exact ⟨rfl, Below.refl _ _⟩

/-- The last of some, one by one. -/
def lastStep (last n : Int) : Int := if laterB n last = true then n else last
def lastL : List Int → Int
  | [] => 0
  | x :: xs => xs.foldl lastStep x
theorem lastL_snoc (l : List Int) (x : Int) : lastL (l ++ [x]) = if l = [] then x else lastStep (lastL l) x := by
  cases l with
  | nil => rfl
  | cons y l => simp [lastL, List.foldl_append]
theorem lastL_take (l : List Int) (k : Nat) (h : k < l.length) : lastL (l.take (k + 1)) = if k = 0 then l[k] else lastStep (lastL (l.take k)) l[k] := by
  rw [List.take_succ_eq_append_getElem h, lastL_snoc]
  have : l.take k = [] ↔ k = 0 := by rw [← List.length_eq_zero_iff, List.length_take]; omega
  simp only [this]
theorem lastStep_in (a b : Int) (ha : 0 ≤ a ∧ a ≤ 4294967295) (hb : 0 ≤ b ∧ b ≤ 4294967295) : 0 ≤ lastStep a b ∧ lastStep a b ≤ 4294967295 := by
  unfold lastStep; split <;> omega
theorem lastL_in : ∀ (l : List Int), (∀ z ∈ l, 0 ≤ z ∧ z ≤ 4294967295) → 0 ≤ lastL l ∧ lastL l ≤ 4294967295
  | [], _ => by simp [lastL]
  | x :: xs, h => by
    have : ∀ (ys : List Int) (a : Int), (∀ z ∈ ys, 0 ≤ z ∧ z ≤ 4294967295) → 0 ≤ a ∧ a ≤ 4294967295 → 0 ≤ ys.foldl lastStep a ∧ ys.foldl lastStep a ≤ 4294967295 := by
      intro ys
      induction ys with
      | nil => intro a _ h; exact h
      | cons y ys ih => intro a hy ha; exact ih _ (fun z hz => hy z (by simp [hz])) (lastStep_in a y ha (hy y (by simp)))
    exact this xs x (fun z hz => h z (by simp [hz])) (h x (by simp))

theorem last_none (A : Option Addr) (c : Nat) (w : World) :
    Calls Try.prog 24 #[.slice A 0 c] w fun e w' => e = .returned (.tuple #[.int .u32 0, .bool false]) ∧ w = w' := by
  go_enter Try.func24, Try.ntmps24
  go_wp2
  go_ret2
  exact ⟨rfl, rfl⟩
set_option maxHeartbeats 800000 in
theorem last_some (A : Option Addr) (N c : Nat) (zs : List Int) (w : World) (hA : Sl w w.heap.size 1 A (N + 1) (zs.map (Value.int .u32))) (hl : zs.length = N + 1) (hnc : N + 1 ≤ c) (hc : c ≤ 140737488351232) (hz : ∀ z ∈ zs, 0 ≤ z ∧ z ≤ 4294967295) :
    Calls Try.prog 24 #[.slice A (N + 1 : Nat) c] w fun e w' => e = .returned (.tuple #[.int .u32 (lastL zs), .bool true]) ∧ w = w' := by
  obtain ⟨b, off, rfl, hb, hcell⟩ := hA.2 (by omega)
  have h0 : (((N + 1 : Nat) : Int) == 0) = false := by simp; omega
  have h0' : ((N : Int) + 1 == 0) = false := by simp; omega
  have h1 : (0 : Int) < (N : Int) + 1 := by omega
  have c0 : w.cell? ⟨b, off, none⟩ = some (.int .u32 (lastL (zs.take 1))) := by
    have := hcell 0 (.int .u32 (lastL (zs.take 1))) (by
      rw [lastL_take zs 0 (by omega)]; simp [show 0 < zs.length by omega])
    simpa using this
  clear hA
  by_cases hc1 : c = 1
  · obtain rfl : N = 0 := by omega
    subst hc1
    have ht : zs.take 1 = zs := List.take_of_length_le (by omega)
    rw [ht] at c0
    go_enter Try.func24, Try.ntmps24
    go_wp2_with fail
    refine wp_loop_rounds 1 ?_
    rw [rounds_succ]
    go_wp2
    go_ret2
    exact ⟨rfl, rfl⟩
  · go_enter Try.func24, Try.ntmps24
    go_wp2_with fail
    go_loop [4, 16] (fun v i => ∃ k : Nat, k ≤ N ∧ i = .int .i64 k ∧ v = .int .u32 (lastL (zs.take (k + 1)))) (fun _ i => N - (intOf i).toNat)
    case atStart => exact ⟨0, by omega, rfl, rfl⟩
    case round =>
      obtain ⟨k, hk, rfl, rfl⟩ := hrel
      by_cases hlt : k < N
      · have hkl : k + 1 < zs.length := by omega
        have hc2 : w.cell? ⟨b, off + 1 + k, none⟩ = some (.int .u32 zs[k + 1]) := by
          have := hcell (k + 1) (.int .u32 zs[k + 1]) (by simp [hkl])
          rwa [show off + (k + 1) = off + 1 + k by omega] at this
        have hst := lastL_take zs (k + 1) hkl
        rw [if_neg (by omega)] at hst
        have hp := lastL_in (zs.take (k + 1)) (fun z hz' => hz z (List.mem_of_mem_take hz'))
        have hq := hz _ (List.getElem_mem hkl)
        generalize zs[k + 1] = x at *
        generalize lastL (zs.take (k + 1)) = y at *
        have HS := Lib.hid hst
        have L1 := fun w => later_any x y w hq hp
        clear hst c0 hcell hz
        cases hx : laterB x y with
        | true =>
          rw [hx] at L1
          have hx2 : lastStep y x = x := by simp [lastStep, hx]
          have L := Lib.hid L1
          have HX := Lib.hid hx2
          clear hx hx2 L1
          go_wp2_with (go_at_call 21; refine (L.out _).mono ?_; rintro e w1 ⟨rfl, rfl⟩)
          go_round
          case rel => exact ⟨k + 1, by omega, by go_num, by rw [HS.out, HX.out]⟩
          case measure => simp [intOf]; omega
        | false =>
          rw [hx] at L1
          have hx2 : lastStep y x = y := by simp [lastStep, hx]
          have L := Lib.hid L1
          have HX := Lib.hid hx2
          clear hx hx2 L1
          go_wp2_with (go_at_call 21; refine (L.out _).mono ?_; rintro e w1 ⟨rfl, rfl⟩)
          go_round
          case rel => exact ⟨k + 1, by omega, by go_num, by rw [HS.out, HX.out]⟩
          case measure => simp [intOf]; omega
      · have ht : zs.take (k + 1) = zs := List.take_of_length_le (by omega)
        rw [ht]
        clear ht
        go_wp2
        go_ret2
        exact ⟨rfl, rfl⟩

set_option maxHeartbeats 1600000 in
theorem serialLast_walk (w : World) (A : Option Addr) (n c : Nat) (zs : List Int) (SA : SlView w A n c (zs.map (Value.int .u32))) (hl : zs.length = n) (hz : ∀ z ∈ zs, (Lit.int .u32 z).wf = true) (hc : c ≤ 35184372087808) :
    Calls Try.prog 6 #[.slice A n c] w fun e w' => e = .returned (.bool true) ∧ Below w.heap.size w w' := by
  have hz2 : ∀ z ∈ zs, 0 ≤ z ∧ z ≤ 4294967295 := fun z h => bounds_u32 (hz z h)
  have hA := SA.sl
  have hn := SA.le
  clear hz
  cases n with
  | zero =>
    go_enter Try.func6, Try.ntmps6
    go_wp2_with (go_at_call 20; refine (awake6_any _).mono ?_; rintro e w1 ⟨rfl, rfl⟩)
    refine wp_loop_rounds 1 ?_
    rw [rounds_succ]
    go_wp2_with (go_at_call 24; refine (last_none _ _ _).mono ?_; rintro e w1 ⟨rfl, rfl⟩)
    go_ret
    exact ⟨rfl, Below.refl _ _⟩
  | succ N =>
    have h1 : (0 : Int) < (N : Int) + 1 := by omega
    have h1' : 0 < N + 1 := by omega
    go_enter Try.func6, Try.ntmps6
    go_wp2_with (go_at_call 20; refine (awake6_any _).mono ?_; rintro e w1 ⟨rfl, rfl⟩)
    go_loop [3, 16] (fun v i => ∃ k : Nat, k ≤ N + 1 ∧ i = .int .i64 k ∧ v = .int .u32 (lastL (zs.take k))) (fun _ i => N + 1 - (intOf i).toNat)
    case atStart => exact ⟨0, by omega, rfl, rfl⟩
    case round =>
      obtain ⟨k, hk, rfl, rfl⟩ := hrel
      by_cases hlt : k < N + 1
      · obtain ⟨b, off, u, rfl, hb, hu, hcc⟩ := hA.at_ hlt
        have hkl : k < zs.length := by omega
        simp only [List.getElem?_map, List.getElem?_eq_getElem hkl, Option.map_some, Option.some.injEq] at hu
        subst hu
        have hst := lastL_take zs k hkl
        have hp := lastL_in (zs.take k) (fun z hz' => hz2 z (List.mem_of_mem_take hz'))
        have hq := hz2 _ (List.getElem_mem hkl)
        generalize zs[k] = x at *
        generalize lastL (zs.take k) = y at *
        by_cases hk0 : k = 0
        · rw [if_pos hk0] at hst
          have HS := Lib.hid hst
          have hk1 : ((k : Int) == 0) = true := by simp [hk0]
          clear hst hk0
          go_wp2_with fail
          go_round
          case rel => exact ⟨k + 1, by omega, by go_num, by rw [HS.out]⟩
          case measure => simp [intOf]; omega
        · rw [if_neg hk0] at hst
          have HS := Lib.hid hst
          have hk1 : ((k : Int) == 0) = false := by simp [hk0]
          have L1 := fun w => later_any x y w hq hp
          clear hst hk0
          cases hx : laterB x y with
          | true =>
            rw [hx] at L1
            have hx2 : lastStep y x = x := by simp [lastStep, hx]
            have L := Lib.hid L1
            have HX := Lib.hid hx2
            clear hx hx2 L1
            go_wp2_with (go_at_call 21; refine (L.out _).mono ?_; rintro e w1 ⟨rfl, rfl⟩)
            go_round
            case rel => exact ⟨k + 1, by omega, by go_num, by rw [HS.out, HX.out]⟩
            case measure => simp [intOf]; omega
          | false =>
            rw [hx] at L1
            have hx2 : lastStep y x = y := by simp [lastStep, hx]
            have L := Lib.hid L1
            have HX := Lib.hid hx2
            clear hx hx2 L1
            go_wp2_with (go_at_call 21; refine (L.out _).mono ?_; rintro e w1 ⟨rfl, rfl⟩)
            go_round
            case rel => exact ⟨k + 1, by omega, by go_num, by rw [HS.out, HX.out]⟩
            case measure => simp [intOf]; omega
      · have ht : zs.take k = zs := List.take_of_length_le (by omega)
        rw [ht]
        have hL := fun w hA => last_some A N c zs w hA hl hn (by omega) hz2
        have L := Lib.hid hL
        clear ht hL
        go_wp2_with (go_at_call 24; refine (L.out _ hA).mono ?_; rintro e w1 ⟨rfl, rfl⟩)
        go_ret
        exact ⟨rfl, Below.refl _ _⟩

/-- A sum of numbers of two bytes. -/
theorem sum_snoc (zs : List Int) (k : Nat) (h : k < zs.length) : (zs.take (k + 1)).sum = (zs.take k).sum + zs[k] := by
  rw [List.take_succ_eq_append_getElem h, List.sum_append]; simp
theorem sum_bound (zs : List Int) (h : ∀ z ∈ zs, 0 ≤ z ∧ z ≤ 65535) : 0 ≤ zs.sum ∧ zs.sum ≤ zs.length * 65535 := by
  induction zs with
  | nil => simp
  | cons z r ih =>
    have h1 := h z (by simp)
    have h2 := ih (fun y hy => h y (by simp [hy]))
    simp only [List.sum_cons, List.length_cons]
    omega

set_option maxHeartbeats 1600000 in
theorem serialSteps_walk (w : World) (a : Int) (ha : (Lit.int .u32 a).wf = true) (A : Option Addr) (n c : Nat) (zs : List Int) (SA : SlView w A n c (zs.map (Value.int .u16))) (hl : zs.length = n) (hz : ∀ z ∈ zs, (Lit.int .u16 z).wf = true) (hc : c ≤ 70368744175616) :
    Calls Try.prog 7 #[.int .u32 a, .slice A n c] w fun e w' => e = .returned (.bool true) ∧ Below w.heap.size w w' := by
  have ha2 := bounds_u32 ha
  have hz2 : ∀ z ∈ zs, 0 ≤ z ∧ z ≤ 65535 := fun z h => bounds_u16 (hz z h)
  have hA := SA.sl
  have hn := SA.le
  clear hz ha
  go_enter Try.func7, Try.ntmps7
  go_wp2_with (go_at_call 20; refine (awake6_any _).mono ?_; rintro e w1 ⟨rfl, rfl⟩)
  go_loop [5, 6, 16] (fun u v i => ∃ k : Nat, k ≤ n ∧ i = .int .i64 k ∧ v = .int .u64 (zs.take k).sum ∧ u = .int .u32 ((a + (zs.take k).sum) % 4294967296)) (fun _ _ i => n - (intOf i).toNat)
  case atStart => exact ⟨0, Nat.zero_le _, rfl, rfl, congrArg (Value.int IntKind.u32) (by simp; omega)⟩
  case round =>
    obtain ⟨k, hk, rfl, rfl, rfl⟩ := hrel
    by_cases hlt : k < n
    · obtain ⟨b, off, u, rfl, hb, hu, hcc⟩ := hA.at_ hlt
      have hkl : k < zs.length := by omega
      simp only [List.getElem?_map, List.getElem?_eq_getElem hkl, Option.map_some, Option.some.injEq] at hu
      subst hu
      have hst := sum_snoc zs k hkl
      have hq := hz2 _ (List.getElem_mem hkl)
      have hp := sum_bound (zs.take k) (fun z h => hz2 z (List.mem_of_mem_take h))
      rw [List.length_take] at hp
      generalize zs[k] = x at *
      generalize (zs.take k).sum = y at *
      have hy : y ≤ 4611686018427387904 := by omega
      have hy0 := hp.1
      have HS := Lib.hid hst
      have A1 := fun w => add_yes ((a + y) % 4294967296) x w (by omega) (by omega)
      rw [show ((a + y) % 4294967296 + x) % 4294967296 = (a + y + x) % 4294967296 by omega] at A1
      have L1 := fun w => later_any ((a + y + x) % 4294967296) a w (by omega) (by omega)
      have AA := Lib.hid A1
      have e0 : (a + y + x) % 4294967296 = (a + (y + x)) % 4294967296 := by rw [Int.add_assoc]
      have E0 := Lib.hid e0
      have wx : IntKind.u64.wrap x = x := by simp [IntKind.wrap, IntKind.bits, IntKind.signed]; omega
      have w32 : IntKind.u32.wrap x = x := by simp [IntKind.wrap, IntKind.bits, IntKind.signed]; omega
      have wy : IntKind.u64.wrap (y + x) = y + x := by simp [IntKind.wrap, IntKind.bits, IntKind.signed]; omega
      by_cases hs : y + x < 2147483648
      · have hB : laterB ((a + y + x) % 4294967296) a = decide (0 < y + x) := by simp only [laterB, decide_eq_decide]; omega
        rw [hB] at L1
        have LL := Lib.hid L1
        have hne : (decide (0 < y + x) != decide (0 < y + x)) = false := by simp
        clear hst A1 L1 e0 hB hp hz2
        go_wp2_with (first
          | (go_at_call 23; refine (AA.out _).mono ?_; rintro e w1 ⟨rfl, rfl⟩)
          | (go_at_call 21; refine (LL.out _).mono ?_; rintro e w1 ⟨rfl, rfl⟩))
        go_round
        case rel => exact ⟨k + 1, by omega, by go_num, by rw [HS.out], by rw [HS.out, ← E0.out]⟩
        case measure => simp [intOf]; omega
      · clear hst A1 L1 e0 hp hz2
        go_wp2_with (first
          | (go_at_call 23; refine (AA.out _).mono ?_; rintro e w1 ⟨rfl, rfl⟩))
        go_round
        case rel => exact ⟨k + 1, by omega, by go_num, by rw [HS.out], by rw [HS.out, ← E0.out]⟩
        case measure => simp [intOf]; omega
    · have ht : zs.take k = zs := List.take_of_length_le (by omega)
      rw [ht]
      have hp := sum_bound zs hz2
      generalize zs.sum = y at *
      have hy : y ≤ 4611686018427387904 := by omega
      have hy0 := hp.1
      clear ht hp hz2
      go_wp2_with fail
      go_ret
      exact ⟨rfl, Below.refl _ _⟩
end Go.Proofs.Ythhlgogokcblgab
