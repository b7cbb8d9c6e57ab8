/- The contracts of layer 13: byteLabels, word, longestRun, wordLabels. -/
import Derived.Test.YtkdknfedieeenaaGreatDoorOwnT
import Derived.Test.YtkdknfedieeenaaGreatDoorOwnQ
import Derived.BigQuiet
import Derived.Test.YtkdknfedieeenaaGreatDoorNum
namespace Go.Proofs.YtkdknfedieeenaaGreatDoor
open Go.RowKit
set_option linter.unusedVariables false
set_option maxRecDepth 20000

theorem OB.sets {B : Nat} {W : World} {n g c : Nat} : ∀ (us b p q : List Value) {w : World}, OB B W (.slice (some ⟨g, 0, none⟩) n c) n (p ++ b ++ q) w → b.length = us.length →
    OB B W (.slice (some ⟨g, 0, none⟩) n c) n (p ++ us ++ q) (w.setCells g p.length us)
  | [], [], p, q, w, h, _ => h
  | u :: us, x :: b, p, q, w, h, hl => by
    have hn := h.len
    simp at hn
    have h1 := h.set p.length (by omega) u
    rw [show (p ++ x :: b ++ q).set p.length u = (p ++ [u]) ++ b ++ q by simp] at h1
    have h2 := OB.sets us b (p ++ [u]) q h1 (by simpa using hl)
    rw [World.setCells]
    simpa using h2

theorem stop_next {z : List Bool} {k : Nat} (h : z[k]? = some true) : stop z k = stop z (k + 1) := by
  have hk := (List.getElem?_eq_some_iff.1 h).1
  unfold stop
  rw [List.drop_eq_getElem_cons hk, List.takeWhile_cons_of_pos (by simpa [List.getElem?_eq_getElem hk] using h)]
  simp; omega
theorem stop_here {z : List Bool} {k : Nat} (h : z[k]? ≠ some true) : stop z k = k := by
  unfold stop
  rcases Nat.lt_or_ge k z.length with hk | hk
  · rw [List.drop_eq_getElem_cons hk, List.takeWhile_cons_of_neg (by simpa [List.getElem?_eq_getElem hk] using h)]
    simp
  · rw [List.drop_eq_nil_of_le hk]; simp
theorem runs_step (z : List Bool) (i : Nat) : (List.range (i + 1)).foldl (runStep z) (0, 0) = runStep z ((List.range i).foldl (runStep z) (0, 0)) i := by
  rw [List.range_succ, List.foldl_append]; rfl
theorem runs_le (z : List Bool) (hz : z.length = 8) : ∀ i, i ≤ 8 → ((List.range i).foldl (runStep z) (0, 0)).1 ≤ ((List.range i).foldl (runStep z) (0, 0)).2 ∧ ((List.range i).foldl (runStep z) (0, 0)).2 ≤ 8 := by
  have h : ∀ z : List Bool, z.length = 8 → ∀ j : Fin 9, ((List.range j.val).foldl (runStep z) (0, 0)).1 ≤ ((List.range j.val).foldl (runStep z) (0, 0)).2 ∧ ((List.range j.val).foldl (runStep z) (0, 0)).2 ≤ 8 := by
    intro z hz
    revert hz; revert z
    apply all_b8
    decide +kernel
  intro i hi
  exact h z hz ⟨i, by omega⟩
theorem wordsL_get : ∀ (l : List UInt8) (i : Nat) (h : 2 * i + 1 < l.length), (wordsL l)[i]? = some ((l[2 * i]'(by omega)).toNat * 256 + (l[2 * i + 1]).toNat)
  | a :: b :: r, 0, _ => rfl
  | a :: b :: r, i + 1, h => by
    have := wordsL_get r i (by simp at h; omega)
    simp only [wordsL, List.getElem?_cons_succ]
    rw [this]
    rfl
  | [a], i, h => by simp at h
  | [], i, h => by simp at h

/-- An address as the walk meets it. -/
structure Six (a : ByteArray) (ws : List Nat) : Prop where
  size : a.size = 16
  words : ws = wordsL a.data.toList
theorem Six.len {a : ByteArray} {ws : List Nat} (h : Six a ws) : ws.length = 8 := by
  rw [h.words]
  exact (wordsL_un 8 a.data.toList (by have := h.size; simp; omega)).2
theorem Six.lt {a : ByteArray} {ws : List Nat} (h : Six a ws) (i : Nat) : ws.getD i 0 < 65536 := by
  rw [List.getD_eq_getElem?_getD]
  rcases Nat.lt_or_ge i ws.length with hk | hk
  · rw [List.getElem?_eq_getElem hk]
    have : ws[i] ∈ ws := List.getElem_mem hk
    generalize ws[i] = x at *
    rw [h.words] at this
    exact wordsL_lt _ x this
  · rw [List.getElem?_eq_none hk]; simp

theorem word_any (a : ByteArray) (ws : List Nat) (i : Nat) (hi : i < 8) (h : Six a ws) (w : World) :
    Calls Tryz.prog 150 #[.string a, .int .i64 i] w fun e w' => e = .returned (.int .u16 (ws.getD i 0 : Nat)) ∧ ∃ k, w' = w.drewN k := by
  have hs := h.size
  have hw : ws.getD i 0 = (a[2 * i]'(by omega)).toNat * 256 + (a[2 * i + 1]'(by omega)).toNat := by
    rw [List.getD_eq_getElem?_getD, h.words, wordsL_get _ i (by simp; omega)]
    rfl
  rw [hw]
  obtain ⟨p, hp⟩ : ∃ p, p = 2 * i := ⟨_, rfl⟩
  obtain ⟨q, hq⟩ : ∃ q, q = 2 * i + 1 := ⟨_, rfl⟩
  have hp' : p < a.size := by omega
  have hq' : q < a.size := by omega
  have e1 : (a[2 * i]'(by omega)) = a[p] := by congr 1; exact hp.symm
  have e2 : (a[2 * i + 1]'(by omega)) = a[q] := by congr 1; exact hq.symm
  rw [e1, e2]
  have hx := (a[p]).toNat_lt
  have hy := (a[q]).toNat_lt
  have hpi : (p : Int) < a.size := by omega
  have hqi : (q : Int) < a.size := by omega
  have f1 : (2 : Int) * i = p := by omega
  have f2 : (p : Int) + 1 = q := by omega
  have g1 : IntKind.i64.wrap (p : Int) = p := IntWalk.i64_in _ (by omega)
  have g2 : IntKind.i64.wrap (q : Int) = q := IntWalk.i64_in _ (by omega)
  rw [← or16 _ _ hx hy]
  clear hw hp hq h e1 e2 hs hi hx hy
  go_enter Tryz.func150, Tryz.ntmps150
  go_upto_region 1 with fail
  go_quiet (fail)
  go_wp2
  go_ret
  exact ⟨rfl, _, rfl⟩

theorem run_facts {z : List Bool} {i k b e : Nat} (hs : stop z i = k) : runStep z (b, e) i = if 2 ≤ k - i ∧ e - b < k - i then (i, k) else (b, e) := by
  unfold runStep; rw [hs]
set_option maxHeartbeats 4000000 in
theorem longest_any (a : ByteArray) (ws : List Nat) (h : Six a ws) (w : World) :
    Calls Tryz.prog 148 #[.string a] w fun e w' => e = .returned (.tuple #[.int .i64 ((runP (ws.map (· == 0))).1 : Nat), .int .i64 ((runP (ws.map (· == 0))).2 : Nat)]) ∧ ∃ k, w' = w.drewN k := by
  have hlen : (ws.map (· == 0)).length = 8 := by simpa using h.len
  have hz : ∀ k, k < 8 → (ws.map (· == 0))[k]? = some (ws.getD k 0 == 0) := by
    intro k hk
    rw [List.getElem?_map, List.getD_eq_getElem?_getD, List.getElem?_eq_getElem (by rw [h.len]; exact hk)]
    rfl
  have hle := runs_le _ hlen
  have hword := fun k hk w => word_any a ws k hk h w
  have hlt := fun k => h.lt k
  unfold runP
  generalize ws.map (· == 0) = z at *
  have HLE := Lib.hid hle
  have HZ := Lib.hid hz
  have HW := Lib.hid hword
  have HLT := Lib.hid hlt
  have HLEN := Lib.hid hlen
  clear hlen hz hle hword h hlt
  go_enter Tryz.func148, Tryz.ntmps148
  go_wp2_with fail
  go_loopw [4, 5, 6] (fun v4 v5 v6 wr => ∃ i b e : Nat, v4 = .int .i64 b ∧ v5 = .int .i64 e ∧ v6 = .int .i64 i ∧ i ≤ 8 ∧ Hid ((List.range i).foldl (runStep z) (0, 0) = (b, e)) ∧ ∃ q, wr = w.drewN q) (fun _ _ v6 _ => 8 - (intOf v6).toNat)
  case atStart => exact ⟨0, 0, 0, rfl, rfl, rfl, by omega, Lib.hid rfl, 0, by simp [World.drewN_zero]⟩
  case round =>
    obtain ⟨i, b, e, rfl, rfl, rfl, hi, HR, q0, rfl⟩ := hrel
    have hbe := HLE.out i hi
    rw [HR.out] at hbe
    simp only at hbe
    obtain ⟨hb1, hb2⟩ := hbe
    by_cases hi8 : i < 8
    · have hd8 : decide ((i : Int) < 8) = true := by rw [decide_eq_true_eq]; omega
      go_upto_region 6 with fail
      go_loopw [7] (fun v7 wr => ∃ k : Nat, v7 = .int .i64 k ∧ i ≤ k ∧ k ≤ 8 ∧ Hid (stop z i = stop z k) ∧ ∃ q, wr = w.drewN q) (fun v7 _ => 8 - (intOf v7).toNat)
      case atStart => exact ⟨i, rfl, Nat.le_refl _, hi, Lib.hid rfl, q0, rfl⟩
      case round =>
        obtain ⟨k, rfl, hik, hk8, HS, q1, rfl⟩ := hrel
        have after : ∀ (hs : stop z k = k), Hid (runStep z (b, e) i = if 2 ≤ k - i ∧ e - b < k - i then (i, k) else (b, e)) := fun hs => Lib.hid (run_facts (HS.out.trans hs))
        by_cases hk : k < 8
        · have hwk := HW.out k hk
          have hzk := HZ.out k hk
          have hxl := HLT.out k
          generalize ws.getD k 0 = x at hwk hzk hxl
          by_cases hx : x = 0
          · subst hx
            have HS2 := Lib.hid (HS.out.trans (stop_next (z := z) (k := k) (by rw [hzk]; rfl)))
            have HWK := Lib.hid hwk
            clear hwk hzk after hxl
            go_wp2_with (go_at_call 150; refine (HWK.out _).mono ?_; rintro e w1 ⟨rfl, q2, rfl⟩)
            go_roundw
            case rel => exact ⟨k + 1, by go_num, by omega, by omega, HS2, q1 + q2, rfl⟩
            case measure => simp [intOf]; omega
          · have hx0 : ((x : Int) == 0) = false := by rw [beq_eq_false_iff_ne]; omega
            have HA := after (stop_here (by rw [hzk]; simpa using hx))
            have HWK := Lib.hid hwk
            clear hwk hzk after hx hxl
            obtain ⟨d, hd⟩ : ∃ d, d = k - i := ⟨_, rfl⟩
            obtain ⟨d2, hd2⟩ : ∃ d2, d2 = e - b := ⟨_, rfl⟩
            rw [← hd, ← hd2] at HA
            have hs1 : (k : Int) - i = (d : Int) := by omega
            have hs2 : (e : Int) - b = (d2 : Int) := by omega
            have hdb : d ≤ 8 := by omega
            have hd2b : d2 ≤ 8 := by omega
            have HRN := Lib.hid (runs_step z i)
            clear hd hd2
            by_cases h1 : 2 ≤ d
            · by_cases h2 : d2 < d
              · have HN := Lib.hid (HRN.out.trans (by rw [HR.out, HA.out, if_pos ⟨h1, h2⟩]))
                go_wp2_with (go_at_call 150; refine (HWK.out _).mono ?_; rintro e w1 ⟨rfl, q2, rfl⟩)
                go_roundw
                case rel => exact ⟨i + 1, i, k, rfl, rfl, by go_num, by omega, HN, q1 + q2, rfl⟩
                case measure => simp [intOf]; omega
              · have HN := Lib.hid (HRN.out.trans (by rw [HR.out, HA.out, if_neg (by omega)]))
                go_wp2_with (go_at_call 150; refine (HWK.out _).mono ?_; rintro e w1 ⟨rfl, q2, rfl⟩)
                go_roundw
                case rel => exact ⟨i + 1, b, e, rfl, rfl, by go_num, by omega, HN, q1 + q2, rfl⟩
                case measure => simp [intOf]; omega
            · have HN := Lib.hid (HRN.out.trans (by rw [HR.out, HA.out, if_neg (by omega)]))
              have h1' : d < 2 := by omega
              go_wp2_with (go_at_call 150; refine (HWK.out _).mono ?_; rintro e w1 ⟨rfl, q2, rfl⟩)
              go_roundw
              case rel => exact ⟨i + 1, b, e, rfl, rfl, by go_num, by omega, HN, q1 + q2, rfl⟩
              case measure => simp [intOf]; omega
        · obtain rfl : k = 8 := by omega
          have HA := after (stop_here (by rw [List.getElem?_eq_none (by rw [HLEN.out]; omega)]; simp))
          clear after
          obtain ⟨d, hd⟩ : ∃ d, d = 8 - i := ⟨_, rfl⟩
          obtain ⟨d2, hd2⟩ : ∃ d2, d2 = e - b := ⟨_, rfl⟩
          rw [← hd, ← hd2] at HA
          have hs1 : (8 : Int) - i = (d : Int) := by omega
          have hs2 : (e : Int) - b = (d2 : Int) := by omega
          have hdb : d ≤ 8 := by omega
          have hd2b : d2 ≤ 8 := by omega
          have HRN := Lib.hid (runs_step z i)
          clear hd hd2
          by_cases h1 : 2 ≤ d
          · by_cases h2 : d2 < d
            · have HN := Lib.hid (HRN.out.trans (by rw [HR.out, HA.out, if_pos ⟨h1, h2⟩]))
              go_wp2_with fail
              go_roundw
              case rel => exact ⟨i + 1, i, 8, rfl, rfl, by go_num, by omega, HN, q1, rfl⟩
              case measure => simp [intOf]; omega
            · have HN := Lib.hid (HRN.out.trans (by rw [HR.out, HA.out, if_neg (by omega)]))
              go_wp2_with fail
              go_roundw
              case rel => exact ⟨i + 1, b, e, rfl, rfl, by go_num, by omega, HN, q1, rfl⟩
              case measure => simp [intOf]; omega
          · have HN := Lib.hid (HRN.out.trans (by rw [HR.out, HA.out, if_neg (by omega)]))
            have h1' : d < 2 := by omega
            go_wp2_with fail
            go_roundw
            case rel => exact ⟨i + 1, b, e, rfl, rfl, by go_num, by omega, HN, q1, rfl⟩
            case measure => simp [intOf]; omega
    · obtain rfl : i = 8 := by omega
      go_wp2
      go_ret2
      exact ⟨by rw [HR.out]; rfl, _, rfl⟩
end Go.Proofs.YtkdknfedieeenaaGreatDoor
