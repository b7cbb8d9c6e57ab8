/- The contracts of layer 12. -/
import Derived.Test.YtkdknfedieeenaaGreatDoorRows
import Derived.Test.YtkdknfedieeenaaGreatDoorPfx
import Derived.Test.YtkdknfedieeenaaGreatDoorOb
import Derived.Test.YtkdknfedieeenaaGreatDoorReg2
import Derived.Test.YtkdknfedieeenaaGreatDoorView
import Derived.IntWalk
import Derived.Laws.BitsAllLaws
import Derived.StillTailTactics
import Derived.Deep.DeepCutAuto
import Derived.Outline
namespace Go.Proofs.YtkdknfedieeenaaGreatDoor
open Go.RowKit
set_option linter.unusedVariables false
set_option maxRecDepth 20000

theorem pfx_follows : Tryz.prog.follows .mixedOrders = true := by kernel_rfl
def isAddr (n : Nat) : Bool := n == 4 || n == 16
theorem address_any (s : ByteArray) (w : World) (hs : s.size ≤ maxLen) :
    Calls Tryz.prog 72 #[.string s] w fun e w' => e = .returned (.bool (isAddr s.size)) ∧ w = w' := by
  unfold maxLen at hs
  by_cases h4 : s.size = 4
  · have h4' : ((s.size : Int) == 4) = true := by simp; omega
    have hr : isAddr s.size = true := by simp [isAddr, h4]
    have HR := Lib.hid hr
    clear h4 hr
    go_enter Tryz.func72, Tryz.ntmps72
    go_wp2
    go_ret
    exact ⟨by rw [HR.out]; rfl, rfl⟩
  · have h4' : ((s.size : Int) == 4) = false := by simp; omega
    have hr : isAddr s.size = ((s.size : Int) == 16) := by
      unfold isAddr
      rw [Bool.eq_iff_iff]; simp; omega
    have HR := Lib.hid hr
    clear h4 hr
    go_enter Tryz.func72, Tryz.ntmps72
    go_wp2
    go_ret
    exact ⟨by rw [HR.out]; rfl, rfl⟩
def clamp8 (m : Int) : Nat := (max 0 (min m 8)).toNat
theorem clamp8_le (m : Int) : clamp8 m ≤ 8 := by unfold clamp8; omega
theorem mask_any (m : Int) (w : World) :
    Calls Tryz.prog 73 #[.int .i64 m] w fun e w' => e = .returned (.int .u8 (256 - 2 ^ (8 - clamp8 m) : Nat)) ∧ w = w' := by
  have h : m ≤ 0 ∨ m = 1 ∨ m = 2 ∨ m = 3 ∨ m = 4 ∨ m = 5 ∨ m = 6 ∨ m = 7 ∨ m = 8 ∨ 8 < m := by omega
  rcases h with h | rfl | rfl | rfl | rfl | rfl | rfl | rfl | rfl | h
  · rw [show 256 - 2 ^ (8 - clamp8 m) = 0 by rw [show clamp8 m = 0 by unfold clamp8; omega]]
    go_enter Tryz.func73, Tryz.ntmps73
    go_wp2
    all_goals
      go_ret
      exact ⟨congrArg (fun n => Ending.returned (.int .u8 n)) (by decide), rfl⟩
  iterate 8
    (· rw [show ∀ n : Int, clamp8 n = (max 0 (min n 8)).toNat from fun _ => rfl]
       go_enter Tryz.func73, Tryz.ntmps73
       go_wp2
       all_goals
         go_ret
         exact ⟨congrArg (fun n => Ending.returned (.int .u8 n)) (by decide), rfl⟩)
  · rw [show 256 - 2 ^ (8 - clamp8 m) = 255 by rw [show clamp8 m = 8 by unfold clamp8; omega]]
    go_enter Tryz.func73, Tryz.ntmps73
    go_wp2
    all_goals
      go_ret
      exact ⟨congrArg (fun n => Ending.returned (.int .u8 n)) (by decide), rfl⟩
def noPrefix : Value := .agg #[.string ⟨#[]⟩, .int .i64 0]
def isCut (n : Nat) (many : Int) : Bool := isAddr n && decide (0 ≤ many) && decide (many ≤ 8 * n)
set_option maxHeartbeats 800000 in
theorem pcut_no (s : ByteArray) (many : Int) (w : World) (hs : s.size ≤ 140737488355328) (h : isCut s.size many = false) :
    Calls Tryz.prog 38 #[.string s, .int .i64 many] w fun e w' => e = .returned (.tuple #[noPrefix, .bool false]) ∧ Below w.heap.size w w' := by
  have hAddr := address_any s (w.alloc (.cells #[.string ⟨#[]⟩, .int .i64 0] 44)) (by unfold maxLen; omega)
  have hAddr2 := Lib.hid hAddr
  clear hAddr
  cases ha : isAddr s.size with
  | false =>
    rw [ha] at hAddr2
    clear h ha
    go_enter Tryz.func38, Tryz.ntmps38
    go_wp2_with fail
    refine hAddr2.out.mono ?_
    rintro e w1 ⟨rfl, rfl⟩
    go_wp2_with fail
    exact bodyPost_ret (v := .tuple #[noPrefix, .bool false]) (by simp [results, Tryz.results38, go_sem, noPrefix]) rfl ⟨rfl, (Below.refl _ _).alloc (Nat.le_refl _) _⟩
  | true =>
    rw [ha] at hAddr2
    simp only [isCut, ha, Bool.true_and] at h
    by_cases h0 : many < 0
    · clear h ha
      go_enter Tryz.func38, Tryz.ntmps38
      go_wp2_with fail
      refine hAddr2.out.mono ?_
      rintro e w1 ⟨rfl, rfl⟩
      go_wp2_with fail
      exact bodyPost_ret (v := .tuple #[noPrefix, .bool false]) (by simp [results, Tryz.results38, go_sem, noPrefix]) rfl ⟨rfl, (Below.refl _ _).alloc (Nat.le_refl _) _⟩
    · have h1 : 8 * (s.size : Int) < many := by
        rw [decide_eq_true (by omega : 0 ≤ many)] at h
        simp at h; omega
      clear h ha
      go_enter Tryz.func38, Tryz.ntmps38
      go_wp2_with fail
      refine hAddr2.out.mono ?_
      rintro e w1 ⟨rfl, rfl⟩
      go_wp2_with fail
      exact bodyPost_ret (v := .tuple #[noPrefix, .bool false]) (by simp [results, Tryz.results38, go_sem, noPrefix]) rfl ⟨rfl, (Below.refl _ _).alloc (Nat.le_refl _) _⟩
theorem cut_and (c : UInt8) (K : Nat) (hK : K ≤ 8) : Value.int .u8 (bits .and .u8 (c.toNat : Int) ((256 - 2 ^ (8 - K) : Nat) : Int)) = bv (cut8 c K) := by
  have h8 := UInt8.toNat_lt c
  have hp : 2 ^ (8 - K) ≤ 256 := Nat.pow_le_pow_right (n := 2) (by omega) (by omega : 8 - K ≤ 8)
  have hp0 := Nat.two_pow_pos (8 - K)
  rw [u8_and_nat _ _ (by omega) (by omega), and_mask _ _ h8 hK]
  unfold bv cut8
  have : c.toNat / 2 ^ (8 - K) * 2 ^ (8 - K) ≤ c.toNat := Nat.div_mul_le_self _ _
  rw [UInt8.toNat_ofNat_of_lt' (Nat.lt_of_le_of_lt this h8)]
set_option maxHeartbeats 800000 in
theorem pcut_yes (l : List UInt8) (n : Nat) (w : World) (h : isAddr l.length = true) (hn : n ≤ 8 * l.length) :
    Calls Tryz.prog 38 #[.string ⟨l.toArray⟩, .int .i64 n] w fun e w' => e = .returned (.tuple #[.agg #[.string ⟨(cutL l n).toArray⟩, .int .i64 n], .bool true]) ∧ Below w.heap.size w w' := by
  have hl16 : l.length ≤ 16 := by simp [isAddr] at h; omega
  have hAddr := address_any ⟨l.toArray⟩ (w.alloc (.cells #[.string ⟨#[]⟩, .int .i64 0] 44)) (by rw [mk_size]; unfold maxLen; omega)
  rw [mk_size, h] at hAddr
  have hAddr2 := Lib.hid hAddr
  obtain ⟨S, eS⟩ : ∃ S : ByteArray, S = ⟨l.toArray⟩ := ⟨_, rfl⟩
  have hSs : S.size = l.length := by rw [eS, mk_size]
  have hSl : S.data.toList = l := by rw [eS]
  rw [← eS] at hAddr2 ⊢
  have HSS := Lib.hid hSs
  have HSL := Lib.hid hSl
  obtain ⟨N, eN⟩ : ∃ N, N = l.length := ⟨_, rfl⟩
  have EN := Lib.hid eN
  rw [← eN] at hSs hn hl16
  clear hAddr eS hSs hSl h eN
  have hsz1 : (S.size : Int) ≤ 16 := by rw [HSS.out, ← EN.out]; omega
  have hsz2 : (n : Int) ≤ 8 * (S.size : Int) := by rw [HSS.out, ← EN.out]; omega
  go_enter Tryz.func38, Tryz.ntmps38
  go_wp2_with fail
  refine hAddr2.out.mono ?_
  rintro e w1 ⟨rfl, rfl⟩
  obtain ⟨W, hW⟩ : ∃ W, W = w.alloc (.cells #[.string ⟨#[]⟩, .int .i64 0] 44) := ⟨_, rfl⟩
  have hbW : Below w.heap.size w W := by rw [hW]; exact (Below.refl _ _).alloc (Nat.le_refl _) _
  have hzW : W.heap.size = w.heap.size + 1 := by rw [hW]; simp
  have hcW : ∀ j u, j < 2 → (#[Value.string ⟨#[]⟩, .int .i64 0])[j]? = some u → W.cell? ⟨w.heap.size, j, none⟩ = some u ∧ W.frozen? ⟨w.heap.size, j, none⟩ = false := by
    intro j u hj hu
    rw [hW]
    exact ⟨by simpa using hu, by simp⟩
  rw [← hW]
  have hcv := run_bytes_of_string (P := Tryz.prog) W 9 23 5 S Tryz.underlying9 Tryz.underlying23 Tryz.underlying5
  have hob := OB.of_bytes W S 5 (by rw [HSS.out, ← EN.out]; unfold maxLen; omega)
  rw [HSL.out, HSS.out, ← EN.out] at hob
  rw [HSS.out, ← EN.out] at hcv
  generalize grownCap W N 0 5 = cap at *
  obtain ⟨w3, hw3⟩ : ∃ w3, w3 = (W.drew.alloc (.cells (bytesRow S cap) 5 ((bytesRow S cap).size, (bytesRow S cap).size + 1))) := ⟨_, rfl⟩
  rw [← hw3] at hcv hob
  rw [hzW] at hob
  have HCW := Lib.hid hcW
  clear hw3 hW hcW
  go_wp2_with fail
  go_loopw [27] (fun i wr => ∃ k : Nat, k ≤ N ∧ i = .int .i64 k ∧ OB (w.heap.size + 1) W (.slice (some ⟨w.heap.size + 1, 0, none⟩) N cap) N ((mixL l n k).map bv) wr) (fun i _ => N - (intOf i).toNat)
  case atStart => exact ⟨0, Nat.zero_le _, rfl, by rw [mixL_zero]; exact hob⟩
  case round =>
    obtain ⟨k, hk, rfl, hb⟩ := hrel
    by_cases hlt : k < N
    · have hkl : k < l.length := by rw [← EN.out]; exact hlt
      have hget := mixL_get l n k hkl
      have hset := mixL_set l n k hkl
      have hcell := hb.cell k (bv l[k]) (by rw [List.getElem?_map, hget]; rfl)
      have hcap : N ≤ cap := by
        obtain ⟨A', c', e, h1, -⟩ := hb.slice
        injection e with _ _ e; omega
      have hfrz := hb.frozen k (by omega)
      have hb2 := hb.set k (by omega) (bv (cut8 l[k] (min (n - 8 * k) 8)))
      rw [← List.map_set, hset] at hb2
      have hK : clamp8 ((n : Int) - 8 * k) = min (n - 8 * k) 8 := by unfold clamp8; omega
      have hK8 : min (n - 8 * k) 8 ≤ 8 := by omega
      have hand := cut_and l[k] (min (n - 8 * k) 8) hK8
      have hm := mask_any ((n : Int) - 8 * k)
      rw [hK] at hm
      generalize l[k] = ck at *
      generalize min (n - 8 * k) 8 = K at *
      rw [← hand] at hb2
      simp only [bv] at hcell
      have h8 := UInt8.toNat_lt ck
      generalize ck.toNat = c8 at *
      have HB2 := Lib.hid hb2
      have HM := Lib.hid hm
      clear hget hset hK hand hb2 hm hkl
      have e1 : IntKind.i64.wrap (8 * (k : Int)) = 8 * (k : Int) := IntWalk.i64_in _ (by omega)
      have e2 : IntKind.i64.wrap ((n : Int) - 8 * (k : Int)) = (n : Int) - 8 * (k : Int) := IntWalk.i64_in _ (by omega)
      go_upto_region 7 with fail
      go_still_tail 11, (by kernel_rfl)
      still_call ((HM.out _).mono fun e w' ⟨a, b⟩ => ⟨a, b.symm⟩)
      repeat still_step
      refine wpStill_nil ?_
      change wpList _ _ _ _ _ wr.drew
      have hcell2 : wr.drew.cell? ⟨w.heap.size + 1, k, none⟩ = some (.int .u8 (c8 : Int)) := hcell
      have hfrz2 : wr.drew.frozen? ⟨w.heap.size + 1, k, none⟩ = false := hfrz
      clear hcell hfrz
      have hlt' : (k : Int) < N := by omega
      go_wp2_with fail
      go_roundw
      case rel => exact ⟨k + 1, by omega, by go_num, HB2.out.drew⟩
      case measure => simp [intOf]; omega
    · obtain rfl : k = N := by omega
      have hm := mixL_all l n
      rw [← EN.out] at hm
      rw [hm] at hb
      have hcell1 := (hb.bel.cell (p := ⟨w.heap.size, 0, none⟩) (by show w.heap.size < _; omega)).trans (HCW.out 0 _ (by omega) rfl).1
      have hcell2 := (hb.bel.cell (p := ⟨w.heap.size, 1, none⟩) (by show w.heap.size < _; omega)).trans (HCW.out 1 _ (by omega) rfl).1
      have hfr1 := (hb.bel.frozen (p := ⟨w.heap.size, 0, none⟩) (by show w.heap.size < _; omega)).trans (HCW.out 0 _ (by omega) rfl).2
      have hfr2 := (hb.bel.frozen (p := ⟨w.heap.size, 1, none⟩) (by show w.heap.size < _; omega)).trans (HCW.out 1 _ (by omega) rfl).2
      have hst := run_string_of (P := Tryz.prog) wr 23 9 5 _ _ k (cutL l n) Tryz.underlying23 Tryz.underlying5 Tryz.underlying9 hb.sl (by intro h; cases h) cap
      obtain ⟨C, eC⟩ : ∃ C : ByteArray, C = ⟨(cutL l n).toArray⟩ := ⟨_, rfl⟩
      rw [← eC] at hst
      have EC := Lib.hid eC
      have hbel := hbW.trans (hb.bel.mono (by omega))
      clear hm hb eC
      go_wp2_with fail
      refine bodyPost_ret (v := .tuple #[.agg #[.string C, .int .i64 n], .bool true]) (by simp [results, Tryz.results38, go_sem, hcell1, hcell2]) rfl ⟨by rw [EC.out], ?_⟩
      exact (hbel.setCell (Nat.le_refl _) _).setCell (Nat.le_refl _) _
end Go.Proofs.YtkdknfedieeenaaGreatDoor
