/- The walk of FrameTorn. -/
import Derived.Test.YtioichenjoeonabLawFrame
import Derived.Test.YtioichenjoeonabView
namespace Go.Proofs.Ytioichenjoeonab
open Go.RowKit
set_option linter.unusedVariables false

theorem all_none (A : Option Addr) (n c : Nat) (l : List UInt8) (w : World) (hS : Sl w w.heap.size 1 A n (l.map bv)) (hA0 : A = none → n = 0 ∧ c = 0) (hn : n ≤ c) (hN : n ≤ 281474976710656) (h : firstL l = none) :
    Calls Try.prog 11 #[.slice A n c] w fun e w' => e = .returned (.tuple #[.slice none 0 0, .int .i64 0]) ∧ ∃ k, w.drewN k = w' := by
  have HF := Lib.hid ((first_any A n c l w hS (fun h => (hA0 h).1) hn hN).1 h)
  have HA := Lib.hid hA0
  clear h hA0
  cases A with
  | none =>
    obtain ⟨rfl, rfl⟩ := HA.out rfl
    go_enter Try.func11, Try.ntmps11
    go_wp2_with fail
    refine wp_loop_rounds 1 ?_
    rw [rounds_succ]
    go_wp2_with fail
    refine HF.out.mono ?_
    rintro e w1 ⟨rfl, k1, rfl⟩
    go_wp2_with fail
    go_ret2
    exact ⟨rfl, _, rfl⟩
  | some ad =>
    by_cases h0 : c = 0
    · subst h0
      obtain rfl : n = 0 := by omega
      go_enter Try.func11, Try.ntmps11
      go_wp2_with fail
      refine wp_loop_rounds 1 ?_
      rw [rounds_succ]
      go_wp2_with fail
      refine HF.out.mono ?_
      rintro e w1 ⟨rfl, k1, rfl⟩
      go_wp2_with fail
      go_ret2
      exact ⟨rfl, _, rfl⟩
    · have hn0 : ¬ 0 = c := fun e => h0 e.symm
      go_enter Try.func11, Try.ntmps11
      go_wp2_with fail
      refine wp_loop_rounds 1 ?_
      rw [rounds_succ]
      go_wp2_with fail
      refine HF.out.mono ?_
      rintro e w1 ⟨rfl, k1, rfl⟩
      go_wp2_with fail
      go_ret2
      exact ⟨rfl, _, rfl⟩
set_option maxHeartbeats 1600000 in
theorem frameTorn_walk (w : World) (A : Option Addr) (n c : Nat) (zs : List Int) (hV : SlView w A n c (zs.map (Value.int .u8))) (hl : zs.length = n) (hz : ∀ z ∈ zs, (Lit.int .u8 z).wf = true) (hc : c ≤ 140737488351232) (x : Int) (hx : (Lit.int .u16 x).wf = true) :
    Calls Try.prog 4 #[.slice A n c, .int .u16 x] w fun e w' => e = .returned (.bool true) ∧ Below w.heap.size w w' := by
  obtain ⟨l, hzl⟩ := bytes_of zs hz
  rw [hzl] at hV
  have hll : l.length = n := by have := congrArg List.length hzl; simp at this; omega
  have hx2 := bounds_u16 hx
  have hnc := hV.le
  have hA0 := hV.none_
  obtain ⟨K, hK⟩ : ∃ K, K = min n 600 := ⟨_, rfl⟩
  have e1 : (min (n : Int) 600).toNat = K := by omega
  have e2 : 0 ≤ min (n : Int) 600 := by omega
  have e3 : min (n : Int) 600 ≤ c := by omega
  have hK6 : K ≤ 600 := by omega
  have hS : Sl w w.heap.size 1 A K ((l.take K).map bv) := hV.sl.take K (by omega)
  have hkl : (l.take K).length = K := by simp; omega
  have hA0' : A = none → K = 0 ∧ c = 0 := fun h => by have := hA0 h; omega
  obtain ⟨l1, el1⟩ : ∃ l1, l1 = l.take K := ⟨_, rfl⟩
  rw [← el1] at hS hkl
  have HA := Lib.hid hA0'
  clear hzl hll hz hx hA0 hA0' hV el1 hl
  have HKL := Lib.hid hkl
  have hshort := fun k h1 => firstL_short (b := (frameL l1).take k) l1 k (by omega) h1 rfl
  have hfl := frameL_length l1
  rw [hkl] at hfl hshort
  have HFL := Lib.hid hfl
  have HSH := Lib.hid hshort
  clear hkl hfl hshort hK
  obtain ⟨X, rfl⟩ := Int.eq_ofNat_of_zero_le hx2.1
  have hm : ((X : Int) % ((K : Int) + 6)).toNat = X % (K + 6) := by rw [show (K : Int) + 6 = ((K + 6 : Nat) : Int) by simp, ← Int.natCast_emod]; exact Int.toNat_natCast _
  have hm1 : 0 ≤ (X : Int) % ((K : Int) + 6) := Int.emod_nonneg _ (by omega)
  have hm2 : (X : Int) % ((K : Int) + 6) ≤ (K : Int) + 6 := by have := Int.emod_lt_of_pos (X : Int) (show 0 < (K : Int) + 6 by omega); omega
  have hmlt := Nat.mod_lt X (show 0 < K + 6 by omega)
  go_enter Try.func4, Try.ntmps4
  go_wp2_with fail
  refine (awake22_any _).mono ?_
  rintro e w1 ⟨rfl, hb1⟩
  go_wp2_with fail
  refine (make_yes _ _ _ l1 _ ((hS.below hb1).more hb1.size) (fun h => (HA.out h).1) hK6).mono ?_
  rintro e w2 ⟨g, rfl, hown, hb2⟩
  have hS2 := Sl.of_own hown
  have hB2 := below_trans hb1 hb1.size hb2
  have hS3 : Sl w2 w2.heap.size 1 (some ⟨g, 0, none⟩) (X % (K + 6)) (((frameL l1).take (X % (K + 6))).map bv) := hS2.take _ (by omega)
  clear hown hb2 hS2
  go_wp2_with fail
  have HN := Lib.hid (HSH.out (X % (K + 6)) hmlt)
  refine (cut_none _ _ _ _ _ hS3 (by intro h; cases h) (by omega) (by omega) HN.out).mono ?_
  rintro e w3 ⟨rfl, k3, rfl⟩
  go_wp2_with fail
  refine (all_none _ _ _ _ _ (hS3.drewN k3) (by intro h; cases h) (by omega) (by omega) HN.out).mono ?_
  rintro e w3 ⟨rfl, k4, rfl⟩
  go_wp2_with fail
  go_ret
  exact ⟨rfl, below_drewN' hB2 _⟩
end Go.Proofs.Ytioichenjoeonab
