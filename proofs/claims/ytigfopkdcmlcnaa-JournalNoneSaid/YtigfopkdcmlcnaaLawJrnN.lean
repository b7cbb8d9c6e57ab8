/- The walk of JournalNone. -/
import Derived.Test.YtigfopkdcmlcnaaJrnE
import Derived.Test.YtigfopkdcmlcnaaView
namespace Go.Proofs.Ytigfopkdcmlcnaa
open Go.RowKit
set_option linter.unusedVariables false
set_option linter.unusedSimpArgs false
set_option maxRecDepth 20000
theorem nils_whole : ∀ k : Nat, wholeB (List.replicate k (0, [])) (List.replicate k []) = true
  | 0 => rfl
  | k + 1 => by
    have := nils_whole k
    unfold wholeB at *
    rw [List.replicate_succ, List.replicate_succ, List.zip_cons_cons, List.all_cons, this]
    simp
theorem nils_rows : ∀ k : Nat, (List.replicate k ((0, []) : Nat × List (List UInt8))).flatMap (·.2) = []
  | 0 => rfl
  | k + 1 => by rw [List.replicate_succ, List.flatMap_cons, nils_rows k]; rfl
theorem nils_snoc (k : Nat) : (List.replicate k ([] : List UInt8)) ++ [[]] = List.replicate (k + 1) [] := by
  rw [List.replicate_succ']
theorem nils_sum (k : Nat) : sumL (List.replicate k []) = 0 := by simp [sumL]
/-- The journal's Recover where all segments are empty. -/
theorem recover_nils {F : Nat → Prop} {B : Nat} {W : World} {d j : Nat} {k writes : Nat} {w : World} (h : DevE F B W d (List.replicate k []) 0 writes w) (hj : Jn2 F d j w) (hk : k ≤ 5) :
    Calls Try.prog 49 #[.pointer (some ⟨j, 0, none⟩)] w fun e w' => e = .returned (.int .i64 0) ∧ DevE F B W d (List.replicate k []) 0 writes w' ∧ Keep F w w' := by
  cases k with
  | zero =>
    refine (recover_nil h hj).mono ?_
    rintro e w' ⟨q1, q2⟩
    exact ⟨q1, h.keep q2, Keep.below h.fl q2⟩
  | succ k =>
    rw [← nils_snoc] at h ⊢
    refine (recover_some (List.replicate k []) [] h hj (Nat.zero_le _) (by simp; omega) (by intro x hx; rw [nils_snoc] at hx; rw [List.eq_of_mem_replicate hx]; exact Nat.zero_le _)).mono ?_
    rintro e w' ⟨p, xs, rfl, hf, q2, q3⟩
    obtain ⟨rfl, rfl⟩ := hf.one frm_nil
    exact ⟨rfl, q2, q3⟩
theorem read_nils {F : Nat → Prop} {B : Nat} {W : World} {d : Nat} {k safe writes : Nat} {w : World} (h : DevE F B W d (List.replicate k []) safe writes w) (hk : k ≤ 5) :
    Calls Try.prog 48 #[.pointer (some ⟨d, 0, none⟩)] w fun e w' => ∃ A c, e = .returned (.tuple #[.slice A 0 c, .bool true]) ∧ Below w.heap.size w w' := by
  refine (read_any h (by simp; omega) (by intro x hx; rw [List.eq_of_mem_replicate hx]; exact Nat.zero_le _) (by rw [nils_sum]; omega)).mono ?_
  rintro e w' ⟨v, vs, fs, rfl, hcp, hfa⟩
  obtain rfl := hfa.nils
  rw [nils_rows] at hcp
  obtain ⟨A, c, rfl, -⟩ := hcp.ob.slice
  rw [nils_whole]
  exact ⟨A, c, rfl, hcp.ob.bel⟩
theorem segs_nils {F : Nat → Prop} {B : Nat} {W : World} {d : Nat} {k safe writes : Nat} {w : World} (h : DevE F B W d (List.replicate k []) safe writes w) (hk : k ≤ 5) :
    Calls Try.prog 37 #[.pointer (some ⟨d, 0, none⟩)] w fun e w' => ∃ A c, e = .returned (.slice A k c) ∧ Below w.heap.size w w' := by
  refine (segments_any h (by simp; omega) (by intro x hx; rw [List.eq_of_mem_replicate hx]; exact Nat.zero_le _)).mono ?_
  rintro e w' ⟨v, vs, rfl, hcp⟩
  obtain ⟨A, c, rfl, -⟩ := hcp.ob.slice
  rw [List.length_replicate]
  exact ⟨A, c, rfl, hcp.ob.bel⟩
set_option maxHeartbeats 3200000 in
theorem journalNone_walk (w : World) (y : Int) (hy : (Lit.int .u8 y).wf = true) :
    Calls Try.prog 13 #[.int .u8 y] w fun e w' => e = .returned (.bool true) ∧ Below w.heap.size w w' := by
  have y8 := bounds_u8 hy
  clear hy
  obtain ⟨y, rfl⟩ : ∃ k : Nat, y = k := ⟨y.toNat, by omega⟩
  obtain ⟨N, hN⟩ : ∃ N, N = y % 5 := ⟨_, rfl⟩
  have hN5 : N < 5 := by omega
  have hNi : (y : Int) % 5 = (N : Int) := by omega
  have HNI := Lib.hid hNi
  clear hN hNi
  go_enter Try.func13, Try.ntmps13
  go_wp2_with fail
  refine (awake24 _).mono ?_
  rintro e w1 ⟨rfl, hb1⟩
  have OF := Lib.hid (of_any (w1.alloc (.cells #[.slice none 0 0, .int .i64 0, .int .i64 0] 68)) w1.heap.size)
  obtain ⟨W2, hW2, h2, hj2⟩ := jrn_start w1 68 92
  have hz : (w1.alloc (.cells #[.slice none 0 0, .int .i64 0, .int .i64 0] 68)).heap.size = w1.heap.size + 1 := by simp
  obtain ⟨d, hd⟩ : ∃ d, d = w1.heap.size := ⟨_, rfl⟩
  rw [← hd] at h2 hj2
  have HD := Lib.hid hd
  have HW := Lib.hid hW2
  have HZ := Lib.hid hz
  have H2 := Lib.hid h2
  have HJ2 := Lib.hid hj2
  have HB1 := Lib.hid hb1
  clear hd hW2 hz h2 hj2 hb1
  go_wp2_with fail
  refine OF.out.mono ?_
  rintro e w3 ⟨rfl, hw3⟩
  rw [← HW.out] at hw3
  subst hw3
  rw [HZ.out, ← HD.out]
  clear OF
  obtain ⟨j, hjd⟩ : ∃ j, j = d + 1 := ⟨_, rfl⟩
  rw [← hjd] at H2 HJ2 ⊢
  clear hjd HW HZ
  have H2 : Hid (DevE (FJ d j) d w1 d (List.replicate 0 []) 0 0 W2) := H2
  have c2 := HJ2.out.1.get 0 _
  have q2 := HJ2.out.1.lt
  have RD := Lib.hid (read_nils H2.out (by decide))
  go_wp2_with fail
  refine RD.out.mono ?_
  clear RD
  rintro e w4 ⟨A4, n4, rfl, hb4⟩
  have H4 := Lib.hid (H2.out.keep hb4)
  have HJ4 := Lib.hid (HJ2.out.keep (Keep.below H2.out.fl hb4))
  have RC := Lib.hid (recover_nils H4.out HJ4.out (by decide))
  clear c2 q2 hb4
  go_wp2_with fail
  refine RC.out.mono ?_
  clear RC
  rintro e w5 ⟨rfl, h5, hk5⟩
  have H5 := Lib.hid h5
  have HJ5 := Lib.hid (HJ4.out.keep hk5)
  have SG := Lib.hid (segs_nils h5 (by decide))
  clear h5 hk5
  go_wp2_with fail
  refine SG.out.mono ?_
  clear SG
  rintro e w6 ⟨A6, n6, rfl, hb6⟩
  have H6 := Lib.hid (H5.out.keep hb6)
  have HJ6 := Lib.hid (HJ5.out.keep (Keep.below H5.out.fl hb6))
  clear hb6
  go_wp2_with fail
  go_loopw [7] (fun i wr => ∃ k : Nat, k ≤ N ∧ i = .int .i64 k ∧ Hid (DevE (FJ d j) d w1 d (List.replicate k []) 0 0 wr) ∧ Hid (Jn2 (FJ d j) d j wr)) (fun i _ => N - (intOf i).toNat)
  case atStart => exact ⟨0, Nat.zero_le _, rfl, H6, HJ6⟩
  case round =>
    obtain ⟨k, hk, rfl, hdv, hjv⟩ := hrel
    have hNi := HNI.out
    by_cases hlt : k < N
    · have hlt' : (k : Int) < N := by omega
      have c0 := hjv.out.1.get 0 _
      have q0 := hjv.out.1.lt
      have BG := Lib.hid (begin_any hdv.out (by simp; omega))
      have hi2 : IntKind.i64.wrap ((k : Int) + 1) = (k : Int) + 1 := IntWalk.i64_in _ (by omega)
      go_wp2_with fail
      refine BG.out.mono ?_
      clear BG
      rintro e w7 ⟨rfl, h7, hk7⟩
      rw [nils_snoc] at h7
      have H7 := Lib.hid h7
      have HJ7 := Lib.hid (hjv.out.keep hk7)
      clear h7 hk7 c0 q0
      go_wp2_with fail
      go_roundw
      case rel => exact ⟨k + 1, by omega, by go_num, H7, HJ7⟩
      case measure => simp [intOf]; omega
    · obtain rfl : k = N := by omega
      have hlt' : ¬ (k : Int) < k := by omega
      have RD := Lib.hid (read_nils hdv.out (by omega))
      go_wp2_with fail
      refine RD.out.mono ?_
      clear RD
      rintro e w7 ⟨A7, n7, rfl, hb7⟩
      have H7 := Lib.hid (hdv.out.keep hb7)
      have HJ7 := Lib.hid (hjv.out.keep (Keep.below hdv.out.fl hb7))
      have RC := Lib.hid (recover_nils H7.out HJ7.out (by omega))
      clear hb7
      go_wp2_with fail
      refine RC.out.mono ?_
      clear RC
      rintro e w8 ⟨rfl, h8, hk8⟩
      have H8 := Lib.hid h8
      have SG := Lib.hid (segs_nils h8 (by omega))
      have hbw : Below w.heap.size w w8 := below_trans HB1.out HB1.out.size (by rw [← HD.out]; exact h8.bel)
      clear h8 hk8
      go_wp2_with fail
      refine SG.out.mono ?_
      clear SG
      rintro e w9 ⟨A9, n9, rfl, hb9⟩
      have hb10 := hbw.trans (hb9.mono hbw.size)
      clear hb9
      go_wp2_with fail
      go_ret
      exact ⟨rfl, hb10⟩
end Go.Proofs.Ytigfopkdcmlcnaa
