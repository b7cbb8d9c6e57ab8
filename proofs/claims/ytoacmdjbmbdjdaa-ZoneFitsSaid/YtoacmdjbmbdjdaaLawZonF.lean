/- The walk of ZoneFits. -/
import Derived.Test.YtoacmdjbmbdjdaaZonF
import Derived.Laws.OwnMore
namespace Go.Proofs.Ytoacmdjbmbdjdaa
open Go.RowKit
set_option linter.unusedVariables false
set_option linter.unusedSimpArgs false
set_option maxRecDepth 20000
/-- Records of these data, numbered. -/
def rsF (D : ByteArray) (j : Nat) : List RecT := (List.range j).map fun i : Nat => (⟨#[]⟩, 0, (i : Int), D)
theorem rsF_len (D : ByteArray) (j : Nat) : (rsF D j).length = j := by simp [rsF]
theorem rsF_next (D : ByteArray) (j : Nat) : rsF D (j + 1) = rsF D j ++ [(⟨#[]⟩, 0, (j : Int), D)] := by unfold rsF; rw [List.range_succ]; simp
theorem sizeR_append (a b : List RecT) : sizeR (a ++ b) = sizeR a + sizeR b := by unfold sizeR; simp
theorem rsF_size (D : ByteArray) : ∀ j, sizeR (rsF D j) = j * (10 + D.size)
  | 0 => by simp [rsF, sizeR]
  | j + 1 => by
    have h1 : sizeR [((⟨#[]⟩ : ByteArray), (0 : Int), (j : Int), D)] = 10 + D.size := by show 10 + 0 + D.size + 0 = _; omega
    rw [rsF_next, sizeR_append, rsF_size D j, h1, Nat.add_mul]; omega
theorem byte_inf : (Try.prog.info? 5).map (fun i => (i.zero, i.size, i.bytes)) = some (some (.int .u8 0), 1, 1) := by kernel_rfl
set_option maxHeartbeats 3200000 in
theorem zoneFits_walk (w : World) (n : Int) (hn : (Lit.int .u16 n).wf = true) (s : Int) (hs : (Lit.int .u16 s).wf = true) :
    Calls Try.prog 4 #[.int .u16 n, .int .u16 s] w fun e w' => e = .returned (.bool true) ∧ Below w.heap.size w w' := by
  have u16 : ∀ z : Int, (Lit.int .u16 z).wf = true → 0 ≤ z ∧ z < 65536 := by
    intro z h
    have : IntKind.u16.min ≤ z ∧ z ≤ IntKind.u16.max := by simpa [Lit.wf] using h
    have a : IntKind.u16.min = 0 := rfl
    have b : IntKind.u16.max = 65535 := rfl
    omega
  have hn2 := u16 n hn
  have hs2 := u16 s hs
  obtain ⟨i0, hi, hz0, hz1, hz2⟩ := info_parts4 rec_info
  obtain ⟨ib, hbi, hb0, hb1, hb2⟩ := info_parts4 byte_inf
  obtain ⟨N, hN, hN4⟩ : ∃ k : Nat, n.tmod 400 = (k : Int) ∧ k < 400 := ⟨(n.tmod 400).toNat, by rw [Int.tmod_eq_emod_of_nonneg hn2.1]; omega, by rw [Int.tmod_eq_emod_of_nonneg hn2.1]; omega⟩
  obtain ⟨d, hd, hd5⟩ : ∃ k : Nat, s.tmod 500 = (k : Int) ∧ k < 500 := ⟨(s.tmod 500).toNat, by rw [Int.tmod_eq_emod_of_nonneg hs2.1]; omega, by rw [Int.tmod_eq_emod_of_nonneg hs2.1]; omega⟩
  have hNe : n % 400 = (N : Int) := by rw [← Int.tmod_eq_emod_of_nonneg hn2.1]; exact hN
  have hde : s % 500 = (d : Int) := by rw [← Int.tmod_eq_emod_of_nonneg hs2.1]; exact hd
  -- the data
  obtain ⟨D, hD⟩ : ∃ D : ByteArray, D = ⟨(List.replicate d (0 : UInt8)).toArray⟩ := ⟨_, rfl⟩
  have hDs : D.size = d := by rw [hD]; simp [ByteArray.size]
  obtain ⟨Z, hZ⟩ : ∃ Z, madeCells (Value.int .u8 0).cells (d * 1) = Z := ⟨_, rfl⟩
  have hZl : Z.toList = (List.replicate d (0 : UInt8)).map bv := by
    rw [← hZ, Nat.mul_one]
    show (madeCells #[Value.int .u8 0] d).toList = _
    rw [toList_madeCells_one, List.map_replicate]; rfl
  have MK : ∀ w : World, (Instr.makeSlice 33 (.int .i64 (d : Nat)) (.int .i64 (d : Nat))).run Try.prog w = .ok (.slice (some ⟨w.heap.size, 0, none⟩) d d) (w.alloc (.cells Z 5)) := by
    intro w
    have := run_make (P := Try.prog) w 33 5 ib _ Try.underlying33 hbi hb0 .i64 .i64 (d : Nat) (d : Nat) (by omega) (Int.le_refl _) (by rw [hb2]; omega) (by omega)
    simp only [Int.toNat_natCast] at this
    rw [hb1, hZ] at this
    exact this
  have CV : ∀ w : World, (convert 33 9 (.slice (some ⟨w.heap.size, 0, none⟩) d d)).run Try.prog (w.alloc (.cells Z 5)) = .ok (.string D) (w.alloc (.cells Z 5)) := by
    intro w
    have hS := Sl.fresh w Z 5 d ((List.replicate d (0 : UInt8)).map bv) hZl (by simp)
    have := run_string_of (P := Try.prog) (w.alloc (.cells Z 5)) 33 9 5 _ _ d (List.replicate d 0) Try.underlying33 Try.underlying5 Try.underlying9 hS (fun h => by cases h) d
    rw [← hD] at this
    exact this
  have HMK := Lib.hid MK
  have HCV := Lib.hid CV
  have HDS := Lib.hid hDs
  obtain ⟨P, hP⟩ : ∃ P : Nat, P = N * (10 + d) := ⟨_, rfl⟩
  have hPi : (N : Int) * (10 + (d : Int)) = (P : Int) := by rw [hP, Int.natCast_mul]; rfl
  have hP6 : P ≤ 300000 := by rw [hP]; exact Nat.le_trans (Nat.mul_le_mul (show N ≤ 400 by omega) (show 10 + d ≤ 510 by omega)) (by decide)
  have HP := Lib.hid (And.intro hP (And.intro hPi hP6))
  clear hn hs u16 hD hDs hZ hZl MK CV hbi hb0 hb1 hb2 hP hPi hP6
  go_enter Try.func4, Try.ntmps4
  go_wp2_with fail
  refine (awake08_any _).mono ?_
  rintro e w1 ⟨rfl, hb1⟩
  have HB1 := Lib.hid hb1
  clear hb1
  go_wp2_with fail
  go_loopw [7, 8] (fun v i wr => ∃ k : Nat, k ≤ N ∧ i = .int .i64 k ∧ Hid (OBM 4 w1.heap.size w1 v k (flatR (rsF D k)) wr)) (fun _ i _ => N - (intOf i).toNat)
  case atStart => exact ⟨0, Nat.zero_le _, rfl, Lib.hid (by simpa [rsF, flatR] using OBM.start (sz := 4) w1)⟩
  case round =>
    obtain ⟨k, hk, rfl, HB⟩ := hrel
    by_cases hlt : k < N
    · have hlt' : (k : Int) < N := by omega
      have hu : IntKind.u32.wrap (k : Int) = (k : Int) := by show (k : Int) % 4294967296 = k; omega
      have hmk := HMK.out wr
      have hcv := HCV.out wr
      have ho := Lib.hid (((HB.out.alloc (.cells Z 5))).alloc (.cells #[.string ⟨#[]⟩, .int .u16 0, .int .u32 (k : Nat), .string D] 27))
      have hS := Lib.hid (src_one' (w := wr.alloc (.cells Z 5)) (ts := 32) (by kernel_rfl) (⟨#[]⟩, 0, (k : Int), D))
      have hz : (wr.alloc (.cells Z 5)).heap.size = wr.heap.size + 1 := by simp
      rw [hz] at hS
      clear hz
      go_wp2_with (at_builtin; go_loud (refine wpList_append_obm rfl _ _ 32 32 rfl 27 i0 _ 40 (by kernel_rfl) hi hz0 hz1 hz2 rfl ho.out rfl rfl hS.out rfl (by unfold maxLen; omega) (by omega) ?_))
      intro v' w' q1 q2 q3 q4
      clear q2 q3 q4
      have Q1 := Lib.hid q1
      clear q1
      go_wp2_with fail
      go_round
      case rel => exact ⟨k + 1, by omega, by go_num, Lib.hid (by rw [rsF_next, flatR_snoc]; exact Q1.out)⟩
      case measure => simp [intOf]; omega
    · obtain rfl : k = N := by omega
      have hlt' : ¬ (k : Int) < k := by omega
      obtain ⟨A', c', rfl, -, -, -⟩ := HB.out.slice
      have HR := Lib.hid (HB.out.recs (rsF_len D k))
      have hsz := rsF_size D k
      rw [HDS.out, ← HP.out.1] at hsz
      have SZ := Lib.hid (fun w h => size_any A' k c' (rsF D k) w h (rsF_len D k) (by unfold maxLen; omega) (by rw [hsz]; have := HP.out.2.2; omega))
      have FT := Lib.hid (fun w h => fits_any A' k c' (rsF D k) w h (rsF_len D k) (by unfold maxLen; omega) (by rw [hsz]; have := HP.out.2.2; omega))
      rw [hsz] at SZ FT
      have HBX := Lib.hid (below_trans HB1.out HB1.out.size HB.out.bel)
      have hPi := HP.out.2.1
      have hP6 := HP.out.2.2
      clear hsz HB HMK HCV hN hd
      unfold fitsR at FT
      by_cases h1 : k ≤ 256
      · by_cases h2 : P ≤ 16384
        · have h1i : (k : Int) ≤ 256 := by omega
          have h2i : (P : Int) ≤ 16384 := by omega
          have HF : Hid ((decide (k ≤ 256) && decide (P ≤ 16384)) = true) := Lib.hid (by simp; omega)
          rw [HF.out] at FT
          have hee : ((P : Int) == (P : Int)) = true := by simp
          clear h1 h2 HF
          go_wp2_with fail
          refine (SZ.out _ HR.out).mono ?_
          rintro e w2 ⟨rfl, hb2⟩
          have HR2 := Lib.hid (HR.out.below hb2)
          have HB2 := Lib.hid (below_trans HBX.out HBX.out.size hb2)
          clear hb2
          go_wp2_with fail
          refine (FT.out _ HR2.out).mono ?_
          rintro e w3 ⟨rfl, hb3⟩
          have HB3 := Lib.hid (below_trans HB2.out HB2.out.size hb3)
          clear hb3
          go_wp2_with fail
          go_ret
          exact ⟨rfl, HB3.out⟩
        · have h1i : (k : Int) ≤ 256 := by omega
          have h2i : ¬ (P : Int) ≤ 16384 := by omega
          have h2d : decide ((P : Int) ≤ 16384) = false := decide_eq_false h2i
          have HF : Hid ((decide (k ≤ 256) && decide (P ≤ 16384)) = false) := Lib.hid (by simp; omega)
          rw [HF.out] at FT
          have hee : ((P : Int) == (P : Int)) = true := by simp
          clear h1 h2 HF
          go_wp2_with fail
          refine (SZ.out _ HR.out).mono ?_
          rintro e w2 ⟨rfl, hb2⟩
          have HR2 := Lib.hid (HR.out.below hb2)
          have HB2 := Lib.hid (below_trans HBX.out HBX.out.size hb2)
          clear hb2
          go_wp2_with fail
          refine (FT.out _ HR2.out).mono ?_
          rintro e w3 ⟨rfl, hb3⟩
          have HB3 := Lib.hid (below_trans HB2.out HB2.out.size hb3)
          clear hb3
          go_wp2_with fail
          go_ret
          exact ⟨rfl, HB3.out⟩
      · by_cases h2 : P ≤ 16384
        · have h1i : ¬ (k : Int) ≤ 256 := by omega
          have h2i : (P : Int) ≤ 16384 := by omega
          have HF : Hid ((decide (k ≤ 256) && decide (P ≤ 16384)) = false) := Lib.hid (by simp; omega)
          rw [HF.out] at FT
          have hee : ((P : Int) == (P : Int)) = true := by simp
          clear h1 h2 HF
          go_wp2_with fail
          refine (SZ.out _ HR.out).mono ?_
          rintro e w2 ⟨rfl, hb2⟩
          have HR2 := Lib.hid (HR.out.below hb2)
          have HB2 := Lib.hid (below_trans HBX.out HBX.out.size hb2)
          clear hb2
          go_wp2_with fail
          refine (FT.out _ HR2.out).mono ?_
          rintro e w3 ⟨rfl, hb3⟩
          have HB3 := Lib.hid (below_trans HB2.out HB2.out.size hb3)
          clear hb3
          go_wp2_with fail
          go_ret
          exact ⟨rfl, HB3.out⟩
        · have h1i : ¬ (k : Int) ≤ 256 := by omega
          have h2i : ¬ (P : Int) ≤ 16384 := by omega
          have h2d : decide ((P : Int) ≤ 16384) = false := decide_eq_false h2i
          have HF : Hid ((decide (k ≤ 256) && decide (P ≤ 16384)) = false) := Lib.hid (by simp; omega)
          rw [HF.out] at FT
          have hee : ((P : Int) == (P : Int)) = true := by simp
          clear h1 h2 HF
          go_wp2_with fail
          refine (SZ.out _ HR.out).mono ?_
          rintro e w2 ⟨rfl, hb2⟩
          have HR2 := Lib.hid (HR.out.below hb2)
          have HB2 := Lib.hid (below_trans HBX.out HBX.out.size hb2)
          clear hb2
          go_wp2_with fail
          refine (FT.out _ HR2.out).mono ?_
          rintro e w3 ⟨rfl, hb3⟩
          have HB3 := Lib.hid (below_trans HB2.out HB2.out.size hb3)
          clear hb3
          go_wp2_with fail
          go_ret
          exact ⟨rfl, HB3.out⟩
end Go.Proofs.Ytoacmdjbmbdjdaa
