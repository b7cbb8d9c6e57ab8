/- The walk of PointBack. -/
import Derived.Test.YtliofipccicnfaaPtZ
namespace Go.Proofs.Ytliofipccicnfaa
open Go.RowKit
set_option linter.unusedVariables false
set_option linter.unusedSimpArgs false
set_option maxRecDepth 20000
set_option maxHeartbeats 6400000 in
theorem pointBack_walk (w : World) (A : Option Addr) (n c : Nat) (rs : List RowT) (hV : SlView w A n c (rs.map rowV)) (hl : rs.length = n) (hr : ∀ r ∈ rs, RowOk w r ∧ r.2.2.1 ≤ 140737488351232) (hc : c ≤ 5864062014634)
    (y : Int) (hy : (Lit.int .u8 y).wf = true) :
    Calls Try.prog 5 #[.slice A n c, .int .u8 y] w fun e w' => e = .returned (.bool true) ∧ Below w.heap.size w w' := by
  have hnc := hV.le
  have hSA : Sl w w.heap.size 1 A n (rs.map rowV) := hV.sl
  have y8 := bounds_u8 hy
  obtain ⟨y, rfl⟩ : ∃ k : Nat, y = k := ⟨y.toNat, by omega⟩
  obtain ⟨d, hd⟩ : ∃ d : Nat, y % 20 = d := ⟨_, rfl⟩
  have hd20 : d < 20 := by omega
  obtain ⟨Z, hZ, hMK⟩ := make_zeros d hd20
  have hd' : ((y : Int)).tmod 20 = d := by rw [Int.tmod_eq_emod_of_nonneg (by omega)]; omega
  obtain ⟨N, hN⟩ : ∃ N, N = min n 40 := ⟨_, rfl⟩
  have HN := Lib.hid hN
  have hNn : N ≤ n := by omega
  have hN40 : N ≤ 40 := by omega
  have CELL : Hid (∀ k, k < N → ∃ b off r, A = some ⟨b, off, none⟩ ∧ b < w.heap.size ∧ rs[k]? = some r ∧ w.cell? ⟨b, off + k, none⟩ = some (.slice r.1 r.2.1 r.2.2.1)) := Lib.hid (fun k hk => by
    obtain ⟨b, off, u, hA, hb, hu, hcl⟩ := hSA.at_ (show k < n by omega)
    have hkl : k < rs.length := by omega
    refine ⟨b, off, rs[k], hA, hb, List.getElem?_eq_getElem hkl, ?_⟩
    rw [hcl]
    simp only [List.getElem?_map, List.getElem?_eq_getElem hkl, Option.map_some] at hu
    exact hu.symm)
  have NAME : Hid (∀ k r, rs[k]? = some r → ∀ wx, Below w.heap.size w wx → Calls Try.prog 10 #[.slice r.1 r.2.1 r.2.2.1] wx fun e w' => e = .returned (.string (keyOf (rowN r))) ∧ Below wx.heap.size wx w') := Lib.hid (fun k r hk wx hb => row_name r w (hr r (List.mem_of_getElem? hk)).1 (hr r (List.mem_of_getElem? hk)).2 wx hb)
  obtain ⟨L0, hL0⟩ : ∃ L0, L0 = List.replicate d (0 : UInt8) := ⟨_, rfl⟩
  have hL0l : L0.length = d := by rw [hL0]; simp
  rw [← hL0] at hZ
  have HL0 := Lib.hid hL0l
  obtain ⟨F, hF⟩ : ∃ F, F = runS L0 [] (namesR rs N) := ⟨_, rfl⟩
  have HJ0 : Hid (RunJ F L0 [] ((namesR rs N).drop 0) (N - 0)) := Lib.hid ⟨by rw [List.drop_zero]; exact hF.symm, by omega, by simp, fun ls q _ h => by simp [lk] at h⟩
  have HFS : Hid (F.1.length ≤ 4000) := Lib.hid (HJ0.out.small (by rw [List.drop_zero, Nat.sub_zero]; unfold namesR; simp; omega) (fun m hm => by
    rw [List.drop_zero] at hm
    unfold namesR at hm
    obtain ⟨r, -, rfl⟩ := List.mem_map.1 hm
    exact rowN_good r))
  have HF := Lib.hid hF
  have HMK := Lib.hid hMK
  have HZL := Lib.hid hZ
  clear hV hl hr hy y8 hd hSA hL0 hL0l hF hMK hZ hN hc
  go_enter Try.func5, Try.ntmps5
  go_wp2_with fail
  refine (awake03 _).mono ?_
  rintro e w1 ⟨rfl, hb1⟩
  have HB1 := Lib.hid hb1
  have hmk := HMK.out
  clear hb1
  go_upto_region 4 with fail
  have hO := OB.fresh HB1.out HB1.out.size Z 5 d (L0.map bv) HZL.out (by have := congrArg List.length HZL.out; simp [HL0.out] at this; exact this) (by unfold maxLen; omega)
  have hz1 : (w1.alloc (.cells Z 5)).heap.size = w1.heap.size + 1 := by simp
  generalize w1.alloc (.cells Z 5) = W2 at *
  obtain ⟨p, hp⟩ : ∃ p, w1.heap.size = p := ⟨_, rfl⟩
  have hwp : w.heap.size ≤ p := by have := HB1.out.size; omega
  rw [hp] at hO hz1 ⊢
  clear hp
  have hC := Cs.new W2 #[.slice (some ⟨p, 0, none⟩) d d, .map none] 33 [.slice (some ⟨p, 0, none⟩) d d, .map none]
  have hO2 := hO.alloc (.cells #[.slice (some ⟨p, 0, none⟩) d d, .map none] 33)
  rw [hz1] at hC
  generalize W2.alloc (.cells #[.slice (some ⟨p, 0, none⟩) d d, .map none] 33) = W3 at *
  obtain ⟨b, hb⟩ : ∃ b, p + 1 = b := ⟨_, rfl⟩
  have hpb : p < b := by omega
  rw [hb] at hC ⊢
  have hne : (Value.slice (some ⟨p, 0, none⟩) d d).ownBlock ≠ some b := by
    intro e
    have e : p = b := by simpa [Value.ownBlock] using e
    omega
  have HW0 : Hid (WS w w.heap.size b L0 [] W3) := Lib.hid (.inl ⟨rfl, .slice (some ⟨p, 0, none⟩) d d, by rw [HL0.out]; exact hO2, hC, hne, by omega⟩)
  have c0 := hC.get 0 _
  have q0 := hC.lt
  clear hb hz1 hO hO2 hC hpb hwp hmk hne
  go_upto_region 5 with fail
  go_cut [7] (fun v wc => v = .int .i64 (N : Nat) ∧ wc = W3)
  case first =>
    have hN2 := HN.out
    by_cases h40 : n ≤ 40
    · have h40' : (n : Int) ≤ 40 := by omega
      obtain rfl : N = n := by omega
      clear hN2 h40
      go_wp2_with fail
      go_meet
      exact ⟨rfl, rfl⟩
    · have h40' : (40 : Int) < n := by omega
      obtain rfl : N = 40 := by omega
      clear hN2 h40
      go_wp2_with fail
      go_meet
      exact ⟨rfl, rfl⟩
  case rest =>
  obtain ⟨rfl, hwc⟩ := hcut
  replace hwc := hwc.symm
  subst hwc
  go_wp2_with fail
  go_loopw [35] (fun i wr => ∃ (k : Nat) (Lk : List UInt8) (es : List (ByteArray × Nat)), k ≤ N ∧ i = .int .i64 (k : Nat) ∧ Hid (WS w w.heap.size b Lk es wr) ∧ Hid (RunJ F Lk es ((namesR rs N).drop k) (N - k))) (fun i _ => N - (intOf i).toNat)
  case atStart => exact ⟨0, L0, [], Nat.zero_le _, rfl, HW0, HJ0⟩
  case round =>
    obtain ⟨k, Lk, es, hk, rfl, HW, HR⟩ := hrel
    clear c0 q0
    by_cases hlt : k < N
    · have hlt' : (k : Int) < N := by omega
      have hk0 : ¬ (k : Int) < 0 := by omega
      obtain ⟨bb, off, r, rfl, hbb, hrk, hcl1⟩ := CELL.out k hlt
      have hbw := HW.out.bel
      have hcl := (hbw.cell (p := ⟨bb, off + k, none⟩) hbb).trans hcl1
      have hbl : bb < wr.heap.size := Nat.lt_of_lt_of_le hbb hbw.size
      have NM := Lib.hid (NAME.out k r hrk wr hbw)
      have hjj := HR.out
      rw [namesR_drop hlt hrk, show N - k = (N - (k + 1)) + 1 by omega] at hjj
      have HJJ := Lib.hid hjj
      have HG := Lib.hid (rowN_good r)
      obtain ⟨nm, hnm⟩ : ∃ nm, nm = rowN r := ⟨_, rfl⟩
      rw [← hnm] at NM HJJ HG
      clear hbb hcl1 hbw hjj hrk hnm
      go_wp2_with fail
      refine NM.out.mono ?_
      rintro e w2 ⟨rfl, hb2⟩
      have HW2 := Lib.hid (HW.out.below hb2)
      clear hb2 NM
      go_wp2_with fail
      refine (name_ws w2 w w.heap.size b Lk es nm HG.out.1 (by have := HG.out.2.1; omega) HG.out.2.2 HW2.out (by have := HG.out.2.1; have := HJJ.out.2.1; omega) HJJ.out.2.2.1).mono ?_
      rintro e w3 ⟨rfl, hw3⟩
      have HW3 := Lib.hid hw3
      clear hw3 HW2
      go_wp2_with fail
      go_roundw
      case rel => exact ⟨k + 1, _, _, by omega, by go_num, HW3, Lib.hid (HJJ.out.next HG.out)⟩
      case measure => simp [intOf]; omega
    · obtain rfl : k = N := by omega
      have hlt' : ¬ (k : Int) < k := by omega
      have hre := HR.out
      rw [namesR_end] at hre
      have hLF : Lk = F.1 := by rw [← hre.1]; rfl
      have HWF : Hid (WS w w.heap.size b F.1 es wr) := Lib.hid (by rw [← hLF]; exact HW.out)
      clear hre hLF HW HR
      obtain ⟨A', c', m, hob, hnb, hC⟩ := HWF.out.open
      have c0 := hnb.get 0 _
      have q0 := hnb.lt
      obtain ⟨S, hS⟩ : ∃ S, S = ByteArray.mk F.1.toArray := ⟨_, rfl⟩
      have hSl : S.data.toList = F.1 := by rw [hS]
      have hSz : S.size = F.1.length := by rw [hS]; simp [ByteArray.size]
      have hA0 : A' = none → F.1.length = 0 := by
        obtain ⟨A2, c2, e, -, -, h⟩ := hob.slice
        injection e with e1 e2 e3
        subst e1
        exact fun h0 => (h h0).1
      have hcv0 := fun w0 (h : Sl w0 wr.heap.size 1 A' F.1.length (F.1.map bv)) => run_string_of (P := Try.prog) w0 30 9 5 _ A' F.1.length F.1 Try.underlying30 Try.underlying5 Try.underlying9 h hA0 c'
      have hcv := hcv0 wr hob.sl
      rw [← hS] at hcv
      have HSL := Lib.hid hSl
      have HSZ := Lib.hid hSz
      have HBW := Lib.hid HWF.out.bel
      clear hcv0 hS hSl hSz hob hnb hC hA0 HWF
      obtain ⟨wS, hwS⟩ : ∃ wS, wS = wr := ⟨_, rfl⟩
      rw [← hwS] at HBW
      have HWS := Lib.hid hwS
      clear hwS
      go_upto_region 12 with fail
      rw [← HWS.out]
      clear c0 q0 hcv HWS
      go_wp2_with fail
      go_loopw [6, 53] (fun va i wr => ∃ (j a : Nat) (Lk : List UInt8) (es : List (ByteArray × Nat)), j ≤ k ∧ va = .int .i64 (a : Nat) ∧ i = .int .i64 (j : Nat) ∧ a ≤ 4000 ∧ Hid (a = Lk.length) ∧ Hid (RunJ F Lk es ((namesR rs k).drop j) (k - j)) ∧ Hid (Below w.heap.size w wr)) (fun _ i _ => k - (intOf i).toNat)
      case atStart => exact ⟨0, d, L0, [], Nat.zero_le _, rfl, rfl, by omega, Lib.hid HL0.out.symm, HJ0, HBW⟩
      case round =>
        obtain ⟨j, a, Lk, es, hj, rfl, rfl, ha4, HA, HR, HB⟩ := hrel
        by_cases hlt2 : j < k
        · have hlt2' : (j : Int) < k := by omega
          have hj0 : ¬ (j : Int) < 0 := by omega
          obtain ⟨bb, off, r, rfl, hbb, hrk, hcl1⟩ := CELL.out j hlt2
          have hbw := HB.out
          have hcl := (hbw.cell (p := ⟨bb, off + j, none⟩) hbb).trans hcl1
          have hbl : bb < wr.heap.size := Nat.lt_of_lt_of_le hbb hbw.size
          have NM := Lib.hid (fun wx hb => NAME.out j r hrk wx hb)
          have hjj := HR.out
          rw [namesR_drop hlt2 hrk, show k - j = (k - (j + 1)) + 1 by omega] at hjj
          have HJJ := Lib.hid hjj
          have HG := Lib.hid (rowN_good r)
          obtain ⟨nm, hnm⟩ : ∃ nm, nm = rowN r := ⟨_, rfl⟩
          rw [← hnm] at NM HJJ HG
          obtain ⟨Lz, hLz⟩ : ∃ Lz, Lz = (Lk ++ (wrS es Lk.length nm).1) := ⟨_, rfl⟩
          have hrd := HJJ.out.reads HG.out
          rw [← hLz, ← HA.out] at hrd
          obtain ⟨a2, ha2⟩ : ∃ a2, a2 = Lz.length := ⟨_, rfl⟩
          rw [← ha2] at hrd
          have RD := Lib.hid (read_rds S a nm a2 wr (by rw [HSL.out]; exact hrd) HG.out.1 (by have := HG.out.2.1; omega) (by have := HSZ.out; have := HFS.out; omega) (by omega))
          have hnx := HJJ.out.next HG.out
          rw [← hLz] at hnx
          have ha24 : a2 ≤ 4000 := by have := hnx.2.1; omega
          have HNX := Lib.hid hnx
          have HA2 := Lib.hid ha2
          obtain ⟨K, hK⟩ : ∃ K, K = keyOf nm := ⟨_, rfl⟩
          rw [← hK] at RD NM
          have hKK : (K.toList == K.toList) = true := str_same _ _ rfl
          clear hbb hcl1 hbw hjj hrk hnm hLz hrd ha2 hnx hK
          go_wp2_with fail
          refine RD.out.mono ?_
          rintro e w2 ⟨rfl, hb2⟩
          have HB2 := Lib.hid (below_trans HB.out HB.out.size hb2)
          clear hb2 RD
          go_wp2_with fail
          refine (NM.out _ HB2.out).mono ?_
          rintro e w3 ⟨rfl, hb3⟩
          have HB3 := Lib.hid (below_trans HB2.out HB2.out.size hb3)
          clear hb3 NM HB2
          go_wp2_with fail
          go_roundw
          case rel => exact ⟨j + 1, a2, _, _, by omega, rfl, by go_num, ha24, HA2, HNX, HB3⟩
          case measure => simp [intOf]; omega
        · obtain rfl : j = k := by omega
          have hlt2' : ¬ (j : Int) < j := by omega
          have hre := HR.out
          rw [namesR_end] at hre
          have hLF : Lk = F.1 := by rw [← hre.1]; rfl
          obtain rfl : a = S.size := by rw [HA.out, hLF, HSZ.out]
          clear hre hLF HR HA
          go_wp2_with fail
          go_ret
          exact ⟨rfl, HB.out⟩
end Go.Proofs.Ytliofipccicnfaa
