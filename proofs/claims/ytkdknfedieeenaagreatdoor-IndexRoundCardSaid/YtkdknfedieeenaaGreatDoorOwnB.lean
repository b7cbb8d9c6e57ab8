/- The contracts of layer 13: byteLabels, wordLabels, Prefix. -/
import Derived.Test.YtkdknfedieeenaaGreatDoorOwnA
namespace Go.Proofs.YtkdknfedieeenaaGreatDoor
open Go.RowKit
set_option linter.unusedVariables false
set_option maxRecDepth 20000

theorem sv_one (l : List UInt8) : (sv l).oneCell' = true := rfl
set_option maxHeartbeats 4000000 in
theorem bytesL_any (a : ByteArray) (w : World) (ha : a.size ≤ 16) (hL : LaidT w) :
    Calls Tryz.prog 128 #[.string a] w fun e w' => ∃ v, e = .returned v ∧ Buf w.heap.size 9 w v a.size ((a.data.toList.map fun c => dec c.toNat).map sv) w' := by
  obtain ⟨i0, hi, hz0, hz1, hz2⟩ := info_parts str_info
  obtain ⟨G, hG⟩ : ∃ G : Nat → List Value, G = fun k => ((a.data.toList.take k).map fun c => dec c.toNat).map sv := ⟨_, rfl⟩
  have HG := Lib.hid hG
  have hG0 : G 0 = [] := by rw [hG]; rfl
  clear hG
  go_enter Tryz.func128, Tryz.ntmps128
  go_wp2_with fail
  go_loopw [3, 7] (fun v i wr => ∃ k : Nat, k ≤ a.size ∧ i = .int .i64 k ∧ Buf w.heap.size 9 w v k (G k) wr) (fun _ i _ => a.size - (intOf i).toNat)
  case atStart => exact ⟨0, Nat.zero_le _, rfl, by rw [hG0]; exact Buf.start _ _⟩
  case round =>
    obtain ⟨k, hk, rfl, hb⟩ := hrel
    obtain ⟨D, cd, rfl, hd1, hd2, hd3⟩ := hb.slice
    by_cases hlt : k < a.size
    · have hlt' : (k : Int) < a.size := by omega
      have htake : G (k + 1) = G k ++ [sv (dec a[k].toNat)] := by
        rw [HG.out]; simp only []
        rw [List.take_succ_eq_append_getElem (by simpa using hlt), List.map_append, List.map_append, toList_get a k hlt]; rfl
      have hit := fun w h => itoa_any a[k].toNat (a[k]).toNat_lt w h
      obtain ⟨S, hS⟩ : ∃ S : ByteArray, S = ⟨(dec a[k].toNat).toArray⟩ := ⟨_, rfl⟩
      have hS2 : sv (dec a[k].toNat) = .string S := by rw [hS]; rfl
      rw [hS2] at htake hit
      have h256 := (a[k]).toNat_lt
      have HT := Lib.hid htake
      have HI := Lib.hid hit
      have HL1 := hL.below hb.below (Nat.le_refl _)
      have HLH := Lib.hid HL1
      clear htake hit hS hS2 HL1
      go_wp2_with (go_at_call 130; refine (HI.out _ HLH.out).mono ?_; rintro e w1 ⟨rfl, hb1⟩; refine Hid.out ?_)
      refine Lib.hid ?_
      have hb2 := hb.keep hb1 (Nat.le_refl _)
      go_wp2_with (at_builtin; go_loud (refine wpList_append_one rfl _ _ 63 rfl w.heap.size 9 i0 _ 16 Tryz.underlying63 hi hz0 hz1 hz2 rfl hb2 rfl rfl rfl ?c1 ?c2 ?_))
      case c1 => unfold maxLen; omega
      case c2 => omega
      intro v' w2 hb3
      go_wp2
      go_roundw
      case rel => exact ⟨k + 1, by omega, by go_num, by rw [HT.out]; exact hb3⟩
      case measure => simp [intOf]; omega
    · obtain rfl : k = a.size := by omega
      have hGa : G a.size = (a.data.toList.map fun c => dec c.toNat).map sv := by rw [HG.out]; simp only []; rw [List.take_of_length_le (by simp)]
      rw [hGa] at hb
      have HB := Lib.hid hb
      clear hb hGa
      go_wp2
      go_ret
      exact ⟨_, rfl, HB.out⟩

theorem idxN_succ (be : Nat × Nat) (n : Nat) : idxN be (n + 1) = idxN be n ++ idx1 be n := by
  unfold idxN
  rw [List.range_succ, List.flatMap_append]; simp
theorem idxN_le (be : Nat × Nat) : ∀ n, (idxN be n).length ≤ n
  | 0 => by simp [idxN]
  | n + 1 => by
    rw [idxN_succ, List.length_append]
    have := idxN_le be n
    have h1 : (idx1 be n).length ≤ 1 := by
      unfold idx1
      split
      · simp
      · split <;> simp
    omega
set_option maxHeartbeats 4000000 in
theorem wordsLb_any (a : ByteArray) (ws : List Nat) (h : Six a ws) (w : World) (hL : LaidT w) :
    Calls Tryz.prog 129 #[.string a] w fun e w' => ∃ v, e = .returned v ∧ Buf w.heap.size 9 w v (body6 ws).length ((body6 ws).map sv) w' := by
  obtain ⟨i0, hi, hz0, hz1, hz2⟩ := info_parts str_info
  have hrun := fun w => longest_any a ws h w
  have hword := fun k hk w => word_any a ws k hk h w
  have hlt := fun k => h.lt k
  have hle := (runs_le (ws.map (· == 0)) (by simpa using h.len) 8 (Nat.le_refl _))
  have hbody : body6 ws = (idxN (runP (ws.map (· == 0))) 8).map (lab ws) := rfl
  have hrr : (List.range 8).foldl (runStep (ws.map (· == 0))) (0, 0) = runP (ws.map (· == 0)) := rfl
  rw [hrr] at hle
  rw [hbody]
  generalize runP (ws.map (· == 0)) = be at *
  obtain ⟨b, e⟩ := be
  simp only at hrun hle
  obtain ⟨hle1, hle2⟩ := hle
  obtain ⟨G, hG⟩ : ∃ G : Nat → List Value, G = fun k => ((idxN (b, e) k).map (lab ws)).map sv := ⟨_, rfl⟩
  have HG := Lib.hid hG
  obtain ⟨N, hN⟩ : ∃ N : Nat → Nat, N = fun k => (idxN (b, e) k).length := ⟨_, rfl⟩
  have hNk : ∀ k, N k ≤ k := by intro k; rw [hN]; exact idxN_le _ k
  have hG0 : G 0 = [] := by rw [hG]; rfl
  have hN0 : N 0 = 0 := by rw [hN]; rfl
  have hGn : ∀ k o, idx1 (b, e) k = o → G (k + 1) = G k ++ (o.map (lab ws)).map sv ∧ N (k + 1) = N k + o.length := by
    intro k o ho
    rw [hG, hN]
    simp only
    rw [idxN_succ, ho]
    simp
  have HE : Hid (N 8 = ((idxN (b, e) 8).map (lab ws)).length ∧ G 8 = ((idxN (b, e) 8).map (lab ws)).map sv) := Lib.hid ⟨by rw [hN]; simp, by rw [hG]⟩
  have HRUN := Lib.hid hrun
  have HW := Lib.hid hword
  have HLT := Lib.hid hlt
  have HGN := Lib.hid hGn
  have HNK := Lib.hid hNk
  have HN0 := Lib.hid hN0
  have HG0 := Lib.hid hG0
  have HLL := Lib.hid hL
  clear hrun hword hlt hbody hrr hG hN hNk hG0 hN0 hGn h hL
  go_enter Tryz.func129, Tryz.ntmps129
  go_upto_region 4 with (go_at_call 148; refine (HRUN.out _).mono ?_; rintro e w1 ⟨rfl, q1, rfl⟩)
  have hb0 : Buf w.heap.size 9 w (.slice none 0 0) 0 [] (w.drewN q1) := (Buf.start w _).drewN q1
  go_loopw [3, 12] (fun v i wr => ∃ k : Nat, k ≤ 8 ∧ i = .int .i64 k ∧ Buf w.heap.size 9 w v (N k) (G k) wr) (fun _ i _ => 8 - (intOf i).toNat)
  case atStart => exact ⟨0, Nat.zero_le _, rfl, by rw [HN0.out, HG0.out]; exact hb0⟩
  case round =>
    obtain ⟨k, hk, rfl, hb⟩ := hrel
    have hnk := HNK.out k
    obtain ⟨D, cd, rfl, hd1, hd2, hd3⟩ := hb.slice
    by_cases hk8 : k < 8
    · have HLH := Lib.hid (HLL.out.below hb.below (Nat.le_refl _))
      have hxl := HLT.out k
      by_cases hin : k < b ∨ e ≤ k
      · have hG1 := HGN.out k [some k] (by unfold idx1; rw [if_pos hin])
        simp only [List.map_cons, List.map_nil, lab, List.length_cons, List.length_nil] at hG1
        have hwk := HW.out k hk8
        generalize ws.getD k 0 = x at hwk hxl hG1
        have hhx := fun w h => hex_any x hxl w h
        obtain ⟨S, hS⟩ : ∃ S : ByteArray, S = ⟨(hex x).toArray⟩ := ⟨_, rfl⟩
        have hS2 : sv (hex x) = .string S := by rw [hS]; rfl
        rw [hS2] at hG1 hhx
        have HG1 := Lib.hid hG1
        have HHX := Lib.hid hhx
        have HWK := Lib.hid hwk
        have hin2 : (k : Int) < b ∨ (¬ (k : Int) < b ∧ (e : Int) ≤ k) := by omega
        clear hG1 hhx hwk hS hS2 hin
        rcases hin2 with hin | ⟨hin1, hin2⟩
        all_goals
          go_wp2_with (go_at_call 150; refine (HWK.out _).mono ?_; rintro e w2 ⟨rfl, q2, rfl⟩; refine Hid.out ?_)
          refine Lib.hid ?_
          have hb2 := hb.drewN q2
          have HLH2 := Lib.hid (HLH.out.below (drewN_below _ q2) (Nat.le_refl _))
          go_wp2_with (go_at_call 149; refine (HHX.out _ HLH2.out).mono ?_; rintro e w1 ⟨rfl, hb1⟩; refine Hid.out ?_)
          refine Lib.hid ?_
          have hb3 := hb2.keep hb1 (Nat.le_refl _)
          go_wp2_with (at_builtin; go_loud (refine wpList_append_one rfl _ _ 63 rfl w.heap.size 9 i0 _ 16 Tryz.underlying63 hi hz0 hz1 hz2 rfl hb3 rfl rfl rfl ?c1 ?c2 ?_))
          case c1 => unfold maxLen; omega
          case c2 => omega
          intro v' w2 hb4
          go_wp2
          go_roundw
          case rel => exact ⟨k + 1, by omega, by go_num, by rw [HG1.out.1, HG1.out.2]; exact hb4⟩
          case measure => simp [intOf]; omega
      · by_cases hkb : k = b
        · have hG1 := HGN.out k [none] (by unfold idx1; rw [if_neg hin, if_pos hkb])
          simp only [List.map_cons, List.map_nil, lab, List.length_cons, List.length_nil] at hG1
          have HG1 := Lib.hid hG1
          have hzzS : sv zz = .string ⟨#[122, 122]⟩ := rfl
          rw [hzzS] at hG1
          have HG1 := Lib.hid hG1
          have i1 : ¬ (k : Int) < b := by omega
          have i2 : ¬ (e : Int) ≤ k := by omega
          have i3 : ((k : Int) == b) = true := by rw [beq_iff_eq]; omega
          clear hG1 hzzS hin hkb
          go_wp2_with (at_builtin; go_loud (refine wpList_append_one rfl _ _ 63 rfl w.heap.size 9 i0 _ 16 Tryz.underlying63 hi hz0 hz1 hz2 rfl hb rfl rfl rfl ?c1 ?c2 ?_))
          case c1 => unfold maxLen; omega
          case c2 => omega
          intro v' w2 hb4
          go_wp2
          go_roundw
          case rel => exact ⟨k + 1, by omega, by go_num, by rw [HG1.out.1, HG1.out.2]; exact hb4⟩
          case measure => simp [intOf]; omega
        · have hG1 := HGN.out k [] (by unfold idx1; rw [if_neg hin, if_neg hkb])
          simp only [List.map_nil, List.append_nil, List.length_nil, Nat.add_zero] at hG1
          have HG1 := Lib.hid hG1
          have i1 : ¬ (k : Int) < b := by omega
          have i2 : ¬ (e : Int) ≤ k := by omega
          have i3 : ((k : Int) == b) = false := by rw [beq_eq_false_iff_ne]; omega
          clear hG1 hin hkb
          go_wp2
          go_roundw
          case rel => exact ⟨k + 1, by omega, by go_num, by rw [HG1.out.1, HG1.out.2]; exact hb⟩
          case measure => simp [intOf]; omega
    · obtain rfl : k = 8 := by omega
      have HB := Lib.hid hb
      clear hb
      go_wp2
      go_ret
      exact ⟨_, rfl, by rw [← HE.out.1, ← HE.out.2]; exact HB.out⟩
end Go.Proofs.YtkdknfedieeenaaGreatDoor
