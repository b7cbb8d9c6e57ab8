/- Texts that walks stand on, one behind the other. -/
import Derived.Test.YtkdknfedieeenaaDoorOwnA
import Derived.Test.YtkdknfedieeenaaDoorOb
import Derived.Lib.AppendZerosOnto
import Derived.Test.YtkdknfedieeenaaDoorCs
import Derived.Test.YtkdknfedieeenaaDoorBase
import Derived.Maps.Own
import Derived.Test.YtkdknfedieeenaaDoorNameW
import Derived.Test.YtkdknfedieeenaaDoorReg2
import Derived.StillTailTactics
import Derived.Outline
import Derived.Test.YtkdknfedieeenaaDoorView
import Derived.Lib.SmallJoins
import Derived.Deep.Strs
namespace Go.Proofs.YtkdknfedieeenaaDoor
open Go.RowKit
set_option linter.unusedVariables false
set_option maxRecDepth 20000

theorem sv_one (l : List UInt8) : (sv l).oneCell' = true := rfl
set_option maxHeartbeats 4000000 in
theorem bytesL_any (a : ByteArray) (w : World) (ha : a.size ≤ 16) (hL : LaidT w) :
    Calls Tryd.prog 63 #[.string a] w fun e w' => ∃ v, e = .returned v ∧ Buf w.heap.size 9 w v a.size ((a.data.toList.map fun c => dec c.toNat).map sv) w' := by
  obtain ⟨i0, hi, hz0, hz1, hz2⟩ := info_parts str_info
  obtain ⟨G, hG⟩ : ∃ G : Nat → List Value, G = fun k => ((a.data.toList.take k).map fun c => dec c.toNat).map sv := ⟨_, rfl⟩
  have HG := Lib.hid hG
  have hG0 : G 0 = [] := by rw [hG]; rfl
  clear hG
  go_enter Tryd.func63, Tryd.ntmps63
  go_wp2_with fail
  go_loopw [3, 7] (fun v i wr => ∃ k : Nat, k ≤ a.size ∧ i = .int .i64 k ∧ Buf w.heap.size 9 w v k (G k) wr) (fun _ i _ => a.size - (intOf i).toNat)
  case atStart => exact ⟨0, Nat.zero_le _, rfl, by rw [hG0]; exact Buf.start _ _⟩
  case round =>
    obtain ⟨k, hk, rfl, hb⟩ := hrel
    obtain ⟨D, cd, rfl, hd1, hd2, hd3⟩ := hb.slice
    by_cases hlt : k < a.size
    · have hlt' : (k : Int) < a.size := by omega
      have htake : G (k + 1) = G k ++ [sv (dec a[k].toNat)] := by
        rw [HG.out]; simp only []
        rw [List.take_succ_eq_append_getElem (by simpa using hlt), List.map_append, List.map_append, toList_get a k hlt]; rfl
      have hit := fun w h => itoa_any a[k].toNat (a[k]).toNat_lt w h
      obtain ⟨S, hS⟩ : ∃ S : ByteArray, S = ⟨(dec a[k].toNat).toArray⟩ := ⟨_, rfl⟩
      have hS2 : sv (dec a[k].toNat) = .string S := by rw [hS]; rfl
      rw [hS2] at htake hit
      have h256 := (a[k]).toNat_lt
      have HT := Lib.hid htake
      have HI := Lib.hid hit
      have HL1 := hL.below hb.below (Nat.le_refl _)
      have HLH := Lib.hid HL1
      clear htake hit hS hS2 HL1
      go_wp2_with (go_at_call 65; refine (HI.out _ HLH.out).mono ?_; rintro e w1 ⟨rfl, hb1⟩; refine Hid.out ?_)
      refine Lib.hid ?_
      have hb2 := hb.keep hb1 (Nat.le_refl _)
      go_wp2_with (at_builtin; go_loud (refine wpList_append_one rfl _ _ 34 rfl w.heap.size 9 i0 _ 16 Tryd.underlying34 hi hz0 hz1 hz2 rfl hb2 rfl rfl rfl ?c1 ?c2 ?_))
      case c1 => unfold maxLen; omega
      case c2 => omega
      intro v' w2 hb3
      go_wp2
      go_roundw
      case rel => exact ⟨k + 1, by omega, by go_num, by rw [HT.out]; exact hb3⟩
      case measure => simp [intOf]; omega
    · obtain rfl : k = a.size := by omega
      have hGa : G a.size = (a.data.toList.map fun c => dec c.toNat).map sv := by rw [HG.out]; simp only []; rw [List.take_of_length_le (by simp)]
      rw [hGa] at hb
      have HB := Lib.hid hb
      clear hb hGa
      go_wp2
      go_ret
      exact ⟨_, rfl, HB.out⟩

theorem idxN_succ (be : Nat × Nat) (n : Nat) : idxN be (n + 1) = idxN be n ++ idx1 be n := by
  unfold idxN
  rw [List.range_succ, List.flatMap_append]; simp
theorem idxN_le (be : Nat × Nat) : ∀ n, (idxN be n).length ≤ n
  | 0 => by simp [idxN]
  | n + 1 => by
    rw [idxN_succ, List.length_append]
    have := idxN_le be n
    have h1 : (idx1 be n).length ≤ 1 := by
      unfold idx1
      split
      · simp
      · split <;> simp
    omega
set_option maxHeartbeats 4000000 in
theorem wordsLb_any (a : ByteArray) (ws : List Nat) (h : Six a ws) (w : World) (hL : LaidT w) :
    Calls Tryd.prog 64 #[.string a] w fun e w' => ∃ v, e = .returned v ∧ Buf w.heap.size 9 w v (body6 ws).length ((body6 ws).map sv) w' := by
  obtain ⟨i0, hi, hz0, hz1, hz2⟩ := info_parts str_info
  have hrun := fun w => longest_any a ws h w
  have hword := fun k hk w => word_any a ws k hk h w
  have hlt := fun k => h.lt k
  have hle := (runs_le (ws.map (· == 0)) (by simpa using h.len) 8 (Nat.le_refl _))
  have hbody : body6 ws = (idxN (runP (ws.map (· == 0))) 8).map (lab ws) := rfl
  have hrr : (List.range 8).foldl (runStep (ws.map (· == 0))) (0, 0) = runP (ws.map (· == 0)) := rfl
  rw [hrr] at hle
  rw [hbody]
  generalize runP (ws.map (· == 0)) = be at *
  obtain ⟨b, e⟩ := be
  simp only at hrun hle
  obtain ⟨hle1, hle2⟩ := hle
  obtain ⟨G, hG⟩ : ∃ G : Nat → List Value, G = fun k => ((idxN (b, e) k).map (lab ws)).map sv := ⟨_, rfl⟩
  have HG := Lib.hid hG
  obtain ⟨N, hN⟩ : ∃ N : Nat → Nat, N = fun k => (idxN (b, e) k).length := ⟨_, rfl⟩
  have hNk : ∀ k, N k ≤ k := by intro k; rw [hN]; exact idxN_le _ k
  have hG0 : G 0 = [] := by rw [hG]; rfl
  have hN0 : N 0 = 0 := by rw [hN]; rfl
  have hGn : ∀ k o, idx1 (b, e) k = o → G (k + 1) = G k ++ (o.map (lab ws)).map sv ∧ N (k + 1) = N k + o.length := by
    intro k o ho
    rw [hG, hN]
    simp only
    rw [idxN_succ, ho]
    simp
  have HE : Hid (N 8 = ((idxN (b, e) 8).map (lab ws)).length ∧ G 8 = ((idxN (b, e) 8).map (lab ws)).map sv) := Lib.hid ⟨by rw [hN]; simp, by rw [hG]⟩
  have HRUN := Lib.hid hrun
  have HW := Lib.hid hword
  have HLT := Lib.hid hlt
  have HGN := Lib.hid hGn
  have HNK := Lib.hid hNk
  have HN0 := Lib.hid hN0
  have HG0 := Lib.hid hG0
  have HLL := Lib.hid hL
  clear hrun hword hlt hbody hrr hG hN hNk hG0 hN0 hGn h hL
  go_enter Tryd.func64, Tryd.ntmps64
  go_upto_region 4 with (go_at_call 72; refine (HRUN.out _).mono ?_; rintro e w1 ⟨rfl, q1, rfl⟩)
  have hb0 : Buf w.heap.size 9 w (.slice none 0 0) 0 [] (w.drewN q1) := (Buf.start w _).drewN q1
  go_loopw [3, 12] (fun v i wr => ∃ k : Nat, k ≤ 8 ∧ i = .int .i64 k ∧ Buf w.heap.size 9 w v (N k) (G k) wr) (fun _ i _ => 8 - (intOf i).toNat)
  case atStart => exact ⟨0, Nat.zero_le _, rfl, by rw [HN0.out, HG0.out]; exact hb0⟩
  case round =>
    obtain ⟨k, hk, rfl, hb⟩ := hrel
    have hnk := HNK.out k
    obtain ⟨D, cd, rfl, hd1, hd2, hd3⟩ := hb.slice
    by_cases hk8 : k < 8
    · have HLH := Lib.hid (HLL.out.below hb.below (Nat.le_refl _))
      have hxl := HLT.out k
      by_cases hin : k < b ∨ e ≤ k
      · have hG1 := HGN.out k [some k] (by unfold idx1; rw [if_pos hin])
        simp only [List.map_cons, List.map_nil, lab, List.length_cons, List.length_nil] at hG1
        have hwk := HW.out k hk8
        generalize ws.getD k 0 = x at hwk hxl hG1
        have hhx := fun w h => hex_any x hxl w h
        obtain ⟨S, hS⟩ : ∃ S : ByteArray, S = ⟨(hex x).toArray⟩ := ⟨_, rfl⟩
        have hS2 : sv (hex x) = .string S := by rw [hS]; rfl
        rw [hS2] at hG1 hhx
        have HG1 := Lib.hid hG1
        have HHX := Lib.hid hhx
        have HWK := Lib.hid hwk
        have hin2 : (k : Int) < b ∨ (¬ (k : Int) < b ∧ (e : Int) ≤ k) := by omega
        clear hG1 hhx hwk hS hS2 hin
        rcases hin2 with hin | ⟨hin1, hin2⟩
        all_goals
          go_wp2_with (go_at_call 74; refine (HWK.out _).mono ?_; rintro e w2 ⟨rfl, q2, rfl⟩; refine Hid.out ?_)
          refine Lib.hid ?_
          have hb2 := hb.drewN q2
          have HLH2 := Lib.hid (HLH.out.below (drewN_below _ q2) (Nat.le_refl _))
          go_wp2_with (go_at_call 73; refine (HHX.out _ HLH2.out).mono ?_; rintro e w1 ⟨rfl, hb1⟩; refine Hid.out ?_)
          refine Lib.hid ?_
          have hb3 := hb2.keep hb1 (Nat.le_refl _)
          go_wp2_with (at_builtin; go_loud (refine wpList_append_one rfl _ _ 34 rfl w.heap.size 9 i0 _ 16 Tryd.underlying34 hi hz0 hz1 hz2 rfl hb3 rfl rfl rfl ?c1 ?c2 ?_))
          case c1 => unfold maxLen; omega
          case c2 => omega
          intro v' w2 hb4
          go_wp2
          go_roundw
          case rel => exact ⟨k + 1, by omega, by go_num, by rw [HG1.out.1, HG1.out.2]; exact hb4⟩
          case measure => simp [intOf]; omega
      · by_cases hkb : k = b
        · have hG1 := HGN.out k [none] (by unfold idx1; rw [if_neg hin, if_pos hkb])
          simp only [List.map_cons, List.map_nil, lab, List.length_cons, List.length_nil] at hG1
          have HG1 := Lib.hid hG1
          have hzzS : sv zz = .string ⟨#[122, 122]⟩ := rfl
          rw [hzzS] at hG1
          have HG1 := Lib.hid hG1
          have i1 : ¬ (k : Int) < b := by omega
          have i2 : ¬ (e : Int) ≤ k := by omega
          have i3 : ((k : Int) == b) = true := by rw [beq_iff_eq]; omega
          clear hG1 hzzS hin hkb
          go_wp2_with (at_builtin; go_loud (refine wpList_append_one rfl _ _ 34 rfl w.heap.size 9 i0 _ 16 Tryd.underlying34 hi hz0 hz1 hz2 rfl hb rfl rfl rfl ?c1 ?c2 ?_))
          case c1 => unfold maxLen; omega
          case c2 => omega
          intro v' w2 hb4
          go_wp2
          go_roundw
          case rel => exact ⟨k + 1, by omega, by go_num, by rw [HG1.out.1, HG1.out.2]; exact hb4⟩
          case measure => simp [intOf]; omega
        · have hG1 := HGN.out k [] (by unfold idx1; rw [if_neg hin, if_neg hkb])
          simp only [List.map_nil, List.append_nil, List.length_nil, Nat.add_zero] at hG1
          have HG1 := Lib.hid hG1
          have i1 : ¬ (k : Int) < b := by omega
          have i2 : ¬ (e : Int) ≤ k := by omega
          have i3 : ((k : Int) == b) = false := by rw [beq_eq_false_iff_ne]; omega
          clear hG1 hin hkb
          go_wp2
          go_roundw
          case rel => exact ⟨k + 1, by omega, by go_num, by rw [HG1.out.1, HG1.out.2]; exact hb⟩
          case measure => simp [intOf]; omega
    · obtain rfl : k = 8 := by omega
      have HB := Lib.hid hb
      clear hb
      go_wp2
      go_ret
      exact ⟨_, rfl, by rw [← HE.out.1, ← HE.out.2]; exact HB.out⟩
end Go.Proofs.YtkdknfedieeenaaDoor
namespace Go.Proofs.YtkdknfedieeenaaDoor
open Go.RowKit
set_option linter.unusedVariables false
set_option maxRecDepth 20000

theorem hasB_mayP (p : ByteArray) (bits : Int) : hasB p bits p = mayP p.data.toList bits := by
  unfold hasB mayP
  rw [show p.data.toList.length = p.size by simp]
theorem encStr_sv (ls : List (List UInt8)) : ls.map encStr = ls.map sv := by
  apply List.map_congr_left
  intro x _
  rfl
/-- A slice of strings that is turned round. -/
theorem OB.reversed {W w : World} {B n g c : Nat} {ls : List (List UInt8)} (h : OB B W (.slice (some ⟨g, 0, none⟩) n c) n (ls.map sv) w) (q : Nat) :
    OB B W (.slice (some ⟨g, 0, none⟩) n c) n (ls.reverse.map sv) ((w.drewN q).setCells g 0 (ls.reverse.map encStr)) := by
  have h0 : OB B W (.slice (some ⟨g, 0, none⟩) n c) n ([] ++ ls.map sv ++ []) (w.drewN q) := by simpa using h.drewN q
  have h1 := OB.sets (ls.reverse.map encStr) (ls.map sv) [] [] h0 (by simp)
  rw [encStr_sv] at h1 ⊢
  rw [List.append_nil, List.nil_append] at h1
  exact h1
theorem strsOf_ls (ls : List (List UInt8)) (n : Nat) (h : ls.length = n) : Lib.strsOf (fun i => ⟨(ls.getD i []).toArray⟩) n = ls := by
  unfold Lib.strsOf
  apply List.ext_getElem
  · simp [h]
  · intro i h1 h2
    simp [List.getD_eq_getElem?_getD, h2]

set_option maxHeartbeats 4000000 in
theorem prefix_any (p : ByteArray) (bits : Int) (w : World) (hp : p.size ≤ 140737488355328) (hL : LaidT w) :
    Calls Tryd.prog 54 #[.agg #[.string p, .int .i64 bits]] w fun e w' => ∃ v, e = .returned v ∧ OB w.heap.size w v (prefixR p.data.toList bits).length ((prefixR p.data.toList bits).map sv) w' := by
  obtain ⟨i0, hi, hz0, hz1, hz2⟩ := info_parts str_info
  have hmay := fun w => pmay_any p bits w hp
  rw [hasB_mayP] at hmay
  cases hm : mayP p.data.toList bits with
  | false =>
    have hr : prefixR p.data.toList bits = [] := by unfold prefixR; rw [if_neg (by rw [hm]; simp)]
    rw [hr]
    rw [hm] at hmay
    have HM := Lib.hid hmay
    clear hmay hm hr
    go_enter Tryd.func54, Tryd.ntmps54
    go_wp2_with (go_at_call 62; refine (HM.out _).mono ?_; rintro e w1 ⟨rfl, hb⟩)
    have hbel := below_alloc _ (Below.refl _ _) (Nat.le_refl _) hb
    go_wp2
    go_ret
    exact ⟨_, rfl, OB.nil hbel hbel.size⟩
  | true =>
    obtain ⟨h1, h2, h3⟩ := isCut_four (mayP_cut hm)
    rw [show p.data.toList.length = p.size by simp] at h1 h3
    obtain ⟨n, rfl⟩ := Int.eq_ofNat_of_zero_le h2
    have hbl := body_length p.data.toList (by simpa using h1)
    have hn : n < 256 := by rcases h1 with h1 | h1 <;> rw [h1] at h3 <;> omega
    have hr : prefixR p.data.toList n = (body p.data.toList ++ [dec n]).reverse := by
      unfold prefixR prefixL; rw [if_pos hm]; simp
    rw [hr]
    rw [hm] at hmay
    have HM := Lib.hid hmay
    obtain ⟨L, hLL⟩ : ∃ L, L = body p.data.toList := ⟨_, rfl⟩
    rw [← hLL] at hbl ⊢
    have hsix : p.size = 16 → Six p (wordsL p.data.toList) ∧ L = body6 (wordsL p.data.toList) := by
      intro h16
      refine ⟨⟨h16, rfl⟩, ?_⟩
      rw [hLL]; unfold body; rw [if_pos (by simpa using h16)]
    have hfour : p.size = 4 → L = p.data.toList.map fun c => dec c.toNat := by
      intro h4
      rw [hLL]; unfold body; rw [if_neg (by simp; omega)]
    have hit := fun w h => itoa_any n hn w h
    obtain ⟨S, hS⟩ : ∃ S : ByteArray, S = ⟨(dec n).toArray⟩ := ⟨_, rfl⟩
    have hS2 : sv (dec n) = .string S := by rw [hS]; rfl
    rw [hS2] at hit
    have HIT := Lib.hid hit
    have HS2 := Lib.hid hS2
    have HSIX := Lib.hid hsix
    have HFOUR := Lib.hid hfour
    have hbytes := fun w h => bytesL_any p w (by omega) h
    have HBY := Lib.hid hbytes
    obtain ⟨K, hK⟩ : ∃ K, K = L.length := ⟨_, rfl⟩
    have hK8 : K ≤ 8 := by omega
    have HK := Lib.hid hK
    have HLL := Lib.hid hL
    have hsz : p.size ≤ 16 := by omega
    have HD := Lib.hid h1
    clear hmay hm hr hLL hit hS hS2 hsix hfour hbytes hbl h1 h2 h3 hK hL
    go_enter Tryd.func54, Tryd.ntmps54
    go_wp2_with (go_at_call 62; refine (HM.out _).mono ?_; rintro e w1 ⟨rfl, hb⟩; refine Hid.out ?_)
    refine Lib.hid ?_
    have hbel := below_alloc _ (Below.refl w.heap.size w) (Nat.le_refl _) hb
    have c0 := hb.cell (p := ⟨w.heap.size, 0, none⟩) (by simp)
    have c1 := hb.cell (p := ⟨w.heap.size, 1, none⟩) (by simp)
    have hz := hb.size
    simp at c0 c1 hz
    have hz1 : w.heap.size < w1.heap.size := by omega
    have HL1 := Lib.hid (HLL.out.below hbel (Nat.le_refl _))
    clear hb hz HM
    go_upto_region 4 with (go_at_call 63; refine (HBY.out _ HL1.out).mono ?_; rintro e w2 ⟨v2, rfl, hb2⟩; refine Hid.out ?_)
    refine Lib.hid ?_
    have hb3 := hb2.out (C := w.heap.size) (W0 := w) (by omega) hbel
    have f0 := (hb2.below.cell (p := ⟨w.heap.size, 0, none⟩) hz1).trans c0
    have f1 := (hb2.below.cell (p := ⟨w.heap.size, 1, none⟩) hz1).trans c1
    have hz2' : w.heap.size < w2.heap.size := by have := hb2.below.size; omega
    have hz12 : w1.heap.size ≤ w2.heap.size := hb2.below.size
    have HB2 := Lib.hid hb2
    have HB3 := Lib.hid hb3
    clear hb2 hb3 c0 c1
    go_upto_if 13 with fail
    go_cut [3] (fun v wc => Buf w.heap.size 9 w v K (L.map sv) wc ∧ wc.cell? ⟨w.heap.size, 1, none⟩ = some (.int .i64 (n : Int)) ∧ w.heap.size < wc.heap.size)
    case first =>
      rcases HD.out with h4 | h16
      · have e4 : ((p.size : Int) == 16) = false := by rw [beq_eq_false_iff_ne]; omega
        have HF := Lib.hid (HFOUR.out h4)
        have H4 := Lib.hid h4
        clear h4
        go_wp2_with fail
        go_meet
        have hb := HB3.out
        rw [H4.out, ← HF.out, show (4 : Nat) = K by rw [HK.out, HF.out]; simp; exact H4.out.symm] at hb
        exact ⟨hb, f1, hz2'⟩
      · have e16 : ((p.size : Int) == 16) = true := by rw [beq_iff_eq]; omega
        obtain ⟨hs6, hL6⟩ := HSIX.out h16
        have hwl := fun w h => wordsLb_any p _ hs6 w h
        rw [← hL6] at hwl
        have HWL := Lib.hid hwl
        have HL2 := Lib.hid (HL1.out.below HB2.out.below (Nat.le_refl _))
        clear h16 hwl
        go_wp2_with (go_at_call 64; refine (HWL.out _ HL2.out).mono ?_; rintro e w3 ⟨v3, rfl, hb4⟩; refine Hid.out ?_)
        refine Lib.hid ?_
        have g1 := (hb4.below.cell (p := ⟨w.heap.size, 1, none⟩) hz2').trans f1
        have hz3 : w.heap.size < w3.heap.size := by have := hb4.below.size; omega
        have hb5 := hb4.out (C := w.heap.size) (W0 := w) (by omega) HB3.out.below
        rw [← HK.out] at hb5
        have HB5 := Lib.hid hb5
        clear hb4 hb5
        go_wp2_with fail
        go_meet
        exact ⟨HB5.out, g1, hz3⟩
    case rest =>
      obtain ⟨hb, k1, hz3⟩ := hcut
      have hl := hb.len
      have HL3 := Lib.hid (HLL.out.below hb.below (Nat.le_refl _))
      obtain ⟨D, cd, rfl, hd1, hd2, hd3⟩ := hb.slice
      have HL := Lib.hid hl
      clear hl f0 f1 HB2 HB3 hz2' hz12 HBY HSIX HFOUR HD hz1
      go_wp2_with (go_at_call 65; refine (HIT.out _ HL3.out).mono ?_; rintro e w4 ⟨rfl, hb6⟩; refine Hid.out ?_)
      refine Lib.hid ?_
      have hb7 := hb.keep hb6 (Nat.le_refl _)
      clear hb6
      go_wp2_with (at_builtin; go_loud (refine wpList_append_one rfl _ _ 34 rfl w.heap.size 9 i0 _ 16 Tryd.underlying34 hi hz0 hz1 hz2 rfl hb7 rfl rfl rfl ?c1 ?c2 ?_))
      case c1 => unfold maxLen; omega
      case c2 => omega
      intro v' w5 hb8
      have hls : L.map sv ++ [Value.string S] = (L ++ [dec n]).map sv := by rw [List.map_append, ← HS2.out]; rfl
      rw [hls] at hb8
      have hob := OB.of_buf hb8
      obtain ⟨A', c', rfl, hc1, hc2, (⟨_, h0, _⟩ | ⟨g, rfl, hg1, hg2⟩)⟩ := hob.slice3
      · omega
      have hcells := fun i (hi : i < K + 1) => hob.cell i (.string ⟨((L ++ [dec n]).getD i []).toArray⟩) (by
        rw [List.getElem?_map, List.getD_eq_getElem?_getD, List.getElem?_eq_getElem (by simp; rw [← HK.out]; exact hi)]; rfl)
      have hrev := Tryd.slices_Reverse_string_cells g 0 (K + 1) c' (fun i => ⟨((L ++ [dec n]).getD i []).toArray⟩) w5 (by omega) (fun i hi => by rw [Nat.zero_add]; exact hcells i hi) (fun j hj => by rw [Nat.zero_add]; exact hob.frozen j (by omega))
      rw [strsOf_ls (L ++ [dec n]) (K + 1) (by simp [← HK.out])] at hrev
      obtain ⟨RV, hRV⟩ : ∃ RV, RV = (L ++ [dec n]).reverse.map encStr := ⟨_, rfl⟩
      rw [← hRV] at hrev
      have HRV := Lib.hid hRV
      clear hRV
      have HREV := Lib.hid hrev
      have HOB := Lib.hid hob
      clear hrev hob hcells hb8 hls hb hb7
      go_wp2_with (go_at_call 49; refine HREV.out.mono ?_; rintro e w6 ⟨rfl, q, rfl⟩)
      go_ret
      refine ⟨_, rfl, ?_⟩
      have hfin := HOB.out.reversed q
      rw [← HRV.out] at hfin
      rw [show (L ++ [dec n]).reverse.length = K + 1 by simp [← HK.out]]
      exact hfin
end Go.Proofs.YtkdknfedieeenaaDoor
namespace Go.Proofs.YtkdknfedieeenaaDoor
open Go.RowKit
set_option linter.unusedVariables false

theorem zeroCells_one (z : Value) (m : Nat) : (Builtin.zeroCells #[z] m).toList = List.replicate m z := by
  apply List.ext_getElem
  · simp [Builtin.zeroCells]
  · intro i h1 h2
    simp [Builtin.zeroCells, Nat.mod_one]
theorem run_append_room_zeros {P : Program} (w : World) (t tn ty e : TypeId) (i : TypeInfo) (z : Value) (k kn : IntKind) (ht : P.underlying t = some (.slice e)) (htn : P.underlying tn = some (.int kn)) (hi : P.info? e = some i) (hz : i.zero = some z) (h1 : i.size = 1) (hzc : z.cells = #[z])
    (b sLen sCap m : Nat) (hm : 0 < m) (hroom : sLen + m ≤ sCap) (h63 : (m : Int) ≤ 9223372036854775807) (h48 : m * i.bytes ≤ 281474976710656) (hz1 : z.oneCell' = true)
    (hc : ∀ j, j < m → (w.cell? ⟨b, sLen + j, none⟩).isSome = true) (hf : ∀ j, j < m → w.frozen? ⟨b, sLen + j, none⟩ = false) :
    (Builtin.append_ #[t, tn] ty #[.slice (some ⟨b, 0, none⟩) sLen sCap, .int k m]).run P w = .ok (.slice (some ⟨b, 0, none⟩) (sLen + m) sCap) (w.setCells b sLen (List.replicate m z)) := by
  have hw : IntKind.i64.wrap (m : Int) = m := by rw [IntKind.wrap_i64]; omega
  have h48i : ¬ (281474976710656 < (m : Int) * (i.bytes : Int)) := by
    rw [← Int.natCast_mul]
    omega
  have hneg : ¬ ((m : Int) < 0) := by omega
  have hm0 : m ≠ 0 := by omega
  have hst := run_storeCells_cells (P := P) b sLen (List.replicate m z) 0 w (by simpa using hc) (by simpa using hf) (by intro v hv; rw [List.eq_of_mem_replicate hv]; exact hz1)
  simp only [Nat.add_zero] at hst
  have hzz : Builtin.zeroCells z.cells m = (List.replicate m z).toArray := by rw [hzc]; apply Array.ext'; rw [zeroCells_one]
  simp [Builtin.append_, run_underlying ht, run_underlying htn, sizeOf, typeInfo, zeroValue, hi, hz, asInt, asIntOf, hw, hneg, hm0, h48i, h1, hroom, Addr.add_lit, hzz, hst]

theorem run_append_zeros_ob {P : Program} {B : Nat} {W w : World} {v : Value} {n : Nat} {l : List Value} (t tn ty e : TypeId) (i : TypeInfo) (z : Value) (bytes : Nat) (k kn : IntKind) (ht : P.underlying t = some (.slice e)) (htn : P.underlying tn = some (.int kn)) (hi : P.info? e = some i) (hz : i.zero = some z)
    (hsize : i.size = 1) (hby : i.bytes = bytes) (hzc : z.cells = #[z]) (hz1 : z.oneCell' = true) (h : OB B W v n l w) (m : Nat) (hm : 0 < m) (h63 : n + m ≤ maxLen) (hbytes : (n + m) * bytes ≤ 140737488355328) :
    ∃ v' w', (Builtin.append_ #[t, tn] ty #[v, .int k m]).run P w = .ok v' w' ∧ OB B W v' (n + m) (l ++ List.replicate m z) w' ∧ w.heap.size ≤ w'.heap.size ∧ (∀ k, k < w.heap.size → some k ≠ v.ownBlock → w'.heap[k]? = w.heap[k]?) ∧
      (v'.ownBlock = v.ownBlock ∨ v'.ownBlock = some w.heap.size) := by
  have hzs : z.cells.size = 1 := by rw [hzc]; rfl
  have hll : (l ++ List.replicate m z).length = n + m := by rw [List.length_append, h.len]; simp
  have h63' : ((n + m : Nat) : Int) ≤ 9223372036854775807 := by unfold maxLen at h63; omega
  have hmb : m * i.bytes ≤ 281474976710656 := by rw [hby]; have : m * bytes ≤ (n + m) * bytes := Nat.mul_le_mul_right _ (by omega); omega
  have hzz : Builtin.zeroCells z.cells m = (List.replicate m z).toArray := by rw [hzc]; apply Array.ext'; rw [zeroCells_one]
  have grow : ∀ (base : Option Addr) (c : Nat), v = .slice base n c → c < n + m → (Builtin.firstCells i.size n (.slice base n c)).run P w.drew = .ok l.toArray w.drew →
      ∃ v' w', (Builtin.append_ #[t, tn] ty #[v, .int k m]).run P w = .ok v' w' ∧ OB B W v' (n + m) (l ++ List.replicate m z) w' ∧ w.heap.size ≤ w'.heap.size ∧ (∀ k, k < w.heap.size → some k ≠ v.ownBlock → w'.heap[k]? = w.heap[k]?) ∧
        (v'.ownBlock = v.ownBlock ∨ v'.ownBlock = some w.heap.size) := by
    intro base c hv hc hold
    have hfit : Builtin.nextslicecap (n + m) c * i.bytes ≤ 281474976710656 := growslice_fits hc (by rw [hby]; exact hbytes)
    have hr := Lib.run_append_grow_zeros (P := P) w t tn ty e i z k kn ht htn hi hz base n c l hold m hm (by omega) hc h63' hmb hfit
    have hge := grownCap_ge w (n + m) c e
    have hcm := grownCap_le_maxLen w (n + m) c e h63
    rw [← hv, hzz] at hr
    rw [show l.toArray ++ (List.replicate m z).toArray = (l ++ List.replicate m z).toArray by simp] at hr
    generalize grownCap w (n + m) c e = K at *
    generalize List.replicate m z = news at *
    have hsz : ((l ++ news).toArray ++ Builtin.zeroCells z.cells (K - (n + m))).size = K := by
      rw [Array.size_append, List.size_toArray, hll, size_zeroCells, hzs]; omega
    refine ⟨_, _, hr, ⟨(h.bel.drew).alloc h.base _, by have := h.base; simp; omega, hll, .inr ⟨w.heap.size, K, rfl, h.base, by simp, hge, hcm, fun j hj => ?_, fun j u hu => ?_⟩⟩, by simp, fun k hk _ => Below.heap_alloc w.drew _ k hk, .inr rfl⟩
    · have hg : (w.drew.alloc (.cells ((l ++ news).toArray ++ Builtin.zeroCells z.cells (K - (n + m))) e)).heap[w.heap.size]? = some (.cells ((l ++ news).toArray ++ Builtin.zeroCells z.cells (K - (n + m))) e (0, 0)) := heap_alloc_new w.drew _
      refine ⟨?_, frozen_of_row _ _ j _ e hg⟩
      rw [cell_of_row _ _ j _ e (0, 0) hg, Array.getElem?_eq_getElem (by rw [hsz]; exact hj)]; rfl
    · have hg : (w.drew.alloc (.cells ((l ++ news).toArray ++ Builtin.zeroCells z.cells (K - (n + m))) e)).heap[w.heap.size]? = some (.cells ((l ++ news).toArray ++ Builtin.zeroCells z.cells (K - (n + m))) e (0, 0)) := heap_alloc_new w.drew _
      have hj := (List.getElem?_eq_some_iff.1 hu).1
      rw [cell_of_row _ _ j _ e (0, 0) hg, Array.getElem?_append_left (by simpa using hj)]
      rw [List.getElem?_toArray]; exact hu
  rcases h.own with ⟨rfl, rfl⟩ | ⟨g, cap, rfl, h1, h2, h3, h4, h5, h6⟩
  · have hx : l = [] := List.eq_nil_of_length_eq_zero h.len
    subst hx
    exact grow none 0 rfl (by omega) (run_firstCells_none w.drew i.size 0 0 0)
  · by_cases hroom : n + m ≤ cap
    · have hr := run_append_room_zeros (P := P) w t tn ty e i z k kn ht htn hi hz hsize hzc g n cap m hm hroom (by unfold maxLen at h63; omega) hmb hz1
        (fun j hj => (h5 _ (by omega)).1) (fun j hj => (h5 _ (by omega)).2)
      have hnl : (List.replicate m z).length = m := by simp
      generalize List.replicate m z = news at *
      obtain ⟨k1, k2⟩ := setCells_heap w g news n
      have hin : ∀ j, j < news.length → (w.cell? ⟨g, n + j, none⟩).isSome = true := fun j hj => (h5 _ (by omega)).1
      have hcell : ∀ j, j < cap → (j < n ∨ n + news.length ≤ j → (w.setCells g n news).cell? ⟨g, j, none⟩ = w.cell? ⟨g, j, none⟩) := fun j hj hout => World.cell?_setCells_out g news n w ⟨g, j, none⟩ (fun _ _ => hout)
      refine ⟨_, _, hr, ⟨below_setCells' h1 news n h.bel, by rw [k1]; exact h.base, hll, .inr ⟨g, cap, rfl, h1, by rw [k1]; exact h2, hroom, h4, fun j hj => ?_, fun j u hu => ?_⟩⟩, by rw [k1]; exact Nat.le_refl _, fun k hk hne => k2 k (fun e => hne (by rw [e]; rfl)), .inl rfl⟩
      · refine ⟨?_, by rw [World.frozen?_setCells]; exact (h5 j hj).2⟩
        by_cases hj1 : j < n ∨ n + news.length ≤ j
        · rw [hcell j hj hj1]; exact (h5 j hj).1
        · have := World.cell?_setCells_in g news n w hin (j - n) (by omega)
          rw [show n + (j - n) = j by omega] at this
          rw [this]; rfl
      · rw [List.getElem?_append] at hu
        split at hu
        · rename_i hjl
          rw [h.len] at hjl
          rw [hcell j (by omega) (.inl hjl)]
          exact h6 j u hu
        · rename_i hjl
          rw [h.len] at hu hjl
          obtain ⟨hj2, rfl⟩ := List.getElem?_eq_some_iff.1 hu
          have := World.cell?_setCells_in g news n w hin (j - n) hj2
          rwa [show n + (j - n) = j by omega] at this
    · refine grow _ cap rfl (by omega) (run_firstCells_some w.drew i.size n ⟨g, 0, none⟩ n cap l (by rw [hsize, Nat.mul_one]; exact h.len) (fun j u hu => ?_))
      rw [Addr.add_lit, Nat.zero_add]
      exact h6 j u hu
theorem wpList_append_zeros {P : Program} {ops : Array Oper} {rest : List Oper} {o : Oper} {a : Act} {Q : Exit → Act → World → Prop} {w : World} (hgd : Region.wanted o (yielded ops a.tmps) = true) (s x : Operand) (t tn : TypeId)
    (ho : o.op = .call { callee := .builtin .append, args := #[s, x], argTypes := #[t, tn] })
    (e : TypeId) (i : TypeInfo) (z : Value) (bytes : Nat) (k kn : IntKind) (ht : P.underlying t = some (.slice e)) (htn : P.underlying tn = some (.int kn)) (hi : P.info? e = some i) (hz : i.zero = some z) (hsize : i.size = 1) (hby : i.bytes = bytes) (hzc : z.cells = #[z]) (hz1 : z.oneCell' = true)
    {B : Nat} {v : Value} {n : Nat} {l : List Value} {W : World} (hb : OB B W v n l w) (hs : a.eval s = v) {m : Nat} (hx : a.eval x = .int k m) (hm : 0 < m)
    (hlen : n + m ≤ maxLen) (hbytes : (n + m) * bytes ≤ 140737488355328)
    (h : ∀ v' w', OB B W v' (n + m) (l ++ List.replicate m z) w' → w.heap.size ≤ w'.heap.size → (∀ k, k < w.heap.size → some k ≠ v.ownBlock → w'.heap[k]? = w.heap[k]?) → (v'.ownBlock = v.ownBlock ∨ v'.ownBlock = some w.heap.size) → wpList P ops Q rest (a.put o.dst v') w') :
    wpList P ops Q (o :: rest) a w := by
  obtain ⟨v', w', hr, h1, h2, h3, h4⟩ := run_append_zeros_ob (P := P) t tn o.type e i z bytes k kn ht htn hi hz hsize hby hzc hz1 hb m hm hlen hbytes
  refine wpList_step fun K hK => ?_
  rw [if_pos hgd]
  unfold Oper.wp execOp
  simp only [ho, resolve, invoke, builtin, Sem.run_bind, Sem.run_pure, Result.andThen_ok, List.map_toArray, List.map_cons, List.map_nil, hs, hx, hr]
  exact hK _ _ (h v' w' h1 h2 h3 h4)
end Go.Proofs.YtkdknfedieeenaaDoor
namespace Go.Proofs.YtkdknfedieeenaaDoor
open Go.RowKit
set_option linter.unusedVariables false
set_option maxRecDepth 20000

theorem parseM_le (M : Nat) : ∀ (l : List UInt8) (acc n : Nat), acc ≤ M → Lib.parseUintM M acc l = .ok n → n ≤ M
  | [], acc, n, h, e => by
    simp only [Lib.parseUintM, Lib.NumEnd.ok.injEq] at e
    omega
  | c :: r, acc, n, h, e => by
    simp only [Lib.parseUintM] at e
    repeat' split at e
    all_goals first | (cases e; done) | exact parseM_le M r _ n (by omega) e
theorem puM_le (M : Nat) : ∀ (l : List UInt8) (acc n : Nat), acc ≤ M → puM M acc l = .ok n → n ≤ M
  | [], acc, n, h, e => by
    simp only [puM, Lib.NumEnd.ok.injEq] at e
    omega
  | c :: r, acc, n, h, e => by
    simp only [puM] at e
    repeat' split at e
    all_goals first | (cases e; done) | exact puM_le M r _ n (by omega) e
theorem val8_le (l : List UInt8) : val8 l ≤ 255 := by
  unfold val8 pu10 Lib.parseUintB
  split
  · exact Nat.zero_le _
  · rcases h : Lib.parseUintM (2 ^ 8 - 1) 0 l with n | _ | _
    · exact parseM_le _ l 0 n (by omega) h
    · exact Nat.zero_le _
    · exact Nat.le_refl _
theorem val16_le (l : List UInt8) : val16 l ≤ 65535 := by
  unfold val16 pu16
  split
  · exact Nat.zero_le _
  · rcases h : puM 65535 0 l with n | _ | _
    · exact puM_le _ l 0 n (by omega) h
    · exact Nat.zero_le _
    · exact Nat.le_refl _
theorem byte_wrap (n : Nat) : Value.int .u8 ((n : Int) % 256) = bv (UInt8.ofNat n) := by
  unfold bv
  rw [UInt8.toNat_ofNat']
  rfl

set_option maxHeartbeats 4000000 in
theorem plain_any (A : Option Addr) (n c : Nat) (ts : List ByteArray) (w : World) (hA : Sl w w.heap.size 1 A n (ts.map .string)) (hsz : ∀ t ∈ ts, t.size ≤ 281474976710656) (hn : n ≤ 16) (hL : LaidT w) :
    Calls Tryd.prog 52 #[.slice A n c] w fun e w' => e = .returned (sv (plainBytesR (bytesOf ts))) ∧ Below w.heap.size w w' := by
  obtain ⟨i0, hi, hz0, hz1, hz2⟩ := info_parts byte_info
  have hts : ts.length = n := by simpa using hA.1
  obtain ⟨G, hG⟩ : ∃ G : Nat → List UInt8, G = fun k => plainBytesR ((bytesOf ts).take k) := ⟨_, rfl⟩
  have hG0 : G 0 = [] := by rw [hG]; rfl
  have hGn : ∀ k (h : k < ts.length), G (k + 1) = G k ++ [UInt8.ofNat (val8 (ts[k]).data.toList)] := by
    intro k h
    rw [hG]; simp only
    rw [List.take_succ_eq_append_getElem (by rw [bytesOf_length]; exact h), bytesOf_get ts k h]
    unfold plainBytesR
    rw [List.map_append]; rfl
  have hGa : G n = plainBytesR (bytesOf ts) := by
    rw [hG]; simp only
    rw [List.take_of_length_le (by rw [bytesOf_length]; omega)]
  rw [← hGa]
  have HGN := Lib.hid hGn
  have HLL := Lib.hid hL
  have HG0 := Lib.hid hG0
  clear hG hGn hGa hL hG0
  go_enter Tryd.func52, Tryd.ntmps52
  go_wp2_with fail
  go_loopw [3, 10] (fun v i wr => ∃ k : Nat, k ≤ n ∧ i = .int .i64 k ∧ Buf w.heap.size 5 w v k ((G k).map bv) wr) (fun _ i _ => n - (intOf i).toNat)
  case atStart => exact ⟨0, Nat.zero_le _, rfl, by rw [HG0.out]; exact Buf.start _ _⟩
  case round =>
    obtain ⟨k, hk, rfl, hb⟩ := hrel
    obtain ⟨D, cd, rfl, hd1, hd2, hd3⟩ := hb.slice
    by_cases hlt : k < n
    · obtain ⟨b, off, u, rfl, hbb, hu, hc⟩ := hA.at_ hlt
      have hkl : k < ts.length := by omega
      have hzk := hsz ts[k] (List.getElem_mem hkl)
      have hcell : wr.cell? ⟨b, off + k, none⟩ = some (.string ts[k]) := by
        rw [hb.below.cell hbb, hc]
        simp only [List.getElem?_map, List.getElem?_eq_getElem hkl, Option.map_some] at hu
        exact hu.symm
      have hlt' : (k : Int) < n := by omega
      have hg := HGN.out k hkl
      generalize ts[k] = t at *
      have hpu := fun w h => pu10_any t hzk w h
      have hv := val8_le t.data.toList
      generalize val8 t.data.toList = x at *
      have hwx : IntKind.u8.wrap (x : Int) = x := by rw [IntKind.wrap_u8]; omega
      have hbx := byte_val x (by omega)
      have HG := Lib.hid hg
      have HPU := Lib.hid hpu
      have HBX := Lib.hid hbx
      have HLH := Lib.hid (HLL.out.below hb.below (Nat.le_refl _))
      clear hc hu hg hpu hzk hbx
      go_wp2_with (go_at_call 60; refine (HPU.out _ HLH.out).mono ?_; rintro e w1 ⟨er, rfl, hb1⟩; refine Hid.out ?_)
      refine Lib.hid ?_
      have hb2 := hb.keep hb1 (Nat.le_refl _)
      go_wp2_with (at_builtin; go_loud (refine wpList_append_one rfl _ _ 22 rfl w.heap.size 5 i0 _ 1 Tryd.underlying22 hi hz0 hz1 hz2 rfl hb2 rfl rfl rfl ?c1 ?c2 ?_))
      case c1 => unfold maxLen; omega
      case c2 => omega
      intro v' w2 hb3
      go_wp2
      go_roundw
      case rel => exact ⟨k + 1, by omega, by go_num, by rw [HG.out, List.map_append, List.map_cons, List.map_nil, ← HBX.out]; exact hb3⟩
      case measure => simp [intOf]; omega
    · obtain rfl : k = n := by omega
      have hlt' : ¬ (k : Int) < k := by omega
      have hb' := hb.below
      have hcv := run_string_of (P := Tryd.prog) wr 22 9 5 _ D k (G k) Tryd.underlying22 Tryd.underlying5 Tryd.underlying9 hb.sl (fun h => (hd3 h).1) cd
      obtain ⟨C, eC⟩ : ∃ C : ByteArray, C = ⟨(G k).toArray⟩ := ⟨_, rfl⟩
      rw [← eC] at hcv
      have EC := Lib.hid eC
      have HB := Lib.hid hb'
      clear eC hb hb'
      go_wp2
      go_ret
      exact ⟨by rw [EC.out]; rfl, HB.out⟩

set_option maxHeartbeats 4000000 in
theorem wordB_any (A : Option Addr) (n c : Nat) (ts : List ByteArray) (w : World) (hA : Sl w w.heap.size 1 A n (ts.map .string)) (hsz : ∀ t ∈ ts, t.size ≤ 281474976710656) (hn : n ≤ 8) (hL : LaidT w) :
    Calls Tryd.prog 50 #[.slice A n c] w fun e w' => e = .returned (sv (wordBytesR (bytesOf ts))) ∧ Below w.heap.size w w' := by
  obtain ⟨i0, hi, hz0, hz1, hz2⟩ := info_parts byte_info
  have hts : ts.length = n := by simpa using hA.1
  obtain ⟨M, hM⟩ : ∃ M, M = 2 * (9 - n) := ⟨_, rfl⟩
  have hM0 : 2 ≤ M ∧ M ≤ 18 := by omega
  obtain ⟨g, hg⟩ : ∃ g : List UInt8 → List UInt8, g = fun s => if s = zz then List.replicate M 0 else unword (val16 s) := ⟨_, rfl⟩
  obtain ⟨G, hG⟩ : ∃ G : Nat → List UInt8, G = fun k => ((bytesOf ts).take k).flatMap g := ⟨_, rfl⟩
  have hG0 : G 0 = [] := by rw [hG]; rfl
  have hGn : ∀ k (h : k < ts.length), G (k + 1) = G k ++ g (ts[k]).data.toList := by
    intro k h
    rw [hG]; simp only
    rw [List.take_succ_eq_append_getElem (by rw [bytesOf_length]; exact h), bytesOf_get ts k h, List.flatMap_append]
    simp
  have hGa : G n = wordBytesR (bytesOf ts) := by
    rw [hG]; simp only
    rw [List.take_of_length_le (by rw [bytesOf_length]; omega)]
    unfold wordBytesR
    rw [bytesOf_length, hts, hg, hM]
  have hlen : ∀ k, k ≤ n → (G k).length ≤ 18 * k := by
    intro k hk
    induction k with
    | zero => rw [hG0]; simp
    | succ k ih =>
      rw [hGn k (by omega), List.length_append]
      have := ih (by omega)
      have : (g (ts[k]).data.toList).length ≤ 18 := by
        rw [hg]; simp only
        split
        · simp; omega
        · simp [unword]
      omega
  rw [← hGa]
  have hgz : g zz = List.replicate M 0 := by rw [hg]; simp
  have hgx : ∀ s, s ≠ zz → g s = unword (val16 s) := by intro s h; rw [hg]; simp [h]
  have hMi : (2 : Int) * (9 - (n : Int)) = M := by omega
  have hMw : (9 : Int) - (n : Int) ≤ 9 := by omega
  have HGN := Lib.hid hGn
  have HLL := Lib.hid hL
  have HG0 := Lib.hid hG0
  have HLEN := Lib.hid hlen
  have HGZ := Lib.hid hgz
  have HGX := Lib.hid hgx
  clear hG hGn hGa hL hG0 hlen hg hgz hgx hM
  go_enter Tryd.func50, Tryd.ntmps50
  go_wp2_with fail
  go_loopw [3, 10] (fun v i wr => ∃ k : Nat, k ≤ n ∧ i = .int .i64 k ∧ OB w.heap.size w v (G k).length ((G k).map bv) wr) (fun _ i _ => n - (intOf i).toNat)
  case atStart => exact ⟨0, Nat.zero_le _, rfl, by rw [HG0.out]; exact OB.start _⟩
  case round =>
    obtain ⟨k, hk, rfl, hb⟩ := hrel
    obtain ⟨D, cd, rfl, hd1, hd2, hd3⟩ := hb.slice
    have hgl := HLEN.out k hk
    by_cases hlt : k < n
    · obtain ⟨b, off, u, rfl, hbb, hu, hc⟩ := hA.at_ hlt
      have hkl : k < ts.length := by omega
      have hzk := hsz ts[k] (List.getElem_mem hkl)
      have hcell : wr.cell? ⟨b, off + k, none⟩ = some (.string ts[k]) := by
        rw [hb.bel.cell hbb, hc]
        simp only [List.getElem?_map, List.getElem?_eq_getElem hkl, Option.map_some] at hu
        exact hu.symm
      have hlt' : (k : Int) < n := by omega
      have hg := HGN.out k hkl
      generalize ts[k] = t at *
      obtain ⟨Lk, hLk⟩ : ∃ Lk, Lk = (G k).length := ⟨_, rfl⟩
      rw [← hLk] at hb hgl ⊢
      clear hc hu
      by_cases hzt : t.data.toList = zz
      · have heq : (t.toList == [122, 122]) = true := by rw [str_is, hzt]; rfl
        rw [hzt, HGZ.out] at hg
        have hglen : (G (k + 1)).length = Lk + M := by rw [hg, List.length_append, ← hLk]; simp
        have hgmap : (G (k + 1)).map bv = (G k).map bv ++ List.replicate M (.int .u8 0) := by rw [hg, List.map_append]; simp [bv]
        have HGL := Lib.hid hglen
        have HGM := Lib.hid hgmap
        clear hg hzt hglen hgmap hLk hzk
        go_wp2_with (at_builtin; go_loud (refine wpList_append_zeros rfl _ _ 22 3 rfl 5 i0 (.int .u8 0) 1 .i64 .i64 Tryd.underlying22 Tryd.underlying3 hi hz0 hz1 hz2 rfl rfl hb rfl (m := M) rfl (by omega) (by unfold maxLen; omega) (by omega) ?_))
        intro v' w2 hb3 _ _ _
        go_wp2
        go_roundw
        case rel => exact ⟨k + 1, by omega, by go_num, by rw [HGL.out, HGM.out]; exact hb3⟩
        case measure => simp [intOf]; omega
      · have heq : (t.toList == [122, 122]) = false := by rw [str_is, beq_eq_false_iff_ne]; exact hzt
        rw [HGX.out _ hzt] at hg
        have hpu := fun w h => pu16_any t hzk w h
        have hv := val16_le t.data.toList
        generalize val16 t.data.toList = x at *
        obtain ⟨q, hq⟩ : ∃ q, q = x / 256 := ⟨_, rfl⟩
        have hdq : (x : Int) / 256 = q := by omega
        have hwq : IntKind.u8.wrap (q : Int) = q := by rw [IntKind.wrap_u8]; omega
        have hwx : IntKind.u8.wrap (x : Int) = (x : Int) % 256 := by rw [IntKind.wrap_u8]
        have hglen : (G (k + 1)).length = Lk + 2 := by rw [hg, List.length_append, ← hLk]; rfl
        have hgmap : (G (k + 1)).map bv = (G k).map bv ++ [.int .u8 q, .int .u8 ((x : Int) % 256)] := by
          rw [hg, List.map_append, unword, ← hq, byte_wrap, byte_val q (by omega)]; rfl
        have HGL := Lib.hid hglen
        have HGM := Lib.hid hgmap
        have HPU := Lib.hid hpu
        have HLH := Lib.hid (HLL.out.below hb.bel (Nat.le_refl _))
        clear hg hzt hglen hgmap hLk hzk hpu hq
        go_wp2_with (go_at_call 60; refine (HPU.out _ HLH.out).mono ?_; rintro e w1 ⟨er, rfl, hb1⟩; refine Hid.out ?_)
        refine Lib.hid ?_
        have hb2 := hb.keep hb1 (Nat.le_refl _)
        go_wp2_with (at_builtin; go_loud (refine wpList_append_ob rfl _ _ 22 22 rfl 5 i0 (.int .u8 0) 1 Tryd.underlying22 hi hz0 hz1 hz2 rfl (hb2.alloc _) rfl rfl (Src.ofSlice _ Tryd.underlying22 ⟨w1.heap.size, 0, none⟩ 2 2 [.int .u8 q, .int .u8 ((x : Int) % 256)] rfl (news_at w1 _ _) (by intro u hu; simp at hu; rcases hu with rfl | rfl <;> rfl)) ?c1 ?c2 ?_))
        case c1 => unfold maxLen; omega
        case c2 => omega
        intro v' w2 hb3 _ _ _
        go_wp2
        go_roundw
        case rel => exact ⟨k + 1, by omega, by go_num, by rw [HGL.out, HGM.out]; exact hb3⟩
        case measure => simp [intOf]; omega
    · obtain rfl : k = n := by omega
      have hlt' : ¬ (k : Int) < k := by omega
      have hb' := hb.bel
      have hcv := run_string_of (P := Tryd.prog) wr 22 9 5 _ D (G k).length (G k) Tryd.underlying22 Tryd.underlying5 Tryd.underlying9 hb.sl (fun h => (hd3 h).1) cd
      obtain ⟨C, eC⟩ : ∃ C : ByteArray, C = ⟨(G k).toArray⟩ := ⟨_, rfl⟩
      rw [← eC] at hcv
      have EC := Lib.hid eC
      have HB := Lib.hid hb'
      generalize (G k).length = Lk at *
      clear eC hb hb'
      go_wp2
      go_ret
      exact ⟨by rw [EC.out]; rfl, HB.out⟩
end Go.Proofs.YtkdknfedieeenaaDoor
namespace Go.Proofs.YtkdknfedieeenaaDoor
open Go.RowKit
set_option linter.unusedVariables false
set_option maxRecDepth 20000

def baL (l : List UInt8) : ByteArray := ⟨l.toArray⟩
theorem baL_inj {a b : List UInt8} (h : baL a = baL b) : a = b := by
  have := congrArg (fun x => x.data.toList) h
  simpa [baL] using this
theorem map_baL_inj {X Y : List (List UInt8)} (h : X.map baL = Y.map baL) : X = Y := (List.map_inj_right (fun _ _ => baL_inj)).1 h
theorem getD_baL {X : List (List UInt8)} {j : Nat} (h : j < X.length) : (X.map baL).getD j ByteArray.empty = baL X[j] := by
  simp [List.getD_eq_getElem?_getD, h]
theorem Sl.strs {w : World} {B n : Nat} {A : Option Addr} {X : List (List UInt8)} (h : Sl w B 1 A n (X.map sv)) (hn : 0 < n) : ∃ b off, A = some ⟨b, off, none⟩ ∧ b < B ∧ X.length = n ∧ ∀ j, j < (X.map baL).length → w.cell? ⟨b, off + j, none⟩ = some (.string ((X.map baL).getD j ByteArray.empty)) := by
  have hl : X.length = n := by simpa using h.1
  obtain ⟨b, off, e, hb, hc⟩ := h.2 hn
  refine ⟨b, off, e, hb, hl, fun j hj => ?_⟩
  have hj' : j < X.length := by simpa using hj
  rw [getD_baL hj']
  exact hc j _ (by rw [List.getElem?_map, List.getElem?_eq_getElem hj']; rfl)
theorem Sl.strs_len {w : World} {B n : Nat} {A : Option Addr} {X : List (List UInt8)} (h : Sl w B 1 A n (X.map sv)) : X.length = n := by simpa using h.1
theorem strings_sv (ts : List ByteArray) : ts.map Value.string = (bytesOf ts).map sv := by
  unfold bytesOf
  rw [List.map_map]
  apply List.map_congr_left
  intro t _
  exact (sv_bytes t).symm
theorem bytesOf_baL (X : List (List UInt8)) : bytesOf (X.map baL) = X := by
  unfold bytesOf
  rw [List.map_map]
  conv => rhs; rw [← List.map_id X]
  apply List.map_congr_left
  intro x _
  simp [baL]
theorem baL_strings (X : List (List UInt8)) : (X.map baL).map Value.string = X.map sv := by rw [strings_sv, bytesOf_baL]

theorem equalS_any (A1 A2 : Option Addr) (n c m d : Nat) (X Y : List (List UInt8)) (w : World) {B1 B2 : Nat} (h1 : Sl w B1 1 A1 n (X.map sv)) (h2 : Sl w B2 1 A2 m (Y.map sv)) (hn : n ≤ maxLen) (hm : m ≤ maxLen) :
    Calls Tryd.prog 53 #[.slice A1 n c, .slice A2 m d] w fun e w' => e = .returned (.bool (decide (X = Y))) ∧ ∃ q, w' = w.drewN q := by
  unfold maxLen at hn hm
  have hX := h1.strs_len
  have hY := h2.strs_len
  by_cases hnm : n = m
  · subst hnm
    rcases Nat.eq_zero_or_pos n with h0 | h0
    · subst h0
      obtain rfl := List.eq_nil_of_length_eq_zero hX
      obtain rfl := List.eq_nil_of_length_eq_zero hY
      refine (Tryd.slices_Equal_string_empty A1 A2 c 0 d w (by omega)).mono ?_
      rintro e w' ⟨rfl, rfl⟩
      exact ⟨rfl, 0, rfl⟩
    · obtain ⟨b1, o1, rfl, _, _, hc1⟩ := h1.strs h0
      obtain ⟨b2, o2, rfl, _, _, hc2⟩ := h2.strs h0
      refine (Tryd.slices_Equal_string b1 o1 n c b2 o2 n d (X.map baL) (Y.map baL) w (by simp [hX]) (by simp [hY]) (by omega) (by omega) hc1 hc2).mono ?_
      rintro e w' ⟨rfl, q, rfl⟩
      refine ⟨?_, q, rfl⟩
      rw [List.take_of_length_le (by simp [hX]), List.take_of_length_le (by simp [hY])]
      congr 2
      exact decide_eq_decide.2 ⟨map_baL_inj, fun h => by rw [h]⟩
  · refine (Tryd.slices_Equal_string_lens A1 A2 n c m d w hnm).mono ?_
    rintro e w' ⟨rfl, rfl⟩
    refine ⟨?_, 0, rfl⟩
    rw [decide_eq_false (fun h => hnm (by rw [← hX, ← hY, h]))]
theorem containsS_any (A : Option Addr) (n c : Nat) (X : List (List UInt8)) (x : List UInt8) (w : World) {B : Nat} (h : Sl w B 1 A n (X.map sv)) (hn : n ≤ maxLen) :
    Calls Tryd.prog 51 #[.slice A n c, sv x] w fun e w' => e = .returned (.bool (decide (x ∈ X))) ∧ w' = w := by
  unfold maxLen at hn
  have hX := h.strs_len
  rcases Nat.eq_zero_or_pos n with h0 | h0
  · subst h0
    obtain rfl := List.eq_nil_of_length_eq_zero hX
    refine (Tryd.slices_Contains_string_empty A c (baL x) w).mono ?_
    rintro e w' ⟨rfl, rfl⟩
    exact ⟨by simp, rfl⟩
  · obtain ⟨b, off, rfl, _, _, hc⟩ := h.strs h0
    refine (Tryd.slices_Contains_string b off n c (X.map baL) (baL x) w (by simp [hX]) (by omega) hc).mono ?_
    rintro e w' ⟨rfl, rfl⟩
    refine ⟨?_, rfl⟩
    rw [List.take_of_length_le (by simp [hX])]
    congr 2
    rw [Bool.eq_iff_iff, Lib.containsS_iff, decide_eq_true_eq]
    constructor
    · intro h
      obtain ⟨y, hy, e⟩ := List.mem_map.1 h
      rwa [← baL_inj e]
    · intro h
      exact List.mem_map.2 ⟨x, h, rfl⟩
theorem cloneS_any (A : Option Addr) (n c : Nat) (X : List (List UInt8)) (w : World) {B : Nat} (h : Sl w B 1 A n (X.map sv)) (h0 : 0 < n) (hn : n ≤ 8796093022208) :
    Calls Tryd.prog 48 #[.slice A n c] w fun e w' => ∃ v, e = .returned v ∧ OB w.heap.size w v n (X.map sv) w' := by
  have hX := h.strs_len
  obtain ⟨b, off, rfl, _, _, hc⟩ := h.strs h0
  refine (Tryd.slices_Clone_string b off n c (X.map baL) w (by simp [hX]) (by omega) hc).mono ?_
  rintro e w' ⟨v, rfl, ho, _, hb⟩
  refine ⟨v, rfl, ?_⟩
  rw [List.take_of_length_le (by simp [hX]), baL_strings] at ho
  exact OB.of_own ho hb hb.size
theorem reverseS_any (g n c : Nat) (X : List (List UInt8)) {B : Nat} {W : World} (w : World) (h : OB B W (.slice (some ⟨g, 0, none⟩) n c) n (X.map sv) w) (hnc : n ≤ c) (hn : n ≤ maxLen) :
    Calls Tryd.prog 49 #[.slice (some ⟨g, 0, none⟩) n c] w fun e w' => e = .returned (.tuple #[]) ∧ OB B W (.slice (some ⟨g, 0, none⟩) n c) n (X.reverse.map sv) w' ∧ w.heap.size ≤ w'.heap.size := by
  unfold maxLen at hn
  have hX : X.length = n := by simpa using h.len
  have hcells := fun i (hi : i < n) => h.cell i (.string ⟨(X.getD i []).toArray⟩) (by
    rw [List.getElem?_map, List.getD_eq_getElem?_getD, List.getElem?_eq_getElem (by rw [hX]; exact hi)]; rfl)
  refine (Tryd.slices_Reverse_string_cells g 0 n c (fun i => ⟨(X.getD i []).toArray⟩) w (by omega) (fun i hi => by rw [Nat.zero_add]; exact hcells i hi) (fun j hj => by rw [Nat.zero_add]; exact h.frozen j (by omega))).mono ?_
  rintro e w' ⟨rfl, q, rfl⟩
  rw [strsOf_ls X n hX]
  refine ⟨rfl, h.reversed q, ?_⟩
  rw [(setCells_heap _ g _ 0).1]
  exact Nat.le_refl _
end Go.Proofs.YtkdknfedieeenaaDoor
namespace Go.Proofs.YtkdknfedieeenaaDoor
open Go.RowKit
set_option linter.unusedVariables false
set_option maxRecDepth 20000

def addrV : Option (List UInt8 × Int) → Value
  | some p => .tuple #[.agg #[sv p.1, .int .i64 p.2], .bool true]
  | none => .tuple #[.agg #[.string ⟨#[]⟩, .int .i64 0], .bool false]
theorem addrR_short {ls : List (List UInt8)} (h : ls.length < 2 ∨ 9 < ls.length) : addrR ls = none := by unfold addrR; rw [if_pos h]
theorem addrR_num {l : List UInt8} {r : List (List UInt8)} (h : ∀ v, Lib.atoiAll l ≠ .ok v) : addrR (l :: r) = none := by
  unfold addrR
  split
  · rfl
  · split
    · rename_i bits hb
      exact absurd hb (h bits)
    · rfl
theorem addrR_ok {l : List UInt8} {r : List (List UInt8)} {v : Int} (h2 : ¬ ((l :: r).length < 2 ∨ 9 < (l :: r).length)) (h : Lib.atoiAll l = .ok v) :
    addrR (l :: r) = if prefixR (candA r.reverse) v = l :: r then some (candA r.reverse, v) else none := by
  unfold addrR
  rw [if_neg h2]
  simp only [List.headD_cons, List.tail_cons]
  rw [h]
  rfl

def addrIf (R Y : List (List UInt8)) (v : Int) : Value := addrV (if prefixR (candA R) v = Y then some (candA R, v) else none)
theorem prefixR_len (a : List UInt8) (v : Int) : (prefixR a v).length ≤ 9 := by
  unfold prefixR
  split
  · rename_i h
    have := body_length a (isCut_four (mayP_cut h)).1
    unfold prefixL
    simp; omega
  · simp
theorem candA_len (R : List (List UInt8)) (h : R.length ≤ 8) : (candA R).length ≤ 200 := by
  unfold candA
  split
  · unfold plainBytesR; simp; omega
  · unfold wordBytesR
    have : ∀ (L : List (List UInt8)) (M : Nat), M ≤ 9 → (L.flatMap fun s => if s = zz then List.replicate (2 * M) (0 : UInt8) else unword (val16 s)).length ≤ 18 * L.length := by
      intro L M hM
      induction L with
      | nil => simp
      | cons x L ih =>
        rw [List.flatMap_cons, List.length_append]
        have : (if x = zz then List.replicate (2 * M) (0 : UInt8) else unword (val16 x)).length ≤ 18 := by
          split
          · simp; omega
          · simp [unword]
        simp only [List.length_cons]
        omega
    have := this R (9 - R.length) (by omega)
    omega
set_option maxHeartbeats 8000000 in
theorem address13_any (A : Option Addr) (n c : Nat) (ts : List ByteArray) (w : World) (hA : Sl w w.heap.size 1 A n (ts.map .string)) (hnc : n ≤ c) (hsz : ∀ t ∈ ts, t.size ≤ 140737488355328) (hn : n ≤ maxLen) (hL : LaidT w) :
    Calls Tryd.prog 41 #[.slice A n c] w fun e w' => e = .returned (addrV (addrR (bytesOf ts))) ∧ Below w.heap.size w w' := by
  have hts : ts.length = n := by simpa using hA.1
  unfold maxLen at hn
  have hR := Tryd.results41
  by_cases hshort : n < 2 ∨ 9 < n
  · rw [addrR_short (by rw [bytesOf_length, hts]; exact hshort)]
    rcases hshort with h2 | h9
    · go_enter Tryd.func41, Tryd.ntmps41
      go_wp2_with fail
      exact bodyPost_ret (v := .tuple #[noPrefix, .bool false]) (by simp [results, Tryd.results41, go_sem, noPrefix]) rfl ⟨rfl, (Below.refl _ _).alloc (Nat.le_refl _) _⟩
    · have h2 : ¬ n < 2 := by omega
      go_enter Tryd.func41, Tryd.ntmps41
      go_wp2_with fail
      exact bodyPost_ret (v := .tuple #[noPrefix, .bool false]) (by simp [results, Tryd.results41, go_sem, noPrefix]) rfl ⟨rfl, (Below.refl _ _).alloc (Nat.le_refl _) _⟩
  · obtain ⟨b, off, rfl, hb, hc⟩ := hA.2 (by omega)
    obtain ⟨t0, tr, rfl⟩ : ∃ t0 tr, ts = t0 :: tr := by
      cases ts with
      | nil => simp at hts; omega
      | cons a r => exact ⟨a, r, rfl⟩
    all_goals
      have h0 := hc 0 (.string t0) rfl
      have htail : Sl w w.heap.size 1 (some ⟨b, off + 1, none⟩) (n - 1) ((bytesOf tr).map sv) := by
        have := Sl.dropO (k := 1) (n := n - 1) (by rw [show 1 + (n - 1) = n by omega]; exact hA)
        rw [← strings_sv]
        simpa using this
      have hall : Sl w w.heap.size 1 (some ⟨b, off, none⟩) n ((bytesOf (t0 :: tr)).map sv) := by rw [← strings_sv]; exact hA
      have hsz0 := hsz t0 (by simp)
      have hszr : ∀ t ∈ tr, t.size ≤ 281474976710656 := fun t ht => by have := hsz t (by simp [ht]); omega
      have hlb : (bytesOf (t0 :: tr)).length = n := by rw [bytesOf_length]; exact hts
      have hcell : (w.alloc (.cells #[.string ⟨#[]⟩, .int .i64 0] 31)).cell? ⟨b, off, none⟩ = some (.string t0) := by
        rw [World.cell?_alloc_lt w _ _ hb]; exact h0
      have hcs := Cs.new w #[.string ⟨#[]⟩, .int .i64 0] 31 [.string ⟨#[]⟩, .int .i64 0]
      have hL0 := hL.alloc (.cells #[.string ⟨#[]⟩, .int .i64 0] 31)
      have hbel0 : Below w.heap.size w (w.alloc (.cells #[.string ⟨#[]⟩, .int .i64 0] 31)) := (Below.refl _ _).alloc (Nat.le_refl _) _
      have hbase : w.heap.size ≤ (w.alloc (.cells #[.string ⟨#[]⟩, .int .i64 0] 31)).heap.size := by simp
      have n2 : ¬ n < 2 := by omega
      have n9 : ¬ 9 < n := by omega
      have HC := Lib.hid hcs
      have HL0 := Lib.hid hL0
      have HT := Lib.hid htail
      have HALL := Lib.hid hall
      have HB0 := Lib.hid hbel0
      have HBASE := Lib.hid hbase
      have HSZR := Lib.hid hszr
      have HLB := Lib.hid hlb
      have HTS := Lib.hid hts
      by_cases hnum : ∀ v, Lib.atoiAll t0.data.toList ≠ .ok v
      · have hr : addrR (bytesOf (t0 :: tr)) = none := addrR_num hnum
        rw [hr]
        have hat := atoi_no t0 (by omega) hnum _ hL0
        have HAT := Lib.hid hat
        clear hcs hL0 htail hall hbel0 hbase hat hnum hr hc h0 hsz hszr hsz0 hts hlb hA hL hshort
        go_enter Tryd.func41, Tryd.ntmps41
        go_wp2_with (go_at_call 47; refine HAT.out.mono ?_; rintro e w1 ⟨v, N, rfl, hb1⟩; refine Hid.out ?_)
        refine Lib.hid ?_
        have hC1 := HC.out.below hb1
        have k0 := hC1.get 0 (.string ⟨#[]⟩)
        have k1 := hC1.get 1 (.int .i64 0)
        have z0 := hC1.froz 0
        have z1 := hC1.froz 1
        have hfin := (hC1.set' 0 (.string ⟨#[]⟩) (by decide)).set' 1 (.int .i64 0) (by decide)
        have g0 := hfin.get 0 (.string ⟨#[]⟩)
        have g1 := hfin.get 1 (.int .i64 0)
        have hbe := ((HB0.out.trans (hb1.mono HBASE.out)).setCell (p := ⟨w.heap.size, 0, none⟩) (Nat.le_refl _) (.string ⟨#[]⟩)).setCell (p := ⟨w.heap.size, 1, none⟩) (Nat.le_refl _) (.int .i64 0)
        have HBE := Lib.hid hbe
        have G0 := Lib.hid g0
        have G1 := Lib.hid g1
        clear hb1 hC1 hbe g0 g1 hfin
        go_wp2_with fail
        refine bodyPost_ret (v := .tuple #[noPrefix, .bool false]) ?_ rfl ⟨rfl, HBE.out⟩
        have g0 := G0.out
        have g1 := G1.out
        simp [results, Tryd.results41, go_sem, noPrefix, g0, g1]
      · obtain ⟨v, hv⟩ : ∃ v, Lib.atoiAll t0.data.toList = .ok v := Classical.byContradiction fun h => hnum fun v hv => h ⟨v, hv⟩
        have hr : addrR (bytesOf (t0 :: tr)) = _ := addrR_ok (l := t0.data.toList) (r := bytesOf tr) (by rw [show t0.data.toList :: bytesOf tr = bytesOf (t0 :: tr) from rfl, hlb]; exact hshort) hv
        rw [hr]
        have hat := fun w => atoi_ok t0 (by omega) v hv w
        have HAT := Lib.hid hat
        have hc1 : (1 : Int) ≤ n := by omega
        have htl : (bytesOf tr).length = n - 1 := by rw [bytesOf_length]; simp at hts; omega
        have HTL := Lib.hid htl
        obtain ⟨R, hR'⟩ : ∃ R, R = (bytesOf tr).reverse := ⟨_, rfl⟩
        rw [← hR']
        have HR := Lib.hid hR'
        have hRl : R.length = n - 1 := by rw [hR', List.length_reverse, HTL.out]
        have HRL := Lib.hid hRl
        clear hR' hRl
        obtain ⟨Y, hY⟩ : ∃ Y, Y = t0.data.toList :: bytesOf tr := ⟨_, rfl⟩
        have hall2 : Sl w w.heap.size 1 (some ⟨b, off, none⟩) n (Y.map sv) := by rw [hY]; exact hall
        rw [← hY]
        rw [show addrV (if prefixR (candA R) v = Y then some (candA R, v) else none) = addrIf R Y v from rfl]
        have HALL2 := Lib.hid hall2
        have HY := Lib.hid hY
        clear hall2 hY HALL
        clear hcs hL0 htail hall hbel0 hbase hat hnum hr hc h0 hsz hszr hsz0 hts hlb hA hL hshort hv htl
        go_enter Tryd.func41, Tryd.ntmps41
        go_wp2_with (go_at_call 47; refine (HAT.out _).mono ?_; rintro e w1 ⟨rfl, hb1⟩; refine Hid.out ?_)
        refine Lib.hid ?_
        have hbe := HB0.out.trans (hb1.mono HBASE.out)
        have HC1 := Lib.hid (HC.out.below hb1)
        have HL1 := Lib.hid (HL0.out.below hb1 (Nat.le_refl _))
        have HBE := Lib.hid hbe
        have ht1 := HT.out.below hbe
        clear hb1 hbe HC HL0 HB0 hcell HAT
        have hcl := fun w h => cloneS_any (some ⟨b, off + 1, none⟩) (n - 1) (c - 1) (bytesOf tr) w (B := w.heap.size) h (by omega) (by omega)
        have HCL := Lib.hid hcl
        have HT1 := Lib.hid (ht1.more (B' := w1.heap.size) HBE.out.size)
        clear ht1 hcl
        go_wp2_with (go_at_call 48; refine (HCL.out _ HT1.out).mono ?_; rintro e w2 ⟨v2, rfl, hob⟩; refine Hid.out ?_)
        refine Lib.hid ?_
        have hbel2 := HBE.out.trans (hob.bel.mono HBE.out.size)
        obtain ⟨A', c', rfl, q1, q2, (⟨_, h0, _⟩ | ⟨g, rfl, hg1, hg2⟩)⟩ := hob.slice3
        · omega
        have hrv := fun w h => reverseS_any g (n - 1) c' (bytesOf tr) (B := w1.heap.size) (W := w1) w h q1 (by unfold maxLen; omega)
        rw [← HR.out] at hrv
        have HRV := Lib.hid hrv
        have HOB := Lib.hid hob
        clear hob hrv hbel2 HCL HT1
        go_wp2_with (go_at_call 49; refine (HRV.out _ HOB.out).mono ?_; rintro e w3 ⟨rfl, hob, hz⟩; refine Hid.out ?_)
        refine Lib.hid ?_
        have hbel3 := HBE.out.trans (hob.bel.mono HBE.out.size)
        have HC3 := Lib.hid (HC1.out.below (hob.bel.mono (Nat.le_refl _)))
        have HL3 := Lib.hid (HL1.out.below hob.bel (Nat.le_refl _))
        have hsl := hob.sl
        have hRts : R.map sv = (tr.reverse).map Value.string := by rw [HR.out, strings_sv]; unfold bytesOf; simp [List.map_reverse]
        have hbR : bytesOf tr.reverse = R := by rw [HR.out]; unfold bytesOf; rw [List.map_reverse]
        have hwb := fun w h => wordB_any (some ⟨g, 0, none⟩) (n - 1) c' tr.reverse w (by rw [← hRts]; exact h) (by intro t ht; exact HSZR.out t (by simpa using ht)) (by omega)
        have hpb := fun w h => plain_any (some ⟨g, 0, none⟩) (n - 1) c' tr.reverse w (by rw [← hRts]; exact h) (by intro t ht; exact HSZR.out t (by simpa using ht)) (by omega)
        rw [hbR] at hwb hpb
        have hco := fun w h => containsS_any (some ⟨g, 0, none⟩) (n - 1) c' R zz w (B := w.heap.size) h (by unfold maxLen; omega)
        obtain ⟨C1, hC1⟩ : ∃ C1, C1 = baL (wordBytesR R) := ⟨_, rfl⟩
        obtain ⟨C2, hC2⟩ : ∃ C2, C2 = baL (plainBytesR R) := ⟨_, rfl⟩
        obtain ⟨C, hC⟩ : ∃ C, C = baL (candA R) := ⟨_, rfl⟩
        rw [show sv (wordBytesR R) = .string C1 by rw [hC1]; rfl] at hwb
        rw [show sv (plainBytesR R) = .string C2 by rw [hC2]; rfl] at hpb
        have hCC : C = if n - 1 = 4 ∧ zz ∉ R then C2 else C1 := by
          rw [hC, hC1, hC2]
          unfold candA
          rw [HRL.out]
          split <;> rfl
        have hCs : C.size ≤ 200 := by
          rw [hC]
          show (candA R).toArray.size ≤ 200
          rw [List.size_toArray]
          exact candA_len R (by rw [HRL.out]; omega)
        have hCd : C.data.toList = candA R := by rw [hC]; simp [baL]
        have HCD := Lib.hid hCd
        have HBEL3 := Lib.hid hbel3
        have HSL := Lib.hid hsl
        have HWB := Lib.hid hwb
        have HPB := Lib.hid hpb
        have HCO := Lib.hid hco
        have HCC := Lib.hid hCC
        clear hbel3 hsl hwb hpb hco hCC hC1 hC2 hC hCd hob hz hRts hbR HRV HOB
        go_wp2_with (go_at_call 50; refine (HWB.out _ HSL.out HL3.out).mono ?_; rintro e w4 ⟨rfl, hb4⟩; refine Hid.out ?_)
        refine Lib.hid ?_
        have hbel4 := HBEL3.out.trans (hb4.mono HBEL3.out.size)
        have HC4 := Lib.hid (HC3.out.below hb4)
        have HL4 := Lib.hid (HL3.out.below hb4 (Nat.le_refl _))
        have HSL4 := Lib.hid ((HSL.out.below hb4).more hb4.size)
        have HBEL4 := Lib.hid hbel4
        clear hb4 hbel4 HBEL3 HC3 HL3 HSL HC1 HL1 HBE HWB
        obtain ⟨T, hT⟩ : ∃ T : Bool, T = (decide (n - 1 = 4) && !decide (zz ∈ R)) := ⟨_, rfl⟩
        have HTT := Lib.hid hT
        have hcc2 : C = if T = true then C2 else C1 := by
          rw [HCC.out, hT]
          by_cases h4 : n - 1 = 4 <;> by_cases hzm : zz ∈ R <;> simp [h4, hzm]
        have HCC2 := Lib.hid hcc2
        clear hT hcc2 HCC
        go_upto_region 9 with fail
        go_cut [42] (fun v wc => v = .bool T ∧ wc = w4)
        case first =>
          by_cases h4 : n - 1 = 4
          · have e4 : (((n - 1 : Nat) : Int) == 4) = true := by rw [beq_iff_eq]; omega
            by_cases hzm : zz ∈ R
            · have ed : decide (zz ∈ R) = true := decide_eq_true hzm
              have ht : T = false := by rw [HTT.out, ed]; simp
              subst ht
              clear h4 hzm
              go_wp2_with (go_at_call 51; refine (HCO.out _ HSL4.out).mono ?_; rintro e w5 ⟨rfl, rfl⟩)
              go_meet
              exact ⟨rfl, rfl⟩
            · have ed : decide (zz ∈ R) = false := decide_eq_false hzm
              have ht : T = true := by rw [HTT.out, ed]; simp [h4]
              subst ht
              clear h4 hzm
              go_wp2_with (go_at_call 51; refine (HCO.out _ HSL4.out).mono ?_; rintro e w5 ⟨rfl, rfl⟩)
              go_meet
              exact ⟨rfl, rfl⟩
          · have e4 : (((n - 1 : Nat) : Int) == 4) = false := by rw [beq_eq_false_iff_ne]; omega
            have ht : T = false := by rw [HTT.out]; simp [h4]
            subst ht
            clear h4
            go_wp2_with fail
            go_meet
            exact ⟨rfl, rfl⟩
        case rest =>
        obtain ⟨rfl, hwc⟩ := hcut
        replace hwc := hwc.symm
        subst hwc
        clear HTT
        rename_i Kx hKx Ky hKy
        refine hKy _ _ ?_
        go_cut [7] (fun v wc => v = .string C ∧ Below w.heap.size w wc ∧ LaidT wc ∧ Cs wc w.heap.size [.string ⟨#[]⟩, .int .i64 0])
        case first =>
          cases T with
          | false =>
            have HC' := Lib.hid (HCC2.out.trans (if_neg (by decide)))
            go_wp2_with fail
            go_meet
            exact ⟨by rw [HC'.out], HBEL4.out, HL4.out, HC4.out⟩
          | true =>
            have HC' := Lib.hid (HCC2.out.trans (if_pos rfl))
            go_wp2_with (go_at_call 52; refine (HPB.out _ HSL4.out HL4.out).mono ?_; rintro e w5 ⟨rfl, hb5⟩; refine Hid.out ?_)
            refine Lib.hid ?_
            have HBE5 := Lib.hid (HBEL4.out.trans (hb5.mono HBEL4.out.size))
            have HC5 := Lib.hid (HC4.out.below hb5)
            have HL5 := Lib.hid (HL4.out.below hb5 (Nat.le_refl _))
            clear hb5
            go_wp2_with fail
            go_meet
            exact ⟨by rw [HC'.out], HBE5.out, HL5.out, HC5.out⟩
        case rest =>
          obtain ⟨rfl, hbw, hlw, hcw⟩ := hcut
          refine hKx _ _ ?_
          have hpx := fun w h => prefix_any C v w (by omega) h
          rw [HCD.out] at hpx
          obtain ⟨PX, hPX⟩ : ∃ PX, PX = prefixR (candA R) v := ⟨_, rfl⟩
          rw [← hPX] at hpx
          have hPXl : PX.length ≤ 9 := by
            rw [hPX]; exact prefixR_len _ _
          have HPXE := Lib.hid hPX
          have HPX := Lib.hid hpx
          have hbx := hbw.alloc hbw.size (.cells #[.string C, .int .i64 v] 31)
          have HLX := Lib.hid (hlw.alloc (.cells #[.string C, .int .i64 v] 31))
          have HCX := Lib.hid (hcw.alloc (.cells #[.string C, .int .i64 v] 31))
          have HCP := Lib.hid (Cs.new wc #[.string C, .int .i64 v] 31 [.string C, .int .i64 v])
          have HBX := Lib.hid hbx
          clear hpx hPX hbx hcw hlw hbw HCC2 HCO HPB HSL4 HBEL4 HC4 HL4
          go_wp2_with (go_at_call 54; refine (HPX.out _ HLX.out).mono ?_; rintro e w6 ⟨v6, rfl, hob6⟩; refine Hid.out ?_)
          refine Lib.hid ?_
          have hb6 := HBX.out.trans (hob6.bel.mono HBX.out.size)
          have hC6 := HCX.out.below hob6.bel
          have hP6 := HCP.out.below hob6.bel
          obtain ⟨A6, c6, rfl, p1, p2, p3⟩ := hob6.slice
          have hm1 : PX.length ≤ maxLen := by unfold maxLen; omega
          have hm2 : n ≤ maxLen := by unfold maxLen; omega
          have hsl6 := hob6.sl
          have heq := equalS_any A6 (some ⟨b, off, none⟩) PX.length c6 n c PX Y w6 hsl6 (HALL2.out.below hb6) hm1 hm2
          have HEQ := Lib.hid heq
          have k0 := hC6.get 0 (.string ⟨#[]⟩)
          have k1 := hC6.get 1 (.int .i64 0)
          have z0 := hC6.froz 0
          have z1 := hC6.froz 1
          have l0 := hP6.get 0 (.string C)
          have l1 := hP6.get 1 (.int .i64 v)
          have HC6 := Lib.hid hC6
          have HB6 := Lib.hid hb6
          clear heq hob6 hC6 hP6 hb6 hsl6 hm1 hm2 HBX HCX HCP HLX HPX
          by_cases hpy : PX = Y
          · have ed : decide (PX = Y) = true := decide_eq_true hpy
            have HPY := Lib.hid hpy
            clear hpy
            go_wp2_with (go_at_call 53; refine HEQ.out.mono ?_; rintro e w7 ⟨rfl, q, rfl⟩)
            refine bodyPost_ret (v := .tuple #[.agg #[.string C, .int .i64 v], .bool true]) ?_ rfl ⟨?_, ((HB6.out.trans ((drewN_below w6 q).mono HB6.out.size)).setCell (p := ⟨w.heap.size, 0, none⟩) (Nat.le_refl _) (.string C)).setCell (p := ⟨w.heap.size, 1, none⟩) (Nat.le_refl _) (.int .i64 v)⟩
            · have hfin := ((HC6.out.drewN q).set' 0 (.string C) (by decide)).set' 1 (.int .i64 v) (by simp)
              have g0 := hfin.get 0 (.string C)
              have g1 := hfin.get 1 (.int .i64 v)
              generalize ((w6.drewN q).setCell ⟨w.heap.size, 0, none⟩ (.string C)).setCell ⟨w.heap.size, 1, none⟩ (.int .i64 v) = W at g0 g1 ⊢
              simp [results, Tryd.results41, go_sem, g0, g1]
            · unfold addrIf
              rw [← HPXE.out, if_pos HPY.out]
              show _ = Ending.returned (.tuple #[.agg #[sv (candA R), .int .i64 v], .bool true])
              rw [← HCD.out, sv_bytes]
          · have ed : decide (PX = Y) = false := decide_eq_false hpy
            have HPY := Lib.hid hpy
            clear hpy
            go_wp2_with (go_at_call 53; refine HEQ.out.mono ?_; rintro e w7 ⟨rfl, q, rfl⟩)
            refine bodyPost_ret (v := .tuple #[noPrefix, .bool false]) ?_ rfl ⟨?_, ((HB6.out.trans ((drewN_below w6 q).mono HB6.out.size)).setCell (p := ⟨w.heap.size, 0, none⟩) (Nat.le_refl _) (.string ⟨#[]⟩)).setCell (p := ⟨w.heap.size, 1, none⟩) (Nat.le_refl _) (.int .i64 0)⟩
            · have hfin := ((HC6.out.drewN q).set' 0 (.string ⟨#[]⟩) (by decide)).set' 1 (.int .i64 0) (by simp)
              have g0 := hfin.get 0 (.string ⟨#[]⟩)
              have g1 := hfin.get 1 (.int .i64 0)
              generalize ((w6.drewN q).setCell ⟨w.heap.size, 0, none⟩ (.string ⟨#[]⟩)).setCell ⟨w.heap.size, 1, none⟩ (.int .i64 0) = W at g0 g1 ⊢
              simp [results, Tryd.results41, go_sem, noPrefix, g0, g1]
            · unfold addrIf
              rw [← HPXE.out, if_neg HPY.out]; rfl
end Go.Proofs.YtkdknfedieeenaaDoor
namespace Go.Proofs.YtkdknfedieeenaaDoor
open Go.RowKit
set_option linter.unusedVariables false

/-- The map's block has these entries. -/
def SM (w : World) (b : Nat) (es : List (ByteArray × Value)) : Prop := ∃ es' clock, w.heap[b]? = some (.map es' clock) ∧ es'.toList.map (fun e => (e.key, e.val)) = es.map (fun p => (Value.string p.1, p.2))
def smGet (es : List (ByteArray × Value)) (s : ByteArray) : Option Value := (es.find? fun p => s.data.toList == p.1.data.toList).map (·.2)
def smHas (es : List (ByteArray × Value)) (s : ByteArray) : Bool := es.any fun p => s.data.toList == p.1.data.toList
theorem ba_beq (a b : ByteArray) : (a == b) = (a.data.toList == b.data.toList) := by
  have h : (a == b) = (a.data == b.data) := by cases a; cases b; rfl
  rw [h, Bool.eq_iff_iff, beq_iff_eq, beq_iff_eq]
  exact ⟨fun e => by rw [e], fun e => Array.ext' e⟩
theorem sm_now (s : ByteArray) : ∀ (es : List (ByteArray × Value)) (l : List MapEntry) (i : Nat), l.map (fun e => (e.key, e.val)) = es.map (fun p => (Value.string p.1, p.2)) →
    (smHas es s = false ∧ smGet es s = none ∧ Instr.findNow .string (.string s) l i = some none) ∨ ∃ j v, smHas es s = true ∧ smGet es s = some v ∧ Instr.findNow .string (.string s) l i = some (some (j, v))
  | [], l, i, h => by
    have : l = [] := by simpa using h
    subst this
    exact .inl ⟨rfl, rfl, rfl⟩
  | p :: es, [], i, h => by simp at h
  | p :: es, e :: l, i, h => by
    simp only [List.map_cons, List.cons.injEq, Prod.mk.injEq] at h
    obtain ⟨⟨h1, h2⟩, h3⟩ := h
    cases hq : (s.data.toList == p.1.data.toList) with
    | true =>
      refine .inr ⟨i, p.2, by simp only [smHas, List.any_cons, hq, Bool.true_or], by simp only [smGet, List.find?_cons, hq, Option.map_some], ?_⟩
      unfold Instr.findNow
      rw [h1]
      simp only [Instr.sameNow, ba_beq, hq, h2]
    | false =>
      have hf : Instr.findNow .string (.string s) (e :: l) i = Instr.findNow .string (.string s) l (i + 1) := by
        conv => lhs; unfold Instr.findNow
        rw [h1]
        simp only [Instr.sameNow, ba_beq, hq]
      rw [hf]
      have e1 : smHas (p :: es) s = smHas es s := by simp only [smHas, List.any_cons, hq, Bool.false_or]
      have e2 : smGet (p :: es) s = smGet es s := by simp only [smGet, List.find?_cons, hq]
      rw [e1, e2]
      exact sm_now s es l (i + 1) h3
section
variable {w w' : World} {b : Nat} {es : List (ByteArray × Value)} {P : Program} {t k e : TypeId}
theorem SM.lt (h : SM w b es) : b < w.heap.size := by
  obtain ⟨es', clock, hb, _⟩ := h
  exact (Array.getElem?_eq_some_iff.1 hb).1
theorem SM.new (w : World) : SM (w.alloc (.map #[] 0)) w.heap.size [] := ⟨#[], 0, (MapKept.heap_alloc w _).1, rfl⟩
theorem SM.block (h : SM w b es) (hb : w'.heap[b]? = w.heap[b]?) : SM w' b es := by
  obtain ⟨es', clock, h1, h2⟩ := h
  exact ⟨es', clock, hb.trans h1, h2⟩
theorem SM.below (h : SM w b es) (hb : Below w.heap.size w w') : SM w' b es := h.block (hb.block b h.lt)
theorem SM.drewN (h : SM w b es) (n : Nat) : SM (w.drewN n) b es := h
/-- 'v, ok := m[s]'. -/
theorem SM.lookup (h : SM w b es) (ht : P.underlying t = some (.map k e)) (hk : P.underlying k = some .string) {z : Value} (hz : (zeroValue e).run P w = .ok z w) (s : ByteArray) :
    (Instr.lookup t (.map (some b)) (.string s) true).run P w = .ok (.tuple #[(smGet es s).getD z, .bool (smHas es s)]) w := by
  obtain ⟨es', clock, hb, hm⟩ := h
  have hck : ∀ c, (Instr.checkKey c 10000 k (.string s)).run P w = .ok () w := fun c => MapKept.run_checkKey hk (by simp [MapKept.IsKey]) c 9999
  rcases sm_now s es es'.toList 0 hm with ⟨h1, h2, h3⟩ | ⟨j, v, h1, h2, h3⟩
  · have hf := MapKept.run_findKey (w := w) hk h3
    rw [h1, h2]
    simp [Instr.lookup, run_underlying ht, MapKept.run_getObj_map hb, hck, hf, hz, Result.andThen]
  · have hf := MapKept.run_findKey (w := w) hk h3
    rw [h1, h2]
    simp [Instr.lookup, run_underlying ht, MapKept.run_getObj_map hb, hck, hf, Result.andThen]
/-- 'm[s]'. -/
theorem SM.lookup1 (h : SM w b es) (ht : P.underlying t = some (.map k e)) (hk : P.underlying k = some .string) {z : Value} (hz : (zeroValue e).run P w = .ok z w) (s : ByteArray) :
    (Instr.lookup t (.map (some b)) (.string s) false).run P w = .ok ((smGet es s).getD z) w := by
  obtain ⟨es', clock, hb, hm⟩ := h
  have hck : ∀ c, (Instr.checkKey c 10000 k (.string s)).run P w = .ok () w := fun c => MapKept.run_checkKey hk (by simp [MapKept.IsKey]) c 9999
  rcases sm_now s es es'.toList 0 hm with ⟨h1, h2, h3⟩ | ⟨j, v, h1, h2, h3⟩
  · have hf := MapKept.run_findKey (w := w) hk h3
    rw [h2]
    simp [Instr.lookup, run_underlying ht, MapKept.run_getObj_map hb, hck, hf, hz, Result.andThen]
  · have hf := MapKept.run_findKey (w := w) hk h3
    rw [h2]
    simp [Instr.lookup, run_underlying ht, MapKept.run_getObj_map hb, hck, hf, Result.andThen]
/-- 'm[s] = v' of a new s. -/
theorem SM.insert (h : SM w b es) (ht : P.underlying t = some (.map k e)) (hk : P.underlying k = some .string) (s : ByteArray) (v : Value) (hs : smHas es s = false) :
    ∃ w', (Instr.mapUpdate t (.map (some b)) (.string s) v).run P w = .ok () w' ∧ SM w' b (es ++ [(s, v)]) ∧ w.grownBy w' (some b) := by
  obtain ⟨es', clock, hb, hm⟩ := h
  have hck : ∀ c, (Instr.checkKey c 10000 k (.string s)).run P w = .ok () w := fun c => MapKept.run_checkKey hk (by simp [MapKept.IsKey]) c 9999
  rcases sm_now s es es'.toList 0 hm with ⟨h1, h2, h3⟩ | ⟨j, v', h1, h2, h3⟩
  · have hf := MapKept.run_findKey (w := w) hk h3
    refine ⟨{ w with heap := w.heap.setIfInBounds b (.map (es'.push ⟨.string s, v, clock⟩) (clock + 1)) }, ?_, ?_, ?_⟩
    · simp [Instr.mapUpdate, run_underlying ht, MapKept.run_getObj_map hb, hck, hf, MapKept.run_setObj_map _ hb, Result.andThen]
    · exact ⟨_, _, (MapKept.heap_set hb).1, by simp [hm]⟩
    · exact ⟨rfl, rfl, rfl, by simp, fun i _ hi => (MapKept.heap_set hb).2 i (fun e => hi (by rw [e]))⟩
  · rw [hs] at h1; cases h1
end
/-- 'm[s] = v' of a map's literal, at the operation. -/
theorem wpList_insert_sm {P : Program} (w : World) {ops : Array Oper} {rest : List Oper} {o : Oper} {a : Act} {Q : Exit → Act → World → Prop}
    (hg : o.guard = none) (m x v : Operand) (t : TypeId) (hop : o.op = Op.insert t m x v) (k e : TypeId) (ht : P.underlying t = some (.map k e)) (hk : P.underlying k = some .string) (b : Nat) (es : List (ByteArray × Value))
    (hm : a.eval m = .map (some b)) (hown : SM w b es) (s : ByteArray) (val : Value) (hx : a.eval x = .string s) (hv : a.eval v = val) (hs : smHas es s = false)
    (hK : ∀ w', SM w' b (es ++ [(s, val)]) → w.grownBy w' (some b) → wpList P ops Q rest (a.put o.dst undef) w') :
    wpList P ops Q (o :: rest) a w := by
  refine wpList_plain hg fun K' hK' => ?_
  obtain ⟨w', hrun, r1, r2⟩ := hown.insert ht hk s val hs
  unfold Oper.wp
  simp [execOp, hop, hm, hx, hv, hrun, Result.andThen]
  exact hK' _ _ (hK w' r1 r2)
end Go.Proofs.YtkdknfedieeenaaDoor
namespace Go.Proofs.YtkdknfedieeenaaDoor
open Go.RowKit
set_option linter.unusedVariables false
set_option maxRecDepth 20000

def kindL : List (ByteArray × Value) := [(⟨#[114, 112, 122, 45, 99, 108, 105, 101, 110, 116, 45, 105, 112]⟩, .int .i64 0), (⟨#[114, 112, 122, 45, 105, 112]⟩, .int .i64 3), (⟨#[114, 112, 122, 45, 110, 115, 105, 112]⟩, .int .i64 6), (⟨#[114, 112, 122, 45, 110, 115, 100, 110, 97, 109, 101]⟩, .int .i64 4)]
theorem kinds_any (w : World) : Calls Tryd.prog 39 #[] w fun e w' => ∃ b, e = .returned (.map (some b)) ∧ SM w' b kindL ∧ Below w.heap.size w w' := by
  have hmk : (Instr.makeMap 94 none).run Tryd.prog w = .ok (.map (some w.heap.size)) (w.alloc (.map #[] 0)) := rfl
  have ut := Tryd.underlying94
  have uk := Tryd.underlying9
  have h0 := SM.new w
  have b0 := (Below.refl w.heap.size w).alloc (Nat.le_refl _) (.map #[] 0)
  obtain ⟨w1, e1, h1, g1⟩ := h0.insert ut uk ⟨#[114, 112, 122, 45, 99, 108, 105, 101, 110, 116, 45, 105, 112]⟩ (.int .i64 0) (by decide)
  have b1 := below_grown b0 g1 b0.size (Nat.le_refl _)
  obtain ⟨w2, e2, h2, g2⟩ := h1.insert ut uk ⟨#[114, 112, 122, 45, 105, 112]⟩ (.int .i64 3) (by decide)
  have b2 := below_grown b1 g2 b1.size (Nat.le_refl _)
  obtain ⟨w3, e3, h3, g3⟩ := h2.insert ut uk ⟨#[114, 112, 122, 45, 110, 115, 105, 112]⟩ (.int .i64 6) (by decide)
  have b3 := below_grown b2 g3 b2.size (Nat.le_refl _)
  obtain ⟨w4, e4, h4, g4⟩ := h3.insert ut uk ⟨#[114, 112, 122, 45, 110, 115, 100, 110, 97, 109, 101]⟩ (.int .i64 4) (by decide)
  have b4 := below_grown b3 g4 b3.size (Nat.le_refl _)
  clear ut uk h0 h1 h2 h3 g1 g2 g3 g4 b0 b1 b2 b3
  go_enter Tryd.func39, Tryd.ntmps39
  go_wp2_with fail
  go_ret
  exact ⟨_, rfl, h4, b4⟩
theorem kindL_get (l : List UInt8) : smHas kindL (baL l) = (kindOf l).isSome ∧ (smGet kindL (baL l)).getD (.int .i64 0) = .int .i64 ((kindOf l).getD 0) := by
  have hd : (baL l).data.toList = l := by simp [baL]
  have c1 : ∀ (x : List UInt8), (l == x) = decide (l = x) := fun x => by rw [Bool.eq_iff_iff]; simp
  unfold smHas smGet kindL kindOf
  simp only [List.any_cons, List.any_nil, List.find?_cons, List.find?_nil, hd, c1]
  by_cases h1 : l = cClient
  · subst h1; exact ⟨rfl, rfl⟩
  · by_cases h2 : l = cAnswer
    · subst h2; exact ⟨rfl, rfl⟩
    · by_cases h3 : l = cNsip
      · subst h3; exact ⟨rfl, rfl⟩
      · by_cases h4 : l = cNsname
        · subst h4; exact ⟨rfl, rfl⟩
        · have e1 : decide (l = [114, 112, 122, 45, 99, 108, 105, 101, 110, 116, 45, 105, 112]) = false := decide_eq_false h1
          have e2 : decide (l = [114, 112, 122, 45, 105, 112]) = false := decide_eq_false h2
          have e3 : decide (l = [114, 112, 122, 45, 110, 115, 105, 112]) = false := decide_eq_false h3
          have e4 : decide (l = [114, 112, 122, 45, 110, 115, 100, 110, 97, 109, 101]) = false := decide_eq_false h4
          rw [if_neg h1, if_neg h2, if_neg h3, if_neg h4]
          simp only [e1, e2, e3, e4]
          exact ⟨rfl, rfl⟩

def trigC (t : Trig) : List Value := [.int .i64 t.kind, sv t.name, sv t.addr, .int .i64 t.bits]
def noTrig : Trig := ⟨0, [], [], 0⟩
def trigV (o : Option Trig) : Value := .tuple #[.agg (trigC (o.getD noTrig)).toArray, .bool o.isSome]
theorem Cs.all4 {w : World} {P : Nat} {a b c d a' b' c' d' : Value} (h : Cs w P [a, b, c, d]) : Cs ((((w.setCell ⟨P, 0, none⟩ a').setCell ⟨P, 1, none⟩ b').setCell ⟨P, 2, none⟩ c').setCell ⟨P, 3, none⟩ d') P [a', b', c', d'] :=
  (((h.set' 0 a' (by simp)).set' 1 b' (by simp)).set' 2 c' (by simp)).set' 3 d' (by simp)
theorem below_all4 {w W : World} {P B : Nat} {a' b' c' d' : Value} (h : Below B W w) (hP : B ≤ P) : Below B W ((((w.setCell ⟨P, 0, none⟩ a').setCell ⟨P, 1, none⟩ b').setCell ⟨P, 2, none⟩ c').setCell ⟨P, 3, none⟩ d') :=
  (((h.setCell (p := ⟨P, 0, none⟩) hP a').setCell (p := ⟨P, 1, none⟩) hP b').setCell (p := ⟨P, 2, none⟩) hP c').setCell (p := ⟨P, 3, none⟩) hP d'

theorem makeX_any (A : Option Addr) (n c : Nat) (X : List (List UInt8)) (w : World) (hA : Sl w w.heap.size 1 A n (X.map sv)) (hsz : ∀ x ∈ X, x.length ≤ maxLen) (hn : n ≤ maxLen) :
    Calls Tryd.prog 11 #[.slice A n c] w fun e w' => e = .returned (.tuple #[sv ((makeL X).getD []), .bool (makeL X).isSome]) ∧ Below w.heap.size w w' := by
  have h := make_any A n c (X.map baL) w (by rw [baL_strings]; exact hA) (by intro t ht; obtain ⟨x, hx, rfl⟩ := List.mem_map.1 ht; rw [show (baL x).size = x.length by simp [baL, ByteArray.size]]; exact hsz x hx) hn
  unfold nameOf makeOf at h
  rw [bytesOf_baL] at h
  exact h

set_option maxHeartbeats 8000000 in
theorem named_any (A : Option Addr) (n c : Nat) (X : List (List UInt8)) (ke kw : Int) (w : World) (hA : Sl w w.heap.size 1 A n (X.map sv)) (hnc : n ≤ c) (hsz : ∀ x ∈ X, x.length ≤ maxLen) (hn : n ≤ maxLen) :
    Calls Tryd.prog 40 #[.slice A n c, .int .i64 ke, .int .i64 kw] w fun e w' => e = .returned (trigV (namedR X ke kw)) ∧ Below w.heap.size w w' := by
  have hX := hA.strs_len
  have hn' := hn
  unfold maxLen at hn
  cases X with
  | nil =>
    obtain rfl : n = 0 := by simpa using hX.symm
    rw [show namedR [] ke kw = none from rfl]
    go_enter Tryd.func40, Tryd.ntmps40
    go_wp2_with fail
    exact bodyPost_ret (v := .tuple #[.agg #[.int .i64 0, .string ⟨#[]⟩, .string ⟨#[]⟩, .int .i64 0], .bool false]) (by simp [results, Tryd.results40, go_sem]) rfl ⟨rfl, (Below.refl _ _).alloc (Nat.le_refl _) _⟩
  | cons l r =>
    have hn1 : 0 < n := by simp at hX; omega
    obtain ⟨b, off, rfl, hb, hc⟩ := hA.2 hn1
    have h0 := hc 0 (sv l) rfl
    obtain ⟨S, hS⟩ : ∃ S, S = baL l := ⟨_, rfl⟩
    have hcell : (w.alloc (.cells #[.int .i64 0, .string ⟨#[]⟩, .string ⟨#[]⟩, .int .i64 0] 33)).cell? ⟨b, off, none⟩ = some (.string S) := by
      rw [World.cell?_alloc_lt w _ _ hb, hS]; exact h0
    have hcs := Cs.new w #[.int .i64 0, .string ⟨#[]⟩, .string ⟨#[]⟩, .int .i64 0] 33 [.int .i64 0, .string ⟨#[]⟩, .string ⟨#[]⟩, .int .i64 0]
    have hbel0 : Below w.heap.size w (w.alloc (.cells #[.int .i64 0, .string ⟨#[]⟩, .string ⟨#[]⟩, .int .i64 0] 33)) := (Below.refl _ _).alloc (Nat.le_refl _) _
    have hA0 := (hA.below hbel0).more hbel0.size
    have htl : ∀ A', (A' = some ⟨b, off + 1, none⟩ ∨ n = 1) → Sl (w.alloc (.cells #[.int .i64 0, .string ⟨#[]⟩, .string ⟨#[]⟩, .int .i64 0] 33)) (w.alloc (.cells #[.int .i64 0, .string ⟨#[]⟩, .string ⟨#[]⟩, .int .i64 0] 33)).heap.size 1 A' (n - 1) (r.map sv) := by
      intro A' h
      rcases h with rfl | h1
      · have := Sl.dropO (k := 1) (n := n - 1) (by rw [show 1 + (n - 1) = n by omega]; exact hA0)
        simpa using this
      · have hr : r = [] := by
          have : r.length = 0 := by simp at hX; omega
          exact List.eq_nil_of_length_eq_zero this
        rw [hr, h1]
        exact Sl.nil _ _ _ _
    have hszr : ∀ x ∈ r, x.length ≤ maxLen := fun x hx => hsz x (by simp [hx])
    by_cases hst : l = star
    · have heq : (S.toList == [42]) = true := by rw [str_is, hS, hst]; rfl
      have hres : namedR (l :: r) ke kw = some ⟨kw, (makeL r).getD [], [], 0⟩ := by simp only [namedR, if_pos hst]
      rw [hres]
      obtain ⟨M, hM⟩ : ∃ M, M = baL ((makeL r).getD []) := ⟨_, rfl⟩
      have hmk := fun q A' h => makeX_any A' (n - 1) (c - 1) r ((w.alloc (.cells #[.int .i64 0, .string ⟨#[]⟩, .string ⟨#[]⟩, .int .i64 0] 33)).drewN q) ((htl A' h).drewN q) hszr (by omega)
      rw [show sv ((makeL r).getD []) = .string M by rw [hM]; rfl] at hmk
      have hgoal : trigV (some ⟨kw, (makeL r).getD [], [], 0⟩) = .tuple #[.agg #[.int .i64 kw, .string M, .string ⟨#[]⟩, .int .i64 0], .bool true] := by rw [hM]; rfl
      rw [hgoal]
      have hcond : (if c = 1 then some (⟨b, off, none⟩ : Addr) else some ⟨b, off + 1, none⟩) = some ⟨b, off + 1, none⟩ ∨ n = 1 := by
        by_cases h : c = 1
        · right; omega
        · left; rw [if_neg h]
      have HMK := Lib.hid hmk
      have HCS := Lib.hid hcs
      have HB0 := Lib.hid hbel0
      have HCO := Lib.hid hcond
      clear hmk hgoal hM hres hst hszr htl hA0 hA hc h0 hX hsz hS hcs hbel0 hcond
      have q1 : (1 : Int) ≤ n := by omega
      go_enter Tryd.func40, Tryd.ntmps40
      go_upto_region 5 with fail
      go_quiet (fail)
      have HCO2 := HCO.out
      generalize (if c = 1 then some (⟨b, off, none⟩ : Addr) else some ⟨b, off + 1, none⟩) = A' at HCO2 ⊢
      have HM2 := Lib.hid (HMK.out nq A' HCO2)
      have HCS2 := Lib.hid (HCS.out.drewN nq)
      have HB2 := Lib.hid (HB0.out.trans ((drewN_below _ nq).mono HB0.out.size))
      generalize (w.alloc (.cells #[.int .i64 0, .string ⟨#[]⟩, .string ⟨#[]⟩, .int .i64 0] 33)).drewN nq = W at HM2 HCS2 HB2 ⊢
      clear HMK HCO HCO2 HCS HB0
      go_wp2_with (go_at_call 11; refine HM2.out.mono ?_; rintro e w1 ⟨rfl, hb1⟩; refine Hid.out ?_)
      refine Lib.hid ?_
      have hC1 := HCS2.out.below hb1
      have k0 := hC1.get 0 (.int .i64 0)
      have k1 := hC1.get 1 (.string ⟨#[]⟩)
      have k2 := hC1.get 2 (.string ⟨#[]⟩)
      have k3 := hC1.get 3 (.int .i64 0)
      have z0 := hC1.froz 0
      have z1 := hC1.froz 1
      have z2 := hC1.froz 2
      have z3 := hC1.froz 3
      have HC1 := Lib.hid hC1
      have HB1 := Lib.hid (HB2.out.trans (hb1.mono HB2.out.size))
      clear hC1 hb1 HCS2 HB2
      go_wp2_with fail
      refine bodyPost_ret (v := .tuple #[.agg #[.int .i64 kw, .string M, .string ⟨#[]⟩, .int .i64 0], .bool true]) ?_ rfl ⟨rfl, below_all4 HB1.out (Nat.le_refl _)⟩
      have hfin := HC1.out.all4 (a' := .int .i64 kw) (b' := .string M) (c' := .string ⟨#[]⟩) (d' := .int .i64 0)
      have g0 := hfin.get 0 (.int .i64 kw)
      have g1 := hfin.get 1 (.string M)
      have g2 := hfin.get 2 (.string ⟨#[]⟩)
      have g3 := hfin.get 3 (.int .i64 0)
      generalize (((w1.setCell ⟨w.heap.size, 0, none⟩ (.int .i64 kw)).setCell ⟨w.heap.size, 1, none⟩ (.string M)).setCell ⟨w.heap.size, 2, none⟩ (.string ⟨#[]⟩)).setCell ⟨w.heap.size, 3, none⟩ (.int .i64 0) = WF at g0 g1 g2 g3 ⊢
      simp [results, Tryd.results40, go_sem, g0, g1, g2, g3]
    · have heq : (S.toList == [42]) = false := by rw [str_is, hS, beq_eq_false_iff_ne]; exact fun h => hst (by simpa [baL, star] using h)
      have hres : namedR (l :: r) ke kw = some ⟨ke, (makeL (l :: r)).getD [], [], 0⟩ := by simp only [namedR, if_neg hst]
      rw [hres]
      obtain ⟨M, hM⟩ : ∃ M, M = baL ((makeL (l :: r)).getD []) := ⟨_, rfl⟩
      have hmk := makeX_any (some ⟨b, off, none⟩) n c (l :: r) (w.alloc (.cells #[.int .i64 0, .string ⟨#[]⟩, .string ⟨#[]⟩, .int .i64 0] 33)) hA0 hsz hn'
      rw [show sv ((makeL (l :: r)).getD []) = .string M by rw [hM]; rfl] at hmk
      have hgoal : trigV (some ⟨ke, (makeL (l :: r)).getD [], [], 0⟩) = .tuple #[.agg #[.int .i64 ke, .string M, .string ⟨#[]⟩, .int .i64 0], .bool true] := by rw [hM]; rfl
      rw [hgoal]
      have HM2 := Lib.hid hmk
      have HCS2 := Lib.hid hcs
      have HB2 := Lib.hid hbel0
      clear hmk hgoal hM hres hst hszr htl hA0 hA hc h0 hX hsz hS hcs hbel0
      have q1 : (1 : Int) ≤ n := by omega
      go_enter Tryd.func40, Tryd.ntmps40
      go_wp2_with (go_at_call 11; refine HM2.out.mono ?_; rintro e w1 ⟨rfl, hb1⟩; refine Hid.out ?_)
      refine Lib.hid ?_
      have hC1 := HCS2.out.below hb1
      have k0 := hC1.get 0 (.int .i64 0)
      have k1 := hC1.get 1 (.string ⟨#[]⟩)
      have k2 := hC1.get 2 (.string ⟨#[]⟩)
      have k3 := hC1.get 3 (.int .i64 0)
      have z0 := hC1.froz 0
      have z1 := hC1.froz 1
      have z2 := hC1.froz 2
      have z3 := hC1.froz 3
      have HC1 := Lib.hid hC1
      have HB1 := Lib.hid (HB2.out.trans (hb1.mono HB2.out.size))
      clear hC1 hb1 HCS2 HB2
      go_wp2_with fail
      refine bodyPost_ret (v := .tuple #[.agg #[.int .i64 ke, .string M, .string ⟨#[]⟩, .int .i64 0], .bool true]) ?_ rfl ⟨rfl, below_all4 HB1.out (Nat.le_refl _)⟩
      have hfin := HC1.out.all4 (a' := .int .i64 ke) (b' := .string M) (c' := .string ⟨#[]⟩) (d' := .int .i64 0)
      have g0 := hfin.get 0 (.int .i64 ke)
      have g1 := hfin.get 1 (.string M)
      have g2 := hfin.get 2 (.string ⟨#[]⟩)
      have g3 := hfin.get 3 (.int .i64 0)
      generalize (((w1.setCell ⟨w.heap.size, 0, none⟩ (.int .i64 ke)).setCell ⟨w.heap.size, 1, none⟩ (.string M)).setCell ⟨w.heap.size, 2, none⟩ (.string ⟨#[]⟩)).setCell ⟨w.heap.size, 3, none⟩ (.int .i64 0) = WF at g0 g1 g2 g3 ⊢
      simp [results, Tryd.results40, go_sem, g0, g1, g2, g3]
end Go.Proofs.YtkdknfedieeenaaDoor
namespace Go.Proofs.YtkdknfedieeenaaDoor
open Go.RowKit
set_option linter.unusedVariables false
set_option maxRecDepth 20000

theorem trigV_shape (o : Option Trig) : ∃ tk TN TA tb ok, trigV o = .tuple #[.agg #[.int .i64 tk, .string TN, .string TA, .int .i64 tb], .bool ok] :=
  ⟨(o.getD noTrig).kind, baL (o.getD noTrig).name, baL (o.getD noTrig).addr, (o.getD noTrig).bits, o.isSome, rfl⟩
theorem addrV_shape (o : Option (List UInt8 × Int)) : ∃ TA tb ok, addrV o = .tuple #[.agg #[.string TA, .int .i64 tb], .bool ok] := by
  cases o with
  | none => exact ⟨_, _, _, rfl⟩
  | some p => exact ⟨baL p.1, p.2, true, rfl⟩
theorem labels_le {s : ByteArray} {X : List (List UInt8)} (h : labelsOf s = some X) : X.length ≤ 254 ∧ ∀ x ∈ X, x.length ≤ 63 := by
  obtain ⟨h1, h2⟩ := labels_ok h
  have : ∀ L : List (List UInt8), L.length ≤ (wire L).length := by
    intro L
    induction L with
    | nil => simp [wire]
    | cons x L ih => rw [wire_cons]; simp; omega
  refine ⟨Nat.le_trans (this X) h1.2, fun x hx => ?_⟩
  have := h1.1 x hx
  simp only [okLabel, Bool.and_eq_true, decide_eq_true_eq] at this
  omega
theorem decR_kind {X : List (List UInt8)} (h : X ≠ []) {s : ByteArray} (hs : labelsOf s = some X) : decR s.data.toList = decL X := by
  unfold decR
  rw [show nameLabels s.data.toList = some X from hs]
  cases X with
  | nil => exact absurd rfl h
  | cons => rfl

set_option maxHeartbeats 8000000 in
theorem decode_any (s : ByteArray) (w : World) (hs : s.size ≤ 140737488355328) (hL : LaidT w) :
    Calls Tryd.prog 31 #[.string s] w fun e w' => e = .returned (trigV (decR s.data.toList)) ∧ Below w.heap.size w w' := by
  have hlab := fun w => labels_any s w (by unfold maxLen; omega)
  have hcs := Cs.new w #[.int .i64 0, .string ⟨#[]⟩, .string ⟨#[]⟩, .int .i64 0] 33 [.int .i64 0, .string ⟨#[]⟩, .string ⟨#[]⟩, .int .i64 0]
  have hbel0 : Below w.heap.size w (w.alloc (.cells #[.int .i64 0, .string ⟨#[]⟩, .string ⟨#[]⟩, .int .i64 0] 33)) := (Below.refl _ _).alloc (Nat.le_refl _) _
  have HCS := Lib.hid hcs
  have HB0 := Lib.hid hbel0
  have HL0 := Lib.hid (hL.alloc (.cells #[.int .i64 0, .string ⟨#[]⟩, .string ⟨#[]⟩, .int .i64 0] 33))
  clear hcs hbel0 hL
  by_cases hbad : labelsL s = []
  · have hd : decR s.data.toList = none := by
      unfold decR
      unfold labelsL labelsOf at hbad
      cases hq : nameLabels s.data.toList with
      | none => rfl
      | some X =>
        rw [hq] at hbad
        obtain rfl : X = [] := hbad
        rfl
    rw [hd]
    have hgoal : trigV none = .tuple #[.agg #[.int .i64 0, .string ⟨#[]⟩, .string ⟨#[]⟩, .int .i64 0], .bool false] := rfl
    rw [hgoal]
    rw [hbad] at hlab
    have HLAB := Lib.hid hlab
    clear hlab hbad hd hgoal
    cases hso : (labelsOf s).isSome
    all_goals
      have HSO := Lib.hid hso
      go_enter Tryd.func31, Tryd.ntmps31
      go_wp2_with (go_at_call 38; refine (HLAB.out _).mono ?_; rintro e w1 ⟨v1, rfl, hbuf⟩; refine Hid.out ?_)
      refine Lib.hid ?_
      have hC1 := HCS.out.below hbuf.below
      have k0 := hC1.get 0 (.int .i64 0)
      have k1 := hC1.get 1 (.string ⟨#[]⟩)
      have k2 := hC1.get 2 (.string ⟨#[]⟩)
      have k3 := hC1.get 3 (.int .i64 0)
      have z0 := hC1.froz 0
      have z1 := hC1.froz 1
      have z2 := hC1.froz 2
      have z3 := hC1.froz 3
      have HC1 := Lib.hid hC1
      have HB1 := Lib.hid (HB0.out.trans (hbuf.below.mono HB0.out.size))
      obtain ⟨A1, c1, rfl, hb1, hb2, hb3⟩ := hbuf.slice
      clear hC1 hbuf hb3
      go_wp2_with fail
      refine bodyPost_ret (v := .tuple #[.agg #[.int .i64 0, .string ⟨#[]⟩, .string ⟨#[]⟩, .int .i64 0], .bool false]) ?_ rfl ⟨rfl, below_all4 HB1.out (Nat.le_refl _)⟩
      have hfin := HC1.out.all4 (a' := .int .i64 0) (b' := .string ⟨#[]⟩) (c' := .string ⟨#[]⟩) (d' := .int .i64 0)
      have g0 := hfin.get 0 (.int .i64 0)
      have g1 := hfin.get 1 (.string ⟨#[]⟩)
      have g2 := hfin.get 2 (.string ⟨#[]⟩)
      have g3 := hfin.get 3 (.int .i64 0)
      generalize (((w1.setCell ⟨w.heap.size, 0, none⟩ (.int .i64 0)).setCell ⟨w.heap.size, 1, none⟩ (.string ⟨#[]⟩)).setCell ⟨w.heap.size, 2, none⟩ (.string ⟨#[]⟩)).setCell ⟨w.heap.size, 3, none⟩ (.int .i64 0) = WF at g0 g1 g2 g3 ⊢
      simp [results, Tryd.results31, go_sem, g0, g1, g2, g3]
  · obtain ⟨X, hX⟩ : ∃ X, labelsOf s = some X := by
      cases hq : labelsOf s with
      | none => exact absurd (by unfold labelsL; rw [hq]; rfl) hbad
      | some X => exact ⟨X, rfl⟩
    have hXL : labelsL s = X := by unfold labelsL; rw [hX]; rfl
    rw [hXL] at hbad hlab
    obtain ⟨hle1, hle2⟩ := labels_le hX
    rw [decR_kind hbad hX]
    rw [show (labelsOf s).isSome = true by rw [hX]; rfl] at hlab
    have hpos : 0 < X.length := List.length_pos_iff.2 hbad
    have hsplit := last_split [] hbad
    obtain ⟨n, hn⟩ : ∃ n, n = X.length := ⟨_, rfl⟩
    rw [← hn] at hlab hle1 hpos
    obtain ⟨D, hD⟩ : ∃ D, D = X.dropLast := ⟨_, rfl⟩
    obtain ⟨y, hy⟩ : ∃ y, y = X.getLastD [] := ⟨_, rfl⟩
    have hDl : D.length = n - 1 := by rw [hD, List.length_dropLast, ← hn]
    have hdec : decL X = match kindOf y with
      | none => namedR X 1 2
      | some k => if k = 4 then namedR D 4 5 else (addrR D).map fun p => ⟨k, [], p.1, p.2⟩ := by unfold decL; rw [← hy, ← hD]; cases kindOf y <;> rfl
    rw [← hD, ← hy] at hsplit
    have hlast : X[n - 1]? = some y := by
      have h := congrArg (fun L => L[n - 1]?) hsplit
      rw [h, List.getElem?_append_right (by omega), hDl, Nat.sub_self]
      rfl
    have hDle : ∀ x ∈ D, x.length ≤ 63 := fun x hx => hle2 x (by rw [hsplit]; simp [hx])
    obtain ⟨hk1, hk2⟩ := kindL_get y
    have HLAB := Lib.hid hlab
    have HLAST := Lib.hid hlast
    have HSP := Lib.hid hsplit
    have HDL := Lib.hid hDl
    have HXL := Lib.hid hn
    have HLE2 := Lib.hid hle2
    have HDLE := Lib.hid hDle
    have HDEC := Lib.hid hdec
    have HK1 := Lib.hid hk1
    have HK2 := Lib.hid hk2
    obtain ⟨RES, hRES⟩ : ∃ RES, RES = trigV (decL X) := ⟨_, rfl⟩
    rw [← hRES]
    have HRES := Lib.hid hRES
    have m1 : (0 : Int) ≤ (n : Int) - 1 := by omega
    have m2 : ((n : Int) - 1).toNat = n - 1 := by omega
    have m3 : (n : Int) - 1 < n := by omega
    have m4 : (n : Int) - 1 ≤ n := by omega
    have m5 : IntKind.i64.wrap ((n : Int) - 1) = (n : Int) - 1 := IntWalk.i64_in _ (by omega)
    clear hlab hlast hsplit hDl hn hle2 hDle hdec hk1 hk2 hRES hX hXL hbad hD hy
    go_enter Tryd.func31, Tryd.ntmps31
    go_wp2_with (go_at_call 38; refine (HLAB.out _).mono ?_; rintro e w1 ⟨v1, rfl, hbuf⟩; refine Hid.out ?_)
    refine Lib.hid ?_
    have HC1 := Lib.hid (HCS.out.below hbuf.below)
    have HB1 := Lib.hid (HB0.out.trans (hbuf.below.mono HB0.out.size))
    have HL1 := Lib.hid (HL0.out.below hbuf.below (Nat.le_refl _))
    obtain ⟨A1, c1, rfl, hb1, hb2, hb3⟩ := hbuf.slice
    have hsl := hbuf.sl
    obtain ⟨b, off, rfl, hbw, hcell⟩ := hsl.2 hpos
    have hlc := hcell (n - 1) (sv y) (by rw [List.getElem?_map, HLAST.out]; rfl)
    obtain ⟨YB, hYB⟩ : ∃ YB, YB = baL y := ⟨_, rfl⟩
    rw [show sv y = .string YB by rw [hYB]; rfl] at hlc
    have hsa : Sl w1 w1.heap.size 1 (some ⟨b, off, none⟩) (n - 1) (D.map sv) := by
      refine ⟨by simp [HDL.out], fun _ => ⟨b, off, rfl, hbw, fun j u hu => hcell j u ?_⟩⟩
      rw [HSP.out, List.map_append, List.getElem?_append_left (List.getElem?_eq_some_iff.1 hu).1]
      exact hu
    have HSA := Lib.hid hsa
    have HSL := Lib.hid hsl
    have HYB := Lib.hid hYB
    clear hbuf hb3 hsl hcell hsa hYB HCS HB0 HL0
    go_upto_region 4 with fail
    go_quiet (fail)
    have HC2 := Lib.hid (HC1.out.drewN nq)
    have HB2 := Lib.hid (HB1.out.trans ((drewN_below w1 nq).mono HB1.out.size))
    have HL2 := Lib.hid (HL1.out.below (drewN_below w1 nq) (Nat.le_refl _))
    have HSA2 := Lib.hid (HSA.out.drewN nq)
    have HSL2 := Lib.hid (HSL.out.drewN nq)
    have hw12 : w1.heap.size ≤ (w1.drewN nq).heap.size := Nat.le_refl _
    have HSA3 : Hid (Sl (w1.drewN nq) (w1.drewN nq).heap.size 1 (some ⟨b, off, none⟩) (n - 1) (D.map sv)) := HSA2
    have HSL3 : Hid (Sl (w1.drewN nq) (w1.drewN nq).heap.size 1 (some ⟨b, off, none⟩) n (X.map sv)) := HSL2
    generalize w1.drewN nq = w2 at *
    clear HC1 HB1 HL1 HSA HSL HSA2 HSL2
    have HKI := Lib.hid (fun w => kinds_any w)
    go_wp2_with (go_at_call 39; refine (HKI.out _).mono ?_; rintro e w3 ⟨bm, rfl, hsm, hb3⟩; refine Hid.out ?_)
    refine Lib.hid ?_
    have hlk := hsm.lookup (P := Tryd.prog) Tryd.underlying94 Tryd.underlying9 (z := .int .i64 0) (by rfl) YB
    rw [HYB.out, HK1.out, HK2.out, ← HYB.out] at hlk
    have HC3 := Lib.hid (HC2.out.below hb3)
    have HB3 := Lib.hid (HB2.out.trans (hb3.mono HB2.out.size))
    have HL3 := Lib.hid (HL2.out.below hb3 (Nat.le_refl _))
    have HSA4 := Lib.hid ((HSA3.out.below hb3).more hb3.size)
    have HSL4 := Lib.hid ((HSL3.out.below hb3).more hb3.size)
    clear hb3 hsm HC2 HB2 HL2 HSA3 HSL3
    have hx63 : ∀ x ∈ X, x.length ≤ maxLen := fun x hx => by have := HLE2.out x hx; unfold maxLen; omega
    have hd63 : ∀ x ∈ D, x.length ≤ maxLen := fun x hx => by have := HDLE.out x hx; unfold maxLen; omega
    have hn63 : n ≤ maxLen := by unfold maxLen; omega
    cases hko : kindOf y with
    | none =>
      rw [hko] at hlk
      have hdx : decL X = namedR X 1 2 := by rw [HDEC.out, hko]
      obtain ⟨tk, TN, TA, tb, ok, hsh⟩ := trigV_shape (namedR X 1 2)
      have hnm := named_any (some ⟨b, off, none⟩) n c1 X 1 2 w3 HSL4.out hb1 hx63 hn63
      rw [hsh] at hnm
      have HRE := Lib.hid (HRES.out.trans (by rw [hdx, hsh]))
      have HNM := Lib.hid hnm
      simp only [Option.getD_none, Option.isSome_none] at hlk
      clear hnm hsh hdx hko HDEC HK1 HK2 HKI HSA4 HSL4 HL3 HLAB HLAST HSP
      go_wp2_with (go_at_call 40; refine HNM.out.mono ?_; rintro e w4 ⟨rfl, hb4⟩; refine Hid.out ?_)
      refine Lib.hid ?_
      have hC4 := HC3.out.below hb4
      have k0 := hC4.get 0 (.int .i64 0)
      have k1 := hC4.get 1 (.string ⟨#[]⟩)
      have k2 := hC4.get 2 (.string ⟨#[]⟩)
      have k3 := hC4.get 3 (.int .i64 0)
      have z0 := hC4.froz 0
      have z1 := hC4.froz 1
      have z2 := hC4.froz 2
      have z3 := hC4.froz 3
      have HC4 := Lib.hid hC4
      have HB4 := Lib.hid (HB3.out.trans (hb4.mono HB3.out.size))
      clear hC4 hb4 HC3 HB3
      go_wp2_with fail
      rw [HRE.out]
      refine bodyPost_ret (v := .tuple #[.agg #[.int .i64 tk, .string TN, .string TA, .int .i64 tb], .bool ok]) ?_ rfl ⟨rfl, below_all4 HB4.out (Nat.le_refl _)⟩
      have hfin := HC4.out.all4 (a' := .int .i64 tk) (b' := .string TN) (c' := .string TA) (d' := .int .i64 tb)
      have g0 := hfin.get 0 (.int .i64 tk)
      have g1 := hfin.get 1 (.string TN)
      have g2 := hfin.get 2 (.string TA)
      have g3 := hfin.get 3 (.int .i64 tb)
      generalize (((w4.setCell ⟨w.heap.size, 0, none⟩ (.int .i64 tk)).setCell ⟨w.heap.size, 1, none⟩ (.string TN)).setCell ⟨w.heap.size, 2, none⟩ (.string TA)).setCell ⟨w.heap.size, 3, none⟩ (.int .i64 tb) = WF at g0 g1 g2 g3 ⊢
      simp [results, Tryd.results31, go_sem, g0, g1, g2, g3]
    | some k =>
      rw [hko] at hlk
      simp only [Option.getD_some, Option.isSome_some] at hlk
      by_cases hk4 : k = 4
      · subst hk4
        have hdx : decL X = namedR D 4 5 := by rw [HDEC.out, hko]; rfl
        obtain ⟨tk, TN, TA, tb, ok, hsh⟩ := trigV_shape (namedR D 4 5)
        have hnm := named_any (some ⟨b, off, none⟩) (n - 1) c1 D 4 5 w3 HSA4.out (by omega) hd63 (by omega)
        rw [hsh] at hnm
        have HRE := Lib.hid (HRES.out.trans (by rw [hdx, hsh]))
        have HNM := Lib.hid hnm
        clear hnm hsh hdx hko HDEC HK1 HK2 HKI HSA4 HSL4 HL3 HLAB HLAST HSP
        go_wp2_with (go_at_call 40; refine HNM.out.mono ?_; rintro e w4 ⟨rfl, hb4⟩; refine Hid.out ?_)
        refine Lib.hid ?_
        have hC4 := HC3.out.below hb4
        have k0 := hC4.get 0 (.int .i64 0)
        have k1 := hC4.get 1 (.string ⟨#[]⟩)
        have k2 := hC4.get 2 (.string ⟨#[]⟩)
        have k3 := hC4.get 3 (.int .i64 0)
        have z0 := hC4.froz 0
        have z1 := hC4.froz 1
        have z2 := hC4.froz 2
        have z3 := hC4.froz 3
        have HC4 := Lib.hid hC4
        have HB4 := Lib.hid (HB3.out.trans (hb4.mono HB3.out.size))
        clear hC4 hb4 HC3 HB3
        go_wp2_with fail
        rw [HRE.out]
        refine bodyPost_ret (v := .tuple #[.agg #[.int .i64 tk, .string TN, .string TA, .int .i64 tb], .bool ok]) ?_ rfl ⟨rfl, below_all4 HB4.out (Nat.le_refl _)⟩
        have hfin := HC4.out.all4 (a' := .int .i64 tk) (b' := .string TN) (c' := .string TA) (d' := .int .i64 tb)
        have g0 := hfin.get 0 (.int .i64 tk)
        have g1 := hfin.get 1 (.string TN)
        have g2 := hfin.get 2 (.string TA)
        have g3 := hfin.get 3 (.int .i64 tb)
        generalize (((w4.setCell ⟨w.heap.size, 0, none⟩ (.int .i64 tk)).setCell ⟨w.heap.size, 1, none⟩ (.string TN)).setCell ⟨w.heap.size, 2, none⟩ (.string TA)).setCell ⟨w.heap.size, 3, none⟩ (.int .i64 tb) = WF at g0 g1 g2 g3 ⊢
        simp [results, Tryd.results31, go_sem, g0, g1, g2, g3]
      · have e4 : ((k : Int) == 4) = false := by rw [beq_eq_false_iff_ne]; exact hk4
        have hdx : decL X = (addrR D).map fun p => ⟨k, [], p.1, p.2⟩ := by rw [HDEC.out, hko]; simp only [if_neg hk4]
        have had := address13_any (some ⟨b, off, none⟩) (n - 1) c1 (D.map baL) w3 (by rw [baL_strings]; exact HSA4.out) (by omega) (by
          intro t ht
          obtain ⟨x, hx, rfl⟩ := List.mem_map.1 ht
          have := HDLE.out x hx
          rw [show (baL x).size = x.length by simp [baL, ByteArray.size]]; omega) (by omega) HL3.out
        rw [bytesOf_baL] at had
        cases hao : addrR D with
        | none =>
          rw [hao] at had hdx
          have had : Calls Tryd.prog 41 #[.slice (some ⟨b, off, none⟩) (n - 1) c1] w3 fun e w' => e = .returned (.tuple #[.agg #[.string ⟨#[]⟩, .int .i64 0], .bool false]) ∧ Below w3.heap.size w3 w' := had
          have HRE : Hid (RES = .tuple #[.agg #[.int .i64 0, .string ⟨#[]⟩, .string ⟨#[]⟩, .int .i64 0], .bool false]) := Lib.hid (HRES.out.trans (by rw [hdx]; rfl))
          have HAD := Lib.hid had
          clear had hdx hao hko hk4 HDEC HK1 HK2 HKI HSA4 HSL4 HL3 HLAB HLAST HSP
          go_wp2_with (go_at_call 41; refine HAD.out.mono ?_; rintro e w4 ⟨rfl, hb4⟩; refine Hid.out ?_)
          refine Lib.hid ?_
          have hC4 := (HC3.out.below hb4).alloc (.cells #[.string ⟨#[]⟩, .int .i64 0] 31)
          have k0 := hC4.get 0 (.int .i64 0)
          have k1 := hC4.get 1 (.string ⟨#[]⟩)
          have k2 := hC4.get 2 (.string ⟨#[]⟩)
          have k3 := hC4.get 3 (.int .i64 0)
          have z0 := hC4.froz 0
          have z1 := hC4.froz 1
          have z2 := hC4.froz 2
          have z3 := hC4.froz 3
          have HC4 := Lib.hid hC4
          have hB4 := HB3.out.trans (hb4.mono HB3.out.size)
          have HB4 := Lib.hid (hB4.alloc hB4.size (.cells #[.string ⟨#[]⟩, .int .i64 0] 31))
          clear hC4 hb4 HC3 HB3 hB4
          go_wp2_with fail
          rw [HRE.out]
          refine bodyPost_ret (v := .tuple #[.agg #[.int .i64 0, .string ⟨#[]⟩, .string ⟨#[]⟩, .int .i64 0], .bool false]) ?_ rfl ⟨rfl, below_all4 HB4.out (Nat.le_refl _)⟩
          have hfin := HC4.out.all4 (a' := .int .i64 0) (b' := .string ⟨#[]⟩) (c' := .string ⟨#[]⟩) (d' := .int .i64 0)
          have g0 := hfin.get 0 (.int .i64 0)
          have g1 := hfin.get 1 (.string ⟨#[]⟩)
          have g2 := hfin.get 2 (.string ⟨#[]⟩)
          have g3 := hfin.get 3 (.int .i64 0)
          generalize ((((w4.alloc (.cells #[.string ⟨#[]⟩, .int .i64 0] 31)).setCell ⟨w.heap.size, 0, none⟩ (.int .i64 0)).setCell ⟨w.heap.size, 1, none⟩ (.string ⟨#[]⟩)).setCell ⟨w.heap.size, 2, none⟩ (.string ⟨#[]⟩)).setCell ⟨w.heap.size, 3, none⟩ (.int .i64 0) = WF at g0 g1 g2 g3 ⊢
          simp [results, Tryd.results31, go_sem, g0, g1, g2, g3]
        | some p =>
          obtain ⟨pa, pb⟩ := p
          rw [hao] at had hdx
          obtain ⟨TA, hTA⟩ : ∃ TA, TA = baL pa := ⟨_, rfl⟩
          have had : Calls Tryd.prog 41 #[.slice (some ⟨b, off, none⟩) (n - 1) c1] w3 fun e w' => e = .returned (.tuple #[.agg #[.string TA, .int .i64 pb], .bool true]) ∧ Below w3.heap.size w3 w' := by rw [hTA]; exact had
          have HRE : Hid (RES = .tuple #[.agg #[.int .i64 k, .string ⟨#[]⟩, .string TA, .int .i64 pb], .bool true]) := Lib.hid (HRES.out.trans (by rw [hdx, hTA]; rfl))
          have HAD := Lib.hid had
          clear had hdx hao hko hk4 hTA HDEC HK1 HK2 HKI HSA4 HSL4 HL3 HLAB HLAST HSP
          go_wp2_with (go_at_call 41; refine HAD.out.mono ?_; rintro e w4 ⟨rfl, hb4⟩; refine Hid.out ?_)
          refine Lib.hid ?_
          have hC4 := (HC3.out.below hb4).alloc (.cells #[.string TA, .int .i64 pb] 31)
          have hne : w4.heap.size ≠ w.heap.size := by have := HC3.out.lt; have := hb4.size; omega
          have k0 := hC4.get 0 (.int .i64 0)
          have k1 := hC4.get 1 (.string ⟨#[]⟩)
          have k2 := hC4.get 2 (.string ⟨#[]⟩)
          have k3 := hC4.get 3 (.int .i64 0)
          have z0 := hC4.froz 0
          have z1 := hC4.froz 1
          have z2 := hC4.froz 2
          have z3 := hC4.froz 3
          have HC4 := Lib.hid hC4
          have hB4 := HB3.out.trans (hb4.mono HB3.out.size)
          have HB4 := Lib.hid (hB4.alloc hB4.size (.cells #[.string TA, .int .i64 pb] 31))
          clear hC4 hb4 HC3 HB3 hB4
          go_wp2_with fail
          rw [HRE.out]
          refine bodyPost_ret (v := .tuple #[.agg #[.int .i64 k, .string ⟨#[]⟩, .string TA, .int .i64 pb], .bool true]) ?_ rfl ⟨rfl, below_all4 HB4.out (Nat.le_refl _)⟩
          have hfin := HC4.out.all4 (a' := .int .i64 k) (b' := .string ⟨#[]⟩) (c' := .string TA) (d' := .int .i64 pb)
          have g0 := hfin.get 0 (.int .i64 k)
          have g1 := hfin.get 1 (.string ⟨#[]⟩)
          have g2 := hfin.get 2 (.string TA)
          have g3 := hfin.get 3 (.int .i64 pb)
          generalize ((((w4.alloc (.cells #[.string TA, .int .i64 pb] 31)).setCell ⟨w.heap.size, 0, none⟩ (.int .i64 k)).setCell ⟨w.heap.size, 1, none⟩ (.string ⟨#[]⟩)).setCell ⟨w.heap.size, 2, none⟩ (.string TA)).setCell ⟨w.heap.size, 3, none⟩ (.int .i64 pb) = WF at g0 g1 g2 g3 ⊢
          simp [results, Tryd.results31, go_sem, g0, g1, g2, g3]
end Go.Proofs.YtkdknfedieeenaaDoor
namespace Go.Proofs.YtkdknfedieeenaaDoor
open Go.RowKit
set_option linter.unusedVariables false
set_option linter.unusedSimpArgs false
set_option maxRecDepth 20000
attribute [local simp] putsF isV wordOf Deps Region.binds Region.wanted Act.put wantedX isB
theorem wire_six : ∀ (ls : List (List UInt8)), (∀ x ∈ ls, x.length ≤ 6) → (wire ls).length ≤ 7 * ls.length
  | [], _ => by simp [wire]
  | x :: ls, h => by
    have h1 := wire_six ls (fun y hy => h y (by simp [hy]))
    have h2 := h x (by simp)
    rw [wire_cons, List.length_append, List.length_cons, List.length_cons]; omega
theorem nameZ_le (zs : List Int) (hz : ∀ z ∈ zs, 0 ≤ z ∧ z < 256) : (nameZ zs).length ≤ 254 := by
  have h1 := wire_six (wordsZ zs) (fun x hx => (wordsZ_ok zs hz x hx).2.2)
  have h2 := wordsZ_len zs
  unfold nameZ
  omega
theorem ite_int7 {a b x y : Int} (h : b ≤ a) : (if a < b then x else y) = y := by rw [if_neg (by omega)]
theorem ite_nat7 {a b : Nat} {x y : Int} (h : b ≤ a) : (if a < b then x else y) = y := by rw [if_neg (by omega)]
attribute [local simp] ite_int7 ite_nat7
/-- The type and the data by a number, of a name's bytes, and a text. -/
def dataOf (q : Nat) (X s : ByteArray) : Nat × ByteArray :=
  if q = 0 ∨ q = 1 then (1, (s ++ ByteArray.mk #[1, 2, 3, 4]).extract 0 4)
  else if q = 2 then (2, X) else if q = 3 then (5, X)
  else if q = 4 then (6, X ++ ByteArray.mk #[0] ++ X ++ ByteArray.mk #[0] ++ (s ++ ByteArray.mk #[48, 49, 50, 51, 52, 53, 54, 55, 56, 57, 48, 49, 50, 51, 52, 53, 54, 55, 56, 57]).extract 0 20)
  else if q = 5 then (16, ByteArray.mk #[UInt8.ofNat s.size] ++ s.extract 0 s.size)
  else if q = 6 then (28, (s ++ ByteArray.mk #[48, 49, 50, 51, 52, 53, 54, 55, 56, 57, 97, 98, 99, 100, 101, 102]).extract 0 16)
  else (99, s.extract 0 s.size)
theorem data_follows : Tryd.prog.follows .mixedOrders = true := by kernel_rfl
/-- Some data. -/
def IsData (q : Nat) (X s : ByteArray) (e : Ending) : Prop := ∃ (t : Nat) (d : ByteArray), e = .returned (.tuple #[.int .u16 t, .string d]) ∧ t < 65536 ∧ d.size ≤ 600 ∧ dataOf q X s = (t, d)
end Go.Proofs.YtkdknfedieeenaaDoor
namespace Go.Proofs.YtkdknfedieeenaaDoor
open Go.ChangeShapes Go.WideShapes Go.ChangeAt Go.RowKit Go.Deep
set_option linter.unusedVariables false
theorem choose_list1 {α γ : Type} {f : γ → α} {p : γ → Prop} : ∀ (vs : List α), (∀ j, j < vs.length → ∃ x, vs[j]? = some (f x) ∧ p x) → ∃ xs : List γ, vs = xs.map f ∧ ∀ x ∈ xs, p x
  | [], _ => ⟨[], rfl, by simp⟩
  | v :: vs, h => by
    obtain ⟨x, hx, hp⟩ := h 0 (by simp)
    obtain ⟨xs, h1, h3⟩ := choose_list1 (f := f) (p := p) vs (fun j hj => by
      obtain ⟨x, a, c⟩ := h (j + 1) (by simpa using hj)
      exact ⟨x, by simpa using a, c⟩)
    simp at hx
    refine ⟨x :: xs, by simp [h1, hx], ?_⟩
    intro z hz
    rcases List.mem_cons.1 hz with rfl | hz
    · exact hp
    · exact h3 z hz
/-- A row: where it lies, how long it is, its room, its bytes. -/
abbrev RowT := Option Addr × Nat × Nat × List UInt8
def rowV (r : RowT) : Value := .slice r.1 r.2.1 r.2.2.1
def RowOk (w : World) (r : RowT) : Prop := SlView w r.1 r.2.1 r.2.2.1 (r.2.2.2.map bv) ∧ r.2.2.2.length = r.2.1
section
variable {H : Type} {enc : TypeId × Value → H} {P : Program} {w : World} {d : DataW H} {p : List MemPlace}
theorem view_rows {t e b : TypeId} (ht : P.underlying t = some (.slice e)) (he : P.underlying e = some (.slice b)) (hb : P.underlying b = some (.int .u8)) (hc : P.cellsOf e = 1) (hcb : P.cellsOf b = 1) {m : Nat} {cs : List Value}
    (h : DataW.trod enc P w 0 (fun _ => true) true m t cs = some (d, p)) :
    ∃ A n c, ∃ rs : List RowT, ∃ el : List (DataW H), cs = [.slice A n c] ∧ SlView w A n c (rs.map rowV) ∧ rs.length = n ∧ (∀ r ∈ rs, RowOk w r) ∧ el.length = n ∧ ((d = .nil ∧ n = 0 ∧ c = 0) ∨ ∃ sp, d = .slice el sp ∧ sp.length = c - n) := by
  obtain ⟨A, n, c, vs, hcs, hS, hl, hd⟩ := view_slice1 ht hc h
  rcases hd with ⟨rfl, rfl, rfl⟩ | ⟨el, sp, rfl, hel, hsp, hj⟩
  · obtain rfl : vs = [] := List.eq_nil_of_length_eq_zero hl
    exact ⟨A, 0, 0, [], [], hcs, hS, rfl, by simp, rfl, .inl ⟨rfl, rfl, rfl⟩⟩
  · obtain ⟨rs, h1, h3⟩ := choose_list1 (f := rowV) (p := RowOk w) vs (fun j hjj => by
      obtain ⟨u, D, pl, m', a, b', ht'⟩ := hj j (by omega)
      obtain ⟨A', n', c', zs, e1, hS', hl', hz', _⟩ := view_ints he hb hcb ht'
      simp only [List.cons.injEq, and_true] at e1
      obtain ⟨l, hl2⟩ := bytes_of zs hz'
      rw [hl2] at hS'
      refine ⟨(A', n', c', l), by rw [a, e1]; rfl, hS', ?_⟩
      have := congrArg List.length hl2
      simp at this
      show l.length = n'
      omega)
    subst h1
    exact ⟨A, n, c, rs, el, hcs, hS, by simpa using hl, h3, hel, .inr ⟨sp, rfl, hsp⟩⟩
/-- The bytes of all rows. -/
def sumR (rs : List RowT) : Nat := (rs.map fun r => r.2.1).sum
theorem sumR_cons (r : RowT) (rs : List RowT) : sumR (r :: rs) = r.2.1 + sumR rs := by simp [sumR]
theorem bulk_row {D : DataW H} {n' c' : Nat} {zs : List Int} (hl : zs.length = n') (h : (D = .nil ∧ n' = 0 ∧ c' = 0) ∨ ∃ sp, D = .slice (zs.map fun z => DataW.lit (.int .u8 z)) sp ∧ sp.length = c' - n') : n' ≤ Rows.uptoBulk D := by
  rcases h with ⟨rfl, rfl, rfl⟩ | ⟨sp, rfl, _⟩
  · omega
  · rw [bulk_slice]
    have := bulk_len (zs.map fun z => DataW.lit (H := H) (.int .u8 z))
    simp at this; omega
theorem sum_bulk : ∀ (xs : List (RowT × DataW H)), (∀ x ∈ xs, x.1.2.1 ≤ Rows.uptoBulk x.2) → sumR (xs.map (·.1)) ≤ Rows.uptoBulkAll (xs.map (·.2))
  | [], _ => by simp [sumR]
  | x :: xs, h => by
    have h4 := sum_bulk xs (fun z hz => h z (by simp [hz]))
    have h5 := h x (by simp)
    rw [List.map_cons, List.map_cons, sumR_cons, bulk_cons]
    omega
theorem view_rows2 {t e b : TypeId} (ht : P.underlying t = some (.slice e)) (he : P.underlying e = some (.slice b)) (hb : P.underlying b = some (.int .u8)) (hc : P.cellsOf e = 1) (hcb : P.cellsOf b = 1) {m : Nat} {cs : List Value}
    (h : DataW.trod enc P w 0 (fun _ => true) true m t cs = some (d, p)) :
    ∃ A n c, ∃ rs : List RowT, ∃ el : List (DataW H), cs = [.slice A n c] ∧ SlView w A n c (rs.map rowV) ∧ rs.length = n ∧ (∀ r ∈ rs, RowOk w r) ∧ el.length = n ∧ ((d = .nil ∧ n = 0 ∧ c = 0) ∨ ∃ sp, d = .slice el sp ∧ sp.length = c - n) ∧ sumR rs ≤ Rows.uptoBulkAll el := by
  obtain ⟨A, n, c, vs, hcs, hS, hl, hd⟩ := view_slice1 ht hc h
  rcases hd with ⟨rfl, rfl, rfl⟩ | ⟨el, sp, rfl, hel, hsp, hj⟩
  · obtain rfl : vs = [] := List.eq_nil_of_length_eq_zero hl
    exact ⟨A, 0, 0, [], [], hcs, hS, rfl, by simp, rfl, .inl ⟨rfl, rfl, rfl⟩, by simp [sumR]⟩
  · obtain ⟨xs, h1, h2, h3⟩ := choose_list2 (γ := RowT × DataW H) (f := fun x => rowV x.1) (g := fun x => x.2) (p := fun x => RowOk w x.1 ∧ x.1.2.1 ≤ Rows.uptoBulk x.2) vs el (by omega) (fun j hjj => by
      obtain ⟨u, D, pl, m', a, b', ht'⟩ := hj j (by omega)
      obtain ⟨A', n', c', zs, e1, hS', hl', hz', hd'⟩ := view_ints he hb hcb ht'
      simp only [List.cons.injEq, and_true] at e1
      obtain ⟨l, hl2⟩ := bytes_of zs hz'
      rw [hl2] at hS'
      refine ⟨((A', n', c', l), D), by rw [a, e1]; rfl, b', ⟨hS', ?_⟩, bulk_row hl' hd'⟩
      have := congrArg List.length hl2
      simp at this
      show l.length = n'
      omega)
    subst h1 h2
    refine ⟨A, n, c, xs.map (·.1), _, hcs, by rw [List.map_map]; exact hS, by simpa using hl, ?_, by simpa using hl, .inr ⟨sp, rfl, hsp⟩, ?_⟩
    · intro r hr
      obtain ⟨x, hx, rfl⟩ := List.mem_map.1 hr
      exact (h3 x hx).1
    · exact sum_bulk xs (fun x hx => (h3 x hx).2)
theorem weightsAll_mem {e : TypeId} {D : DataW H} {n : Nat} : ∀ {l : List (DataW H)}, D ∈ l → n ∈ D.weights P e → n ∈ DataW.weightsAll P e l
  | x :: l, h, hn => by
    unfold DataW.weightsAll
    rcases List.mem_cons.1 h with rfl | h
    · exact List.mem_append.2 (.inl hn)
    · exact List.mem_append.2 (.inr (weightsAll_mem h hn))
theorem row_sized {ts : List TypeId} {ds : List (DataW H)} (h : (DataW.weightsEach P ts ds).all (· ≤ reachBytes) = true) {j : Nat} {t e : TypeId} {el sp : List (DataW H)} (ht : ts[j]? = some t) (hd : ds[j]? = some (.slice el sp)) (hu : P.underlying t = some (.slice e))
    {D : DataW H} {n : Nat} (hD : D ∈ el) (hn : n ∈ D.weights P e) : n ≤ reachBytes := by
  refine sized_any h ht hd ?_
  simp only [DataW.weights, hu, List.mem_cons, List.mem_append]
  exact .inr (.inl (weightsAll_mem hD hn))
theorem view_rows3 {t e b : TypeId} (ht : P.underlying t = some (.slice e)) (he : P.underlying e = some (.slice b)) (hb : P.underlying b = some (.int .u8)) (hc : P.cellsOf e = 1) (hcb : P.cellsOf b = 1) (hbb : P.bytesOf b = 1) {m : Nat} {cs : List Value}
    (h : DataW.trod enc P w 0 (fun _ => true) true m t cs = some (d, p)) :
    ∃ A n c, ∃ rs : List RowT, ∃ el : List (DataW H), cs = [.slice A n c] ∧ SlView w A n c (rs.map rowV) ∧ rs.length = n ∧ (∀ r ∈ rs, RowOk w r ∧ (r.2.2.1 = 0 ∨ ∃ D ∈ el, r.2.2.1 ∈ D.weights P e)) ∧ el.length = n ∧ ((d = .nil ∧ n = 0 ∧ c = 0) ∨ ∃ sp, d = .slice el sp ∧ sp.length = c - n) := by
  obtain ⟨A, n, c, vs, hcs, hS, hl, hd⟩ := view_slice1 ht hc h
  rcases hd with ⟨rfl, rfl, rfl⟩ | ⟨el, sp, rfl, hel, hsp, hj⟩
  · obtain rfl : vs = [] := List.eq_nil_of_length_eq_zero hl
    exact ⟨A, 0, 0, [], [], hcs, hS, rfl, by simp, rfl, .inl ⟨rfl, rfl, rfl⟩⟩
  · obtain ⟨xs, h1, h2, h3⟩ := choose_list2 (γ := RowT × DataW H) (f := fun x => rowV x.1) (g := fun x => x.2) (p := fun x => RowOk w x.1 ∧ (x.1.2.2.1 = 0 ∨ x.1.2.2.1 ∈ x.2.weights P e)) vs el (by omega) (fun j hjj => by
      obtain ⟨u, D, pl, m', a, b', ht'⟩ := hj j (by omega)
      obtain ⟨A', n', c', zs, e1, hS', hl', hz', hd'⟩ := view_ints he hb hcb ht'
      simp only [List.cons.injEq, and_true] at e1
      obtain ⟨l, hl2⟩ := bytes_of zs hz'
      rw [hl2] at hS'
      have hle := hS'.le
      refine ⟨((A', n', c', l), D), by rw [a, e1]; rfl, b', ⟨hS', ?_⟩, ?_⟩
      · have := congrArg List.length hl2
        simp at this
        show l.length = n'
        omega
      · show c' = 0 ∨ c' ∈ D.weights P e
        rcases hd' with ⟨_, _, h0⟩ | ⟨sp', rfl, hsp'⟩
        · exact .inl h0
        · right
          simp only [DataW.weights, he, List.mem_cons, List.length_map, hl', hsp', hbb]
          left; omega)
    subst h1 h2
    refine ⟨A, n, c, xs.map (·.1), _, hcs, by rw [List.map_map]; exact hS, by simpa using hl, ?_, by simpa using hl, .inr ⟨sp, rfl, hsp⟩⟩
    intro r hr
    obtain ⟨x, hx, rfl⟩ := List.mem_map.1 hr
    refine ⟨(h3 x hx).1, ?_⟩
    rcases (h3 x hx).2 with h4 | h4
    · exact .inl h4
    · exact .inr ⟨x.2, List.mem_map.2 ⟨x, hx, rfl⟩, h4⟩
end
end Go.Proofs.YtkdknfedieeenaaDoor
namespace Go.Proofs.YtkdknfedieeenaaDoor
open Go.ChangeShapes Go.WideShapes Go.ChangeAt Go.RowKit Go.Deep
set_option linter.unusedVariables false
/-- A deed: its kind, its bytes, two numbers. -/
abbrev DeedT := Int × RowT × Int × Int
/-- The deeds lie one behind the other, four cells each. -/
structure Deeds4 (w : World) (A : Option Addr) (n c : Nat) (ds : List DeedT) : Prop where
  len : ds.length = n
  none_ : A = none → n = 0 ∧ c = 0
  le : n ≤ c
  max : c ≤ maxLen
  cells : 0 < n → ∃ b off, A = some ⟨b, off, none⟩ ∧ b < w.heap.size ∧ ∀ i a, ds[i]? = some a → w.cell? ⟨b, off + i * 4, none⟩ = some (.int .u8 a.1) ∧ w.cell? ⟨b, off + i * 4 + 1, none⟩ = some (rowV a.2.1) ∧ w.cell? ⟨b, off + i * 4 + 2, none⟩ = some (.int .u8 a.2.2.1) ∧ w.cell? ⟨b, off + i * 4 + 3, none⟩ = some (.int .i8 a.2.2.2)
  ok : ∀ a ∈ ds, (Lit.int .u8 a.1).wf = true ∧ RowOk w a.2.1 ∧ (Lit.int .u8 a.2.2.1).wf = true ∧ (Lit.int .i8 a.2.2.2).wf = true
/-- A deed: its kind, its bytes, a number. -/
abbrev Deed3 := Int × RowT × Int
/-- The deeds lie one behind the other, three cells each. -/
structure Deeds3 (w : World) (A : Option Addr) (n c : Nat) (ds : List Deed3) : Prop where
  len : ds.length = n
  none_ : A = none → n = 0 ∧ c = 0
  le : n ≤ c
  max : c ≤ maxLen
  cells : 0 < n → ∃ b off, A = some ⟨b, off, none⟩ ∧ b < w.heap.size ∧ ∀ i a, ds[i]? = some a → w.cell? ⟨b, off + i * 3, none⟩ = some (.int .u8 a.1) ∧ w.cell? ⟨b, off + i * 3 + 1, none⟩ = some (rowV a.2.1) ∧ w.cell? ⟨b, off + i * 3 + 2, none⟩ = some (.int .i8 a.2.2)
  ok : ∀ a ∈ ds, (Lit.int .u8 a.1).wf = true ∧ RowOk w a.2.1 ∧ (Lit.int .i8 a.2.2).wf = true
theorem choose_idx {γ : Type} : ∀ (n : Nat) {p : Nat → γ → Prop}, (∀ j, j < n → ∃ x, p j x) → ∃ xs : List γ, xs.length = n ∧ ∀ j x, xs[j]? = some x → p j x
  | 0, _, _ => ⟨[], rfl, by intro j x h; simp at h⟩
  | n + 1, p, h => by
    obtain ⟨x, hx⟩ := h 0 (by omega)
    obtain ⟨xs, h1, h2⟩ := choose_idx n (p := fun j => p (j + 1)) (fun j hj => h (j + 1) (by omega))
    refine ⟨x :: xs, by simp [h1], fun j y hy => ?_⟩
    cases j with
    | zero => simp at hy; subst hy; exact hx
    | succ j => exact h2 j y (by simpa using hy)
section
variable {H : Type} {enc : TypeId × Value → H} {P : Program} {w : World} {d : DataW H} {p : List MemPlace}
theorem view_deeds4 {t e b : TypeId} {f0 f1 f2 f3 : Field} (ht : P.underlying t = some (.slice e)) (hs : P.underlying e = some (.struct #[f0, f1, f2, f3])) (hone : oneCellFields P #[f0, f1, f2, f3] = true) (hC : P.cellsOf e = 4)
    (h0 : P.underlying f0.type = some (.int .u8)) (h1 : P.underlying f1.type = some (.slice b)) (hb : P.underlying b = some (.int .u8)) (hcb : P.cellsOf b = 1) (hbb : P.bytesOf b = 1) (h2 : P.underlying f2.type = some (.int .u8)) (h3 : P.underlying f3.type = some (.int .i8)) {m : Nat} {cs : List Value}
    (h : DataW.trod enc P w 0 (fun _ => true) true m t cs = some (d, p)) :
    ∃ A n c, ∃ ds : List DeedT, ∃ el : List (DataW H), cs = [.slice A n c] ∧ Deeds4 w A n c ds ∧ el.length = n ∧ ((d = .nil ∧ n = 0 ∧ c = 0) ∨ ∃ sp, d = .slice el sp ∧ sp.length = c - n) ∧
      ∀ a ∈ ds, a.2.1.2.2.1 = 0 ∨ ∃ D ∈ el, a.2.1.2.2.1 ∈ D.weights P e := by
  rcases open_slice ht h with ⟨rfl, hx⟩ | ⟨a, len, cap, m', n', D, Pl, rfl, hbase, hl, hm, hmm, hx, hi⟩
  · simp only [Prod.mk.injEq] at hx
    exact ⟨none, 0, 0, [], [], rfl, ⟨rfl, fun _ => ⟨rfl, rfl⟩, Nat.le_refl _, Nat.zero_le _, fun h => absurd h (by omega), by simp⟩, rfl, .inl ⟨hx.1, rfl, rfl⟩, by simp⟩
  · simp only [if_true] at hmm
    simp only [Prod.mk.injEq] at hx
    have key : ∀ j, j < len → ∃ x : DeedT, (w.cell? (a.add (j * 4)) = some (.int .u8 x.1) ∧ w.cell? (a.add (j * 4 + 1)) = some (rowV x.2.1) ∧ w.cell? (a.add (j * 4 + 2)) = some (.int .u8 x.2.2.1) ∧ w.cell? (a.add (j * 4 + 3)) = some (.int .i8 x.2.2.2)) ∧
        ((Lit.int .u8 x.1).wf = true ∧ RowOk w x.2.1 ∧ (Lit.int .u8 x.2.2.1).wf = true ∧ (Lit.int .i8 x.2.2.2).wf = true) ∧ (x.2.1.2.2.1 = 0 ∨ x.2.1.2.2.1 ∈ (D j).weights P e) := by
      intro j hj
      obtain ⟨cs', g1, g2⟩ := hi j (by omega)
      rw [hC] at g1
      obtain ⟨_, hlen, hcell⟩ := World.cells?_some g1
      match cs', hlen with
      | [v0, v1, v2, v3], _ =>
        obtain ⟨y0, y1, y2, y3, k, hy, _, t0, t1, t2, t3⟩ := Joins.trod_struct4 hs g2
        obtain ⟨o0, k0⟩ := hone_of hone 0 f0 rfl
        obtain ⟨o1, k1⟩ := hone_of hone 1 f1 rfl
        obtain ⟨o2, k2⟩ := hone_of hone 2 f2 rfl
        obtain ⟨o3, k3⟩ := hone_of hone 3 f3 rfl
        rw [o0, k0] at t0
        rw [o1, k1] at t1
        rw [o2, k2] at t2
        rw [o3, k3] at t3
        simp only [List.drop_zero, List.take_succ_cons, List.take_zero, List.drop_succ_cons] at t0 t1 t2 t3
        obtain ⟨z0, e0, -, w0⟩ := DataW.trod_int h0 t0
        obtain ⟨A', n2, c', zs, e1, hS', hl', hz', hd'⟩ := view_ints h1 hb hcb t1
        obtain ⟨z2, e2, -, w2⟩ := DataW.trod_int h2 t2
        obtain ⟨z3, e3, -, w3⟩ := DataW.trod_int h3 t3
        simp only [List.cons.injEq, and_true] at e0 e1 e2 e3
        subst e0 e1 e2 e3
        obtain ⟨l, hl2⟩ := bytes_of zs hz'
        rw [hl2] at hS'
        have hle := hS'.le
        refine ⟨(z0, (A', n2, c', l), z2, z3), ⟨?_, ?_, ?_, ?_⟩, ⟨w0, ⟨hS', ?_⟩, w2, w3⟩, ?_⟩
        · have q := hcell 0 (by omega); rw [Addr.add_add] at q; exact q
        · have q := hcell 1 (by omega); rw [Addr.add_add] at q; exact q
        · have q := hcell 2 (by omega); rw [Addr.add_add] at q; exact q
        · have q := hcell 3 (by omega); rw [Addr.add_add] at q; exact q
        · have := congrArg List.length hl2
          simp at this
          show l.length = n2
          omega
        · show c' = 0 ∨ c' ∈ (D j).weights P e
          rcases hd' with ⟨_, _, h00⟩ | ⟨sp', hy1, hsp'⟩
          · exact .inl h00
          · right
            have hDj : D j = .agg [y0.1, y1.1, y2.1, y3.1] := by
              have := congrArg Prod.fst hy
              exact this
            rw [hDj]
            simp only [DataW.weights, hs, DataW.weightsEach, List.map_cons, List.map_nil]
            rw [hy1]
            simp [DataW.weights, h1, hl', hsp', hbb]
            right; left
            omega
    obtain ⟨ds, hal, has⟩ := choose_idx len key
    refine ⟨some a, len, cap, ds, (List.range len).map D, rfl, ⟨hal, (fun h => by cases h), hl, hm, fun hn => ?_, ?_⟩, by simp, .inr ⟨_, hx.1, by simp; omega⟩, ?_⟩
    · obtain ⟨b', off, spot⟩ := a
      obtain ⟨x0, hx0⟩ : ∃ x, ds[0]? = some x := ⟨_, List.getElem?_eq_getElem (by omega)⟩
      have g0 := (has 0 x0 hx0).1.1
      have hspot : spot = none := by simpa [Addr.add] using World.cell?_spot g0
      subst hspot
      refine ⟨b', off, rfl, ?_, fun i x hx' => ?_⟩
      · have := World.block_lt_of_cell? w _ g0
        rwa [Addr.add_lit] at this
      · obtain ⟨q0, q1, q2, q3⟩ := (has i x hx').1
        rw [Addr.add_lit] at q0 q1 q2 q3
        exact ⟨q0, by rw [Nat.add_assoc]; exact q1, by rw [Nat.add_assoc]; exact q2, by rw [Nat.add_assoc]; exact q3⟩
    · intro x hx'
      obtain ⟨i, hi', rfl⟩ := List.getElem_of_mem hx'
      exact (has i _ (List.getElem?_eq_getElem hi')).2.1
    · intro x hx'
      obtain ⟨i, hi', rfl⟩ := List.getElem_of_mem hx'
      rcases (has i _ (List.getElem?_eq_getElem hi')).2.2 with h4 | h4
      · exact .inl h4
      · exact .inr ⟨D i, List.mem_map.2 ⟨i, by simp; omega, rfl⟩, h4⟩
theorem sum_idx {γ : Type} (f : γ → Nat) : ∀ (ds : List γ) (D : Nat → DataW H), (∀ j x, ds[j]? = some x → f x ≤ Rows.uptoBulk (D j)) → (ds.map f).sum ≤ Rows.uptoBulkAll ((List.range ds.length).map D)
  | [], _, _ => by simp
  | x :: ds, D, h => by
    have h1 := sum_idx f ds (fun j => D (j + 1)) (fun j y hy => h (j + 1) y (by simpa using hy))
    have h2 := h 0 x rfl
    rw [List.length_cons, List.range_succ_eq_map, List.map_cons, List.map_cons, List.map_map, List.sum_cons, bulk_cons]
    have h3 : (List.range ds.length).map (D ∘ Nat.succ) = (List.range ds.length).map (fun j => D (j + 1)) := rfl
    rw [h3]; omega
theorem view_deeds3 {t e b : TypeId} {f0 f1 f2 : Field} (ht : P.underlying t = some (.slice e)) (hs : P.underlying e = some (.struct #[f0, f1, f2])) (hone : oneCellFields P #[f0, f1, f2] = true) (hC : P.cellsOf e = 3)
    (h0 : P.underlying f0.type = some (.int .u8)) (h1 : P.underlying f1.type = some (.slice b)) (hb : P.underlying b = some (.int .u8)) (hcb : P.cellsOf b = 1) (hbb : P.bytesOf b = 1) (h2 : P.underlying f2.type = some (.int .i8)) {m : Nat} {cs : List Value}
    (h : DataW.trod enc P w 0 (fun _ => true) true m t cs = some (d, p)) :
    ∃ A n c, ∃ ds : List Deed3, ∃ el : List (DataW H), cs = [.slice A n c] ∧ Deeds3 w A n c ds ∧ el.length = n ∧ ((d = .nil ∧ n = 0 ∧ c = 0) ∨ ∃ sp, d = .slice el sp ∧ sp.length = c - n) ∧
      (∀ a ∈ ds, a.2.1.2.2.1 = 0 ∨ ∃ D ∈ el, a.2.1.2.2.1 ∈ D.weights P e) ∧ (ds.map fun a => a.2.1.2.1).sum ≤ Rows.uptoBulkAll el := by
  rcases open_slice ht h with ⟨rfl, hx⟩ | ⟨a, len, cap, m', n', D, Pl, rfl, hbase, hl, hm, hmm, hx, hi⟩
  · simp only [Prod.mk.injEq] at hx
    exact ⟨none, 0, 0, [], [], rfl, ⟨rfl, fun _ => ⟨rfl, rfl⟩, Nat.le_refl _, Nat.zero_le _, fun h => absurd h (by omega), by simp⟩, rfl, .inl ⟨hx.1, rfl, rfl⟩, by simp, by simp⟩
  · simp only [if_true] at hmm
    simp only [Prod.mk.injEq] at hx
    have key : ∀ j, j < len → ∃ x : Deed3, (w.cell? (a.add (j * 3)) = some (.int .u8 x.1) ∧ w.cell? (a.add (j * 3 + 1)) = some (rowV x.2.1) ∧ w.cell? (a.add (j * 3 + 2)) = some (.int .i8 x.2.2)) ∧
        ((Lit.int .u8 x.1).wf = true ∧ RowOk w x.2.1 ∧ (Lit.int .i8 x.2.2).wf = true) ∧ (x.2.1.2.2.1 = 0 ∨ x.2.1.2.2.1 ∈ (D j).weights P e) ∧ x.2.1.2.1 ≤ Rows.uptoBulk (D j) := by
      intro j hj
      obtain ⟨cs', g1, g2⟩ := hi j (by omega)
      rw [hC] at g1
      obtain ⟨_, hlen, hcell⟩ := World.cells?_some g1
      match cs', hlen with
      | [v0, v1, v2], _ =>
        obtain ⟨y0, y1, y2, k, hy, _, t0, t1, t2⟩ := Go.Deep.trod_struct3 hs g2
        obtain ⟨o0, k0⟩ := hone_of hone 0 f0 rfl
        obtain ⟨o1, k1⟩ := hone_of hone 1 f1 rfl
        obtain ⟨o2, k2⟩ := hone_of hone 2 f2 rfl
        rw [o0, k0] at t0
        rw [o1, k1] at t1
        rw [o2, k2] at t2
        simp only [List.drop_zero, List.take_succ_cons, List.take_zero, List.drop_succ_cons] at t0 t1 t2
        obtain ⟨z0, e0, -, w0⟩ := DataW.trod_int h0 t0
        obtain ⟨A', n2, c', zs, e1, hS', hl', hz', hd'⟩ := view_ints h1 hb hcb t1
        obtain ⟨z2, e2, -, w2⟩ := DataW.trod_int h2 t2
        simp only [List.cons.injEq, and_true] at e0 e1 e2
        subst e0 e1 e2
        obtain ⟨l, hl2⟩ := bytes_of zs hz'
        rw [hl2] at hS'
        have hle := hS'.le
        refine ⟨(z0, (A', n2, c', l), z2), ⟨?_, ?_, ?_⟩, ⟨w0, ⟨hS', ?_⟩, w2⟩, ?_, ?_⟩
        · have q := hcell 0 (by omega); rw [Addr.add_add] at q; exact q
        · have q := hcell 1 (by omega); rw [Addr.add_add] at q; exact q
        · have q := hcell 2 (by omega); rw [Addr.add_add] at q; exact q
        · have := congrArg List.length hl2
          simp at this
          show l.length = n2
          omega
        · show c' = 0 ∨ c' ∈ (D j).weights P e
          rcases hd' with ⟨_, _, h00⟩ | ⟨sp', hy1, hsp'⟩
          · exact .inl h00
          · right
            have hDj : D j = .agg [y0.1, y1.1, y2.1] := by
              have := congrArg Prod.fst hy
              exact this
            rw [hDj]
            simp only [DataW.weights, hs, DataW.weightsEach, List.map_cons, List.map_nil]
            rw [hy1]
            simp [DataW.weights, h1, hl', hsp', hbb]
            right; left
            omega
        · have hDj : D j = .agg [y0.1, y1.1, y2.1] := by
            have := congrArg Prod.fst hy
            exact this
          rw [hDj, bulk_agg, bulk_cons, bulk_cons]
          have h9 := bulk_row hl' hd'
          show n2 ≤ _
          omega
    obtain ⟨ds, hal, has⟩ := choose_idx len key
    refine ⟨some a, len, cap, ds, (List.range len).map D, rfl, ⟨hal, (fun h => by cases h), hl, hm, fun hn => ?_, ?_⟩, by simp, .inr ⟨_, hx.1, by simp; omega⟩, ?_, by have h9 := sum_idx (fun a : Deed3 => a.2.1.2.1) ds D (fun j x hx => (has j x hx).2.2.2); rw [hal] at h9; exact h9⟩
    · obtain ⟨b', off, spot⟩ := a
      obtain ⟨x0, hx0⟩ : ∃ x, ds[0]? = some x := ⟨_, List.getElem?_eq_getElem (by omega)⟩
      have g0 := (has 0 x0 hx0).1.1
      have hspot : spot = none := by simpa [Addr.add] using World.cell?_spot g0
      subst hspot
      refine ⟨b', off, rfl, ?_, fun i x hx' => ?_⟩
      · have := World.block_lt_of_cell? w _ g0
        rwa [Addr.add_lit] at this
      · obtain ⟨q0, q1, q2⟩ := (has i x hx').1
        rw [Addr.add_lit] at q0 q1 q2
        exact ⟨q0, by rw [Nat.add_assoc]; exact q1, by rw [Nat.add_assoc]; exact q2⟩
    · intro x hx'
      obtain ⟨i, hi', rfl⟩ := List.getElem_of_mem hx'
      exact (has i _ (List.getElem?_eq_getElem hi')).2.1
    · intro x hx'
      obtain ⟨i, hi', rfl⟩ := List.getElem_of_mem hx'
      rcases (has i _ (List.getElem?_eq_getElem hi')).2.2.1 with h4 | h4
      · exact .inl h4
      · exact .inr ⟨D i, List.mem_map.2 ⟨i, by simp; omega, rfl⟩, h4⟩
end
end Go.Proofs.YtkdknfedieeenaaDoor
namespace Go.Proofs.YtkdknfedieeenaaDoor
open Go.ChangeShapes Go.WideShapes Go.ChangeAt Go.RowKit Go.Deep
set_option linter.unusedVariables false
/-- A record by numbers: name, kind, time, data, text. -/
abbrev ActT := RowT × Int × Int × RowT × ByteArray
/-- They lie one behind the other, five cells each. -/
structure Acts5 (w : World) (A : Option Addr) (n c : Nat) (ds : List ActT) : Prop where
  len : ds.length = n
  none_ : A = none → n = 0 ∧ c = 0
  le : n ≤ c
  max : c ≤ maxLen
  cells : 0 < n → ∃ b off, A = some ⟨b, off, none⟩ ∧ b < w.heap.size ∧ ∀ i a, ds[i]? = some a → w.cell? ⟨b, off + i * 5, none⟩ = some (rowV a.1) ∧ w.cell? ⟨b, off + i * 5 + 1, none⟩ = some (.int .u8 a.2.1) ∧ w.cell? ⟨b, off + i * 5 + 2, none⟩ = some (.int .u32 a.2.2.1) ∧
    w.cell? ⟨b, off + i * 5 + 3, none⟩ = some (rowV a.2.2.2.1) ∧ w.cell? ⟨b, off + i * 5 + 4, none⟩ = some (.string a.2.2.2.2)
  ok : ∀ a ∈ ds, RowOk w a.1 ∧ (Lit.int .u8 a.2.1).wf = true ∧ (Lit.int .u32 a.2.2.1).wf = true ∧ RowOk w a.2.2.2.1 ∧ a.2.2.2.2.size ≤ maxLen
section
variable {H : Type} {enc : TypeId × Value → H} {P : Program} {w : World} {d : DataW H} {p : List MemPlace}
theorem view_acts5 {t e b0 b3 : TypeId} {f0 f1 f2 f3 f4 : Field} (ht : P.underlying t = some (.slice e)) (hs : P.underlying e = some (.struct #[f0, f1, f2, f3, f4])) (hone : oneCellFields P #[f0, f1, f2, f3, f4] = true) (hC : P.cellsOf e = 5)
    (h0 : P.underlying f0.type = some (.slice b0)) (hb0 : P.underlying b0 = some (.int .u8)) (hcb0 : P.cellsOf b0 = 1) (hbb0 : P.bytesOf b0 = 1) (h1 : P.underlying f1.type = some (.int .u8)) (h2 : P.underlying f2.type = some (.int .u32))
    (h3 : P.underlying f3.type = some (.slice b3)) (hb3 : P.underlying b3 = some (.int .u8)) (hcb3 : P.cellsOf b3 = 1) (hbb3 : P.bytesOf b3 = 1) (h4 : P.underlying f4.type = some .string) {m : Nat} {cs : List Value}
    (h : DataW.trod enc P w 0 (fun _ => true) true m t cs = some (d, p)) :
    ∃ A n c, ∃ ds : List ActT, ∃ el : List (DataW H), cs = [.slice A n c] ∧ Acts5 w A n c ds ∧ el.length = n ∧ ((d = .nil ∧ n = 0 ∧ c = 0) ∨ ∃ sp, d = .slice el sp ∧ sp.length = c - n) ∧
      ∀ a ∈ ds, (a.1.2.2.1 = 0 ∨ ∃ D ∈ el, a.1.2.2.1 ∈ D.weights P e) ∧ (a.2.2.2.1.2.2.1 = 0 ∨ ∃ D ∈ el, a.2.2.2.1.2.2.1 ∈ D.weights P e) := by
  rcases open_slice ht h with ⟨rfl, hx⟩ | ⟨a, len, cap, m', n', D, Pl, rfl, hbase, hl, hm, hmm, hx, hi⟩
  · simp only [Prod.mk.injEq] at hx
    exact ⟨none, 0, 0, [], [], rfl, ⟨rfl, fun _ => ⟨rfl, rfl⟩, Nat.le_refl _, Nat.zero_le _, fun h => absurd h (by omega), by simp⟩, rfl, .inl ⟨hx.1, rfl, rfl⟩, by simp⟩
  · simp only [if_true] at hmm
    simp only [Prod.mk.injEq] at hx
    have key : ∀ j, j < len → ∃ x : ActT, (w.cell? (a.add (j * 5)) = some (rowV x.1) ∧ w.cell? (a.add (j * 5 + 1)) = some (.int .u8 x.2.1) ∧ w.cell? (a.add (j * 5 + 2)) = some (.int .u32 x.2.2.1) ∧ w.cell? (a.add (j * 5 + 3)) = some (rowV x.2.2.2.1) ∧ w.cell? (a.add (j * 5 + 4)) = some (.string x.2.2.2.2)) ∧
        (RowOk w x.1 ∧ (Lit.int .u8 x.2.1).wf = true ∧ (Lit.int .u32 x.2.2.1).wf = true ∧ RowOk w x.2.2.2.1 ∧ x.2.2.2.2.size ≤ maxLen) ∧ (x.1.2.2.1 = 0 ∨ x.1.2.2.1 ∈ (D j).weights P e) ∧ (x.2.2.2.1.2.2.1 = 0 ∨ x.2.2.2.1.2.2.1 ∈ (D j).weights P e) := by
      intro j hj
      obtain ⟨cs', g1, g2⟩ := hi j (by omega)
      rw [hC] at g1
      obtain ⟨_, hlen, hcell⟩ := World.cells?_some g1
      match cs', hlen with
      | [v0, v1, v2, v3, v4], _ =>
        obtain ⟨ys, k, _, hy, _, hyl, hf⟩ := DataW.trod_struct hs g2
        match ys, hyl with
        | [y0, y1, y2, y3, y4], _ =>
        have t0 := hf 0 f0 rfl
        have t1 := hf 1 f1 rfl
        have t2 := hf 2 f2 rfl
        have t3 := hf 3 f3 rfl
        have t4 := hf 4 f4 rfl
        obtain ⟨o0, k0⟩ := hone_of hone 0 f0 rfl
        obtain ⟨o1, k1⟩ := hone_of hone 1 f1 rfl
        obtain ⟨o2, k2⟩ := hone_of hone 2 f2 rfl
        obtain ⟨o3, k3⟩ := hone_of hone 3 f3 rfl
        obtain ⟨o4, k4⟩ := hone_of hone 4 f4 rfl
        rw [o0, k0] at t0
        rw [o1, k1] at t1
        rw [o2, k2] at t2
        rw [o3, k3] at t3
        rw [o4, k4] at t4
        simp only [List.drop_zero, List.take_succ_cons, List.take_zero, List.drop_succ_cons, List.getElem?_cons_zero, List.getElem?_cons_succ] at t0 t1 t2 t3 t4
        obtain ⟨A', n2, c', zs, e0, hS', hl', hz', hd'⟩ := view_ints h0 hb0 hcb0 t0
        obtain ⟨z1, e1, -, w1⟩ := DataW.trod_int h1 t1
        obtain ⟨z2, e2, -, w2⟩ := DataW.trod_int h2 t2
        obtain ⟨A3, n3, c3, zs3, e3, hS3, hl3, hz3, hd3⟩ := view_ints h3 hb3 hcb3 t3
        obtain ⟨z4, e4, -, w4⟩ := DataW.trod_string h4 t4
        simp only [List.cons.injEq, and_true] at e0 e1 e2 e3 e4
        subst e0 e1 e2 e3 e4
        obtain ⟨l, hl2⟩ := bytes_of zs hz'
        obtain ⟨l3, hl4⟩ := bytes_of zs3 hz3
        rw [hl2] at hS'
        rw [hl4] at hS3
        have hle := hS'.le
        have hle3 := hS3.le
        have hDj : D j = .agg [y0.1, y1.1, y2.1, y3.1, y4.1] := by
          have := congrArg Prod.fst hy
          simpa using this
        refine ⟨((A', n2, c', l), z1, z2, (A3, n3, c3, l3), z4), ⟨?_, ?_, ?_, ?_, ?_⟩, ⟨⟨hS', ?_⟩, w1, w2, ⟨hS3, ?_⟩, w4⟩, ?_, ?_⟩
        · have q := hcell 0 (by omega); rw [Addr.add_add] at q; exact q
        · have q := hcell 1 (by omega); rw [Addr.add_add] at q; exact q
        · have q := hcell 2 (by omega); rw [Addr.add_add] at q; exact q
        · have q := hcell 3 (by omega); rw [Addr.add_add] at q; exact q
        · have q := hcell 4 (by omega); rw [Addr.add_add] at q; exact q
        · have := congrArg List.length hl2
          simp at this
          show l.length = n2
          omega
        · have := congrArg List.length hl4
          simp at this
          show l3.length = n3
          omega
        · show c' = 0 ∨ c' ∈ (D j).weights P e
          rcases hd' with ⟨_, _, h00⟩ | ⟨sp', hy1, hsp'⟩
          · exact .inl h00
          · right
            rw [hDj]
            simp only [DataW.weights, hs, DataW.weightsEach, List.map_cons, List.map_nil]
            rw [hy1]
            simp [DataW.weights, h0, hl', hsp', hbb0]
            left
            omega
        · show c3 = 0 ∨ c3 ∈ (D j).weights P e
          rcases hd3 with ⟨_, _, h00⟩ | ⟨sp', hy1, hsp'⟩
          · exact .inl h00
          · right
            rw [hDj]
            simp only [DataW.weights, hs, DataW.weightsEach, List.map_cons, List.map_nil]
            rw [hy1]
            simp [DataW.weights, h3, hl3, hsp', hbb3]
            right; right; right; left
            omega
    obtain ⟨ds, hal, has⟩ := choose_idx len key
    refine ⟨some a, len, cap, ds, (List.range len).map D, rfl, ⟨hal, (fun h => by cases h), hl, hm, fun hn => ?_, ?_⟩, by simp, .inr ⟨_, hx.1, by simp; omega⟩, ?_⟩
    · obtain ⟨b', off, spot⟩ := a
      obtain ⟨x0, hx0⟩ : ∃ x, ds[0]? = some x := ⟨_, List.getElem?_eq_getElem (by omega)⟩
      have g0 := (has 0 x0 hx0).1.1
      have hspot : spot = none := by simpa [Addr.add] using World.cell?_spot g0
      subst hspot
      refine ⟨b', off, rfl, ?_, fun i x hx' => ?_⟩
      · have := World.block_lt_of_cell? w _ g0
        rwa [Addr.add_lit] at this
      · obtain ⟨q0, q1, q2, q3, q4⟩ := (has i x hx').1
        rw [Addr.add_lit] at q0 q1 q2 q3 q4
        exact ⟨q0, by rw [Nat.add_assoc]; exact q1, by rw [Nat.add_assoc]; exact q2, by rw [Nat.add_assoc]; exact q3, by rw [Nat.add_assoc]; exact q4⟩
    · intro x hx'
      obtain ⟨i, hi', rfl⟩ := List.getElem_of_mem hx'
      exact (has i _ (List.getElem?_eq_getElem hi')).2.1
    · intro x hx'
      obtain ⟨i, hi', rfl⟩ := List.getElem_of_mem hx'
      obtain ⟨g0, g3⟩ := (has i _ (List.getElem?_eq_getElem hi')).2.2
      have hD : D i ∈ (List.range len).map D := List.mem_map.2 ⟨i, by simp; omega, rfl⟩
      exact ⟨g0.imp id fun q => ⟨D i, hD, q⟩, g3.imp id fun q => ⟨D i, hD, q⟩⟩
end
end Go.Proofs.YtkdknfedieeenaaDoor
namespace Go.Proofs.YtkdknfedieeenaaDoor
open Go.RowKit
set_option linter.unusedVariables false
/-- The world goes on: nothing that was there turns but block g. -/
def GoesBut (g : Nat) (w w' : World) : Prop := w.heap.size ≤ w'.heap.size ∧ ∀ k, k < w.heap.size → k ≠ g → w'.heap[k]? = w.heap[k]?
theorem GoesBut.refl (g : Nat) (w : World) : GoesBut g w w := ⟨Nat.le_refl _, fun _ _ _ => rfl⟩
theorem GoesBut.alloc (g : Nat) (w : World) (o : Obj) : GoesBut g w (w.alloc o) := ⟨by simp, fun k hk _ => Below.heap_alloc w o k hk⟩
theorem GoesBut.set (g j : Nat) (w : World) (u : Value) : GoesBut g w (w.setCell ⟨g, j, none⟩ u) := ⟨by simp, fun k _ hk => Below.heap_setCell w _ u k hk⟩
theorem GoesBut.below {g : Nat} {w w' : World} (h : Below w.heap.size w w') : GoesBut g w w' := ⟨h.size, fun k hk _ => h.block k hk⟩
theorem GoesBut.cell {g : Nat} {w w' : World} (h : GoesBut g w w') {b j : Nat} (hb : b < w.heap.size) (hg : b ≠ g) : w'.cell? ⟨b, j, none⟩ = w.cell? ⟨b, j, none⟩ := World.cell?_of_block (w := w) (h.2 b hb hg)
def AllStayX (Ext : World → World → Prop) : List (Value → World → Prop) → Prop
  | [] => True
  | p :: ps => (∀ v w w', p v w → Ext w w' → p v w') ∧ AllStayX Ext ps
theorem AllStayX.mem {Ext : World → World → Prop} : ∀ {l : List (Value → World → Prop)}, AllStayX Ext l → ∀ p ∈ l, ∀ v w w', p v w → Ext w w' → p v w'
  | q :: l, h, p, hp => by
    rcases List.mem_cons.1 hp with rfl | hp
    · exact h.1
    · exact AllStayX.mem h.2 p hp
theorem isV_stayX (Ext : World → World → Prop) (u : Value) : ∀ v w w', isV u v w → Ext w w' → isV u v w' := fun _ _ _ h _ => h
section
variable {P : Program} {ops : Array Oper} {Q : Exit → Act → World → Prop}
theorem wp_region_ext {id : Nat} {base : Act} {w0 : World} (hm : P.follows .mixedOrders = true) {FF : (Nat → Value) → Act} (hFF : ∀ x, putsF x 0 (ops.toList.map (·.dst)) base = FF x) (R : World → Prop) (Ext : World → World → Prop) (Ws : List (Value → World → Prop))
    (hn : noTwice (ops.toList.map (·.dst)) = true) (hg : guardsIn ops base.tmps.size = true) (hwf : wellFormed ops = true) (hlen : Ws.length = ops.size) (stays : AllStayX Ext Ws) (refl : ∀ w, Ext w w) (start : R w0.drew)
    (steps : OpStepsG P ops Q Ws R Ext FF 0 ops.toList)
    (fin : ∀ (x : Nat → Value) (w : World), R w → AllWords Ws x w 0 Ws → Q .normal (FF x) w) :
    (Code.region id ops true).wp P Q base w0 :=
  wp_region_words hm Ws R Ext hn hwf hlen stays.mem refl start (OpStepsG.steps hn hg hFF ops.toList 0 (fun _ h => h) steps) (fun x w hr hw => by rw [hFF x]; exact fin x w hr hw)
end
theorem next_of {A a' : Act} {d : Option Tmp} {p : Value → World → Prop} {R : World → Prop} {Ext : World → World → Prop} {w w' : World} (v : Value) (ha : a' = A.put d v) (hp : p v w') (hR : R w') (he : Ext w w') : Next A d p R Ext w a' w' := ⟨v, ha, hp, hR, he⟩
end Go.Proofs.YtkdknfedieeenaaDoor
