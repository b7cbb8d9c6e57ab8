/- The contract of layer 13: Prefix. -/
import Derived.Test.YtkdknfedieeenaaGreatDoorOwnB
namespace Go.Proofs.YtkdknfedieeenaaGreatDoor
open Go.RowKit
set_option linter.unusedVariables false
set_option maxRecDepth 20000

theorem hasB_mayP (p : ByteArray) (bits : Int) : hasB p bits p = mayP p.data.toList bits := by
  unfold hasB mayP
  rw [show p.data.toList.length = p.size by simp]
theorem encStr_sv (ls : List (List UInt8)) : ls.map encStr = ls.map sv := by
  apply List.map_congr_left
  intro x _
  rfl
/-- A slice of strings that is turned round. -/
theorem OB.reversed {W w : World} {B n g c : Nat} {ls : List (List UInt8)} (h : OB B W (.slice (some ⟨g, 0, none⟩) n c) n (ls.map sv) w) (q : Nat) :
    OB B W (.slice (some ⟨g, 0, none⟩) n c) n (ls.reverse.map sv) ((w.drewN q).setCells g 0 (ls.reverse.map encStr)) := by
  have h0 : OB B W (.slice (some ⟨g, 0, none⟩) n c) n ([] ++ ls.map sv ++ []) (w.drewN q) := by simpa using h.drewN q
  have h1 := OB.sets (ls.reverse.map encStr) (ls.map sv) [] [] h0 (by simp)
  rw [encStr_sv] at h1 ⊢
  rw [List.append_nil, List.nil_append] at h1
  exact h1
theorem strsOf_ls (ls : List (List UInt8)) (n : Nat) (h : ls.length = n) : Lib.strsOf (fun i => ⟨(ls.getD i []).toArray⟩) n = ls := by
  unfold Lib.strsOf
  apply List.ext_getElem
  · simp [h]
  · intro i h1 h2
    simp [List.getD_eq_getElem?_getD, h2]

set_option maxHeartbeats 4000000 in
theorem prefix_any (p : ByteArray) (bits : Int) (w : World) (hp : p.size ≤ 140737488355328) (hL : LaidT w) :
    Calls Tryz.prog 101 #[.agg #[.string p, .int .i64 bits]] w fun e w' => ∃ v, e = .returned v ∧ OB w.heap.size w v (prefixR p.data.toList bits).length ((prefixR p.data.toList bits).map sv) w' := by
  obtain ⟨i0, hi, hz0, hz1, hz2⟩ := info_parts str_info
  have hmay := fun w => pmay_any p bits w hp
  rw [hasB_mayP] at hmay
  cases hm : mayP p.data.toList bits with
  | false =>
    have hr : prefixR p.data.toList bits = [] := by unfold prefixR; rw [if_neg (by rw [hm]; simp)]
    rw [hr]
    rw [hm] at hmay
    have HM := Lib.hid hmay
    clear hmay hm hr
    go_enter Tryz.func101, Tryz.ntmps101
    go_wp2_with (go_at_call 94; refine (HM.out _).mono ?_; rintro e w1 ⟨rfl, hb⟩)
    have hbel := below_alloc _ (Below.refl _ _) (Nat.le_refl _) hb
    go_wp2
    go_ret
    exact ⟨_, rfl, OB.nil hbel hbel.size⟩
  | true =>
    obtain ⟨h1, h2, h3⟩ := isCut_four (mayP_cut hm)
    rw [show p.data.toList.length = p.size by simp] at h1 h3
    obtain ⟨n, rfl⟩ := Int.eq_ofNat_of_zero_le h2
    have hbl := body_length p.data.toList (by simpa using h1)
    have hn : n < 256 := by rcases h1 with h1 | h1 <;> rw [h1] at h3 <;> omega
    have hr : prefixR p.data.toList n = (body p.data.toList ++ [dec n]).reverse := by
      unfold prefixR prefixL; rw [if_pos hm]; simp
    rw [hr]
    rw [hm] at hmay
    have HM := Lib.hid hmay
    obtain ⟨L, hLL⟩ : ∃ L, L = body p.data.toList := ⟨_, rfl⟩
    rw [← hLL] at hbl ⊢
    have hsix : p.size = 16 → Six p (wordsL p.data.toList) ∧ L = body6 (wordsL p.data.toList) := by
      intro h16
      refine ⟨⟨h16, rfl⟩, ?_⟩
      rw [hLL]; unfold body; rw [if_pos (by simpa using h16)]
    have hfour : p.size = 4 → L = p.data.toList.map fun c => dec c.toNat := by
      intro h4
      rw [hLL]; unfold body; rw [if_neg (by simp; omega)]
    have hit := fun w h => itoa_any n hn w h
    obtain ⟨S, hS⟩ : ∃ S : ByteArray, S = ⟨(dec n).toArray⟩ := ⟨_, rfl⟩
    have hS2 : sv (dec n) = .string S := by rw [hS]; rfl
    rw [hS2] at hit
    have HIT := Lib.hid hit
    have HS2 := Lib.hid hS2
    have HSIX := Lib.hid hsix
    have HFOUR := Lib.hid hfour
    have hbytes := fun w h => bytesL_any p w (by omega) h
    have HBY := Lib.hid hbytes
    obtain ⟨K, hK⟩ : ∃ K, K = L.length := ⟨_, rfl⟩
    have hK8 : K ≤ 8 := by omega
    have HK := Lib.hid hK
    have HLL := Lib.hid hL
    have hsz : p.size ≤ 16 := by omega
    have HD := Lib.hid h1
    clear hmay hm hr hLL hit hS hS2 hsix hfour hbytes hbl h1 h2 h3 hK hL
    go_enter Tryz.func101, Tryz.ntmps101
    go_wp2_with (go_at_call 94; refine (HM.out _).mono ?_; rintro e w1 ⟨rfl, hb⟩; refine Hid.out ?_)
    refine Lib.hid ?_
    have hbel := below_alloc _ (Below.refl w.heap.size w) (Nat.le_refl _) hb
    have c0 := hb.cell (p := ⟨w.heap.size, 0, none⟩) (by simp)
    have c1 := hb.cell (p := ⟨w.heap.size, 1, none⟩) (by simp)
    have hz := hb.size
    simp at c0 c1 hz
    have hz1 : w.heap.size < w1.heap.size := by omega
    have HL1 := Lib.hid (HLL.out.below hbel (Nat.le_refl _))
    clear hb hz HM
    go_upto_region 4 with (go_at_call 128; refine (HBY.out _ HL1.out).mono ?_; rintro e w2 ⟨v2, rfl, hb2⟩; refine Hid.out ?_)
    refine Lib.hid ?_
    have hb3 := hb2.out (C := w.heap.size) (W0 := w) (by omega) hbel
    have f0 := (hb2.below.cell (p := ⟨w.heap.size, 0, none⟩) hz1).trans c0
    have f1 := (hb2.below.cell (p := ⟨w.heap.size, 1, none⟩) hz1).trans c1
    have hz2' : w.heap.size < w2.heap.size := by have := hb2.below.size; omega
    have hz12 : w1.heap.size ≤ w2.heap.size := hb2.below.size
    have HB2 := Lib.hid hb2
    have HB3 := Lib.hid hb3
    clear hb2 hb3 c0 c1
    go_upto_if 13 with fail
    go_cut [3] (fun v wc => Buf w.heap.size 9 w v K (L.map sv) wc ∧ wc.cell? ⟨w.heap.size, 1, none⟩ = some (.int .i64 (n : Int)) ∧ w.heap.size < wc.heap.size)
    case first =>
      rcases HD.out with h4 | h16
      · have e4 : ((p.size : Int) == 16) = false := by rw [beq_eq_false_iff_ne]; omega
        have HF := Lib.hid (HFOUR.out h4)
        have H4 := Lib.hid h4
        clear h4
        go_wp2_with fail
        go_meet
        have hb := HB3.out
        rw [H4.out, ← HF.out, show (4 : Nat) = K by rw [HK.out, HF.out]; simp; exact H4.out.symm] at hb
        exact ⟨hb, f1, hz2'⟩
      · have e16 : ((p.size : Int) == 16) = true := by rw [beq_iff_eq]; omega
        obtain ⟨hs6, hL6⟩ := HSIX.out h16
        have hwl := fun w h => wordsLb_any p _ hs6 w h
        rw [← hL6] at hwl
        have HWL := Lib.hid hwl
        have HL2 := Lib.hid (HL1.out.below HB2.out.below (Nat.le_refl _))
        clear h16 hwl
        go_wp2_with (go_at_call 129; refine (HWL.out _ HL2.out).mono ?_; rintro e w3 ⟨v3, rfl, hb4⟩; refine Hid.out ?_)
        refine Lib.hid ?_
        have g1 := (hb4.below.cell (p := ⟨w.heap.size, 1, none⟩) hz2').trans f1
        have hz3 : w.heap.size < w3.heap.size := by have := hb4.below.size; omega
        have hb5 := hb4.out (C := w.heap.size) (W0 := w) (by omega) HB3.out.below
        rw [← HK.out] at hb5
        have HB5 := Lib.hid hb5
        clear hb4 hb5
        go_wp2_with fail
        go_meet
        exact ⟨HB5.out, g1, hz3⟩
    case rest =>
      obtain ⟨hb, k1, hz3⟩ := hcut
      have hl := hb.len
      have HL3 := Lib.hid (HLL.out.below hb.below (Nat.le_refl _))
      obtain ⟨D, cd, rfl, hd1, hd2, hd3⟩ := hb.slice
      have HL := Lib.hid hl
      clear hl f0 f1 HB2 HB3 hz2' hz12 HBY HSIX HFOUR HD hz1
      go_wp2_with (go_at_call 130; refine (HIT.out _ HL3.out).mono ?_; rintro e w4 ⟨rfl, hb6⟩; refine Hid.out ?_)
      refine Lib.hid ?_
      have hb7 := hb.keep hb6 (Nat.le_refl _)
      clear hb6
      go_wp2_with (at_builtin; go_loud (refine wpList_append_one rfl _ _ 63 rfl w.heap.size 9 i0 _ 16 Tryz.underlying63 hi hz0 hz1 hz2 rfl hb7 rfl rfl rfl ?c1 ?c2 ?_))
      case c1 => unfold maxLen; omega
      case c2 => omega
      intro v' w5 hb8
      have hls : L.map sv ++ [Value.string S] = (L ++ [dec n]).map sv := by rw [List.map_append, ← HS2.out]; rfl
      rw [hls] at hb8
      have hob := OB.of_buf hb8
      obtain ⟨A', c', rfl, hc1, hc2, (⟨_, h0, _⟩ | ⟨g, rfl, hg1, hg2⟩)⟩ := hob.slice3
      · omega
      have hcells := fun i (hi : i < K + 1) => hob.cell i (.string ⟨((L ++ [dec n]).getD i []).toArray⟩) (by
        rw [List.getElem?_map, List.getD_eq_getElem?_getD, List.getElem?_eq_getElem (by simp; rw [← HK.out]; exact hi)]; rfl)
      have hrev := Tryz.slices_Reverse_string_cells g 0 (K + 1) c' (fun i => ⟨((L ++ [dec n]).getD i []).toArray⟩) w5 (by omega) (fun i hi => by rw [Nat.zero_add]; exact hcells i hi) (fun j hj => by rw [Nat.zero_add]; exact hob.frozen j (by omega))
      rw [strsOf_ls (L ++ [dec n]) (K + 1) (by simp [← HK.out])] at hrev
      obtain ⟨RV, hRV⟩ : ∃ RV, RV = (L ++ [dec n]).reverse.map encStr := ⟨_, rfl⟩
      rw [← hRV] at hrev
      have HRV := Lib.hid hRV
      clear hRV
      have HREV := Lib.hid hrev
      have HOB := Lib.hid hob
      clear hrev hob hcells hb8 hls hb hb7
      go_wp2_with (go_at_call 114; refine HREV.out.mono ?_; rintro e w6 ⟨rfl, q, rfl⟩)
      go_ret
      refine ⟨_, rfl, ?_⟩
      have hfin := HOB.out.reversed q
      rw [← HRV.out] at hfin
      rw [show (L ++ [dec n]).reverse.length = K + 1 by simp [← HK.out]]
      exact hfin
end Go.Proofs.YtkdknfedieeenaaGreatDoor
