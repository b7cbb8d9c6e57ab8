/- The walk of OwnerLong. -/
import Derived.Test.YtodpaejakgjblaaDoorOwnS
namespace Go.Proofs.YtodpaejakgjblaaDoor
open Go.RowKit
set_option linter.unusedVariables false
set_option maxRecDepth 20000

set_option maxHeartbeats 16000000 in
theorem ownerLong_walk (w : World) (hL : LaidT w) (A : Option Addr) (n c : Nat) (zs : List Int) (SA : SlView w A n c (zs.map (Value.int .u8))) (hl : zs.length = n) (hw : ∀ z ∈ zs, (Lit.int .u8 z).wf = true) (hc : c ≤ 140737488351232)
    (kd : Int) (hkd : (Lit.int .u8 kd).wf = true) :
    Calls Tryd.prog 9 #[.slice A n c, .int .u8 kd] w fun e w' => e = .returned (.bool true) ∧ Below w.heap.size w w' := by
  obtain ⟨i0, hi, hz0, hz1, hz2⟩ := info_parts str_info
  have hz : ∀ z ∈ zs, 0 ≤ z ∧ z < 256 := fun z h => by have := bounds_u8 (hw z h); omega
  have hkb := bounds_u8 hkd
  have hA := SA.sl
  obtain ⟨r, hr⟩ : ∃ r : Nat, (r : Int) = kd % 4 := ⟨(kd % 4).toNat, by omega⟩
  have hr4 : r < 4 := by omega
  have hmod : kd.tmod 4 = r := by rw [Int.tmod_eq_emod_of_nonneg hkb.1, hr]
  have hrw : IntKind.u8.wrap (r : Int) = r := by rw [IntKind.wrap_u8]; omega
  obtain ⟨hK4, hE4⟩ := four_ok hr4
  have hck := fun w => cell4 w 1 2 4 5 26 r hr4
  have hce := fun w => cell4 w 0 2 12 14 3 r hr4
  rw [show ([1, 2, 4, 5] : List Int).getD r 0 = kind4 r from rfl] at hck
  rw [show ([0, 2, 12, 14] : List Int).getD r 0 = extra4 r from rfl, hE4] at hce
  generalize kind4 r = K at *
  have HAW := Lib.hid (awake13_any w hL)
  have HA := Lib.hid hA
  have HLL := Lib.hid hL
  have HZ := Lib.hid hz
  have HZL := Lib.hid hl
  have HK4 := Lib.hid hK4
  have HCE := Lib.hid hce
  obtain ⟨EX, hEX⟩ : ∃ EX, EX = extraK K := ⟨_, rfl⟩
  rw [← hEX] at hce
  have HEX := Lib.hid hEX
  have hex20 : EX ≤ 20 := by rw [hEX]; rcases hK4 with rfl | rfl | rfl | rfl <;> decide
  clear hA hL hz hl hw SA hkd hkb hr hE4 hK4 hEX HCE
  go_enter Tryd.func9, Tryd.ntmps9
  go_wp2_with (go_at_call 14; refine HAW.out.mono ?_; rintro e w1 ⟨rfl, hb1⟩; refine Hid.out ?_)
  refine Lib.hid ?_
  have hck1 := hck w1
  go_upto_region 6 with fail
  have hCK := Cs.new (w1.alloc (.cells #[.int .i64 1, .int .i64 2, .int .i64 4, .int .i64 5] 26)) #[.int .i64 K, .string ⟨#[]⟩, .string ⟨#[]⟩, .int .i64 0] 29 [.int .i64 K, .string ⟨#[]⟩, .string ⟨#[]⟩, .int .i64 0]
  have hCK := hCK.at_ (w1.heap.size + 1) (by simp)
  have hB2 := (hb1.alloc hb1.size (.cells #[.int .i64 1, .int .i64 2, .int .i64 4, .int .i64 5] 26))
  have hB2 := hB2.alloc hB2.size (.cells #[.int .i64 K, .string ⟨#[]⟩, .string ⟨#[]⟩, .int .i64 0] 29)
  have HCK := Lib.hid hCK
  have HB2 := Lib.hid hB2
  have hP : w.heap.size ≤ w1.heap.size + 1 := by have := hb1.size; omega
  have HP := Lib.hid hP
  clear hP
  generalize (w1.alloc (.cells #[.int .i64 1, .int .i64 2, .int .i64 4, .int .i64 5] 26)).alloc (.cells #[.int .i64 K, .string ⟨#[]⟩, .string ⟨#[]⟩, .int .i64 0] 29) = W at HCK HB2 ⊢
  generalize w1.heap.size + 1 = P at HCK HP ⊢
  clear hCK hB2 hb1 hck1 hck
  go_loopw [6, 7, 8] (fun v6 v7 v8 wr => ∃ (k : Nat) (X : List (List UInt8)), k ≤ 4 ∧ v7 = .int .i64 k ∧ Hid (PlainX X) ∧ X.length = k ∧ Buf W.heap.size 9 W v6 k (X.map sv) wr) (fun _ v7 _ _ => 4 - (intOf v7).toNat)
  case atStart => exact ⟨0, [], by omega, rfl, Lib.hid ⟨fun x h => by (cases h)⟩, rfl, Buf.start _ _⟩
  case round =>
    obtain ⟨k, X, hk, rfl, HPX, hXl, hb⟩ := hrel
    obtain ⟨D, cd, rfl, hd1, hd2, hd3⟩ := hb.slice
    have HXL := Lib.hid hXl
    clear hXl
    by_cases hk4 : k < 4
    · have hk4i : (k : Int) < 4 := by omega
      by_cases hkn : k < n
      · have hkni : (k : Int) < n := by omega
        obtain ⟨b, off, u, rfl, hbb, hu, hc'⟩ := ((HA.out.below HB2.out).more HB2.out.size |>.below hb.below).at_ hkn
        have hkl : k < zs.length := by rw [HZL.out]; exact hkn
        have hcell : wr.cell? ⟨b, off + k, none⟩ = some (.int .u8 zs[k]) := by
          rw [hc']
          simp only [List.getElem?_map, List.getElem?_eq_getElem hkl, Option.map_some] at hu
          exact hu.symm
        have hzk := HZ.out zs[k] (List.getElem_mem hkl)
        generalize zs[k] = z at *
        obtain ⟨z0, z1⟩ := hzk
        obtain ⟨m, hm1, hm63, hqt, hwz, hwm, hwq⟩ := long_arith z0 z1
        have hm0 : 0 ≤ (m : Int) := by omega
        have hm63i : (m : Int) ≤ 63 := by omega
        have hmt : (m : Int).toNat = m := by omega
        have HOK := Lib.hid (long_cons HPX.out hm1 hm63)
        have HMAP := Lib.hid (long_map X m)
        have HSM : Hid (longE m = (ByteArray.mk #[97, 98, 99, 100, 101, 102, 103, 104, 105, 106, 107, 108, 109, 110, 111, 112, 113, 114, 115, 116, 117, 118, 119, 120, 121, 122, 97, 98, 99, 100, 101, 102, 103, 104, 105, 106, 107, 108, 109, 110, 111, 112, 113, 114, 115, 116, 117, 118, 119, 120, 121, 122, 97, 98, 99, 100, 101, 102, 103, 104, 105, 106, 107]).extract 0 (1 + ((m : Int) - 1)).toNat) := Lib.hid (longE_ext m hm1)
        clear hu hc' hd3 hm1 hm63
        go_upto_region 11 with fail
        rw [← HSM.out]
        go_wp2_with (at_builtin; go_loud (refine wpList_append_one rfl _ _ 31 rfl W.heap.size 9 i0 _ 16 Tryd.underlying31 hi hz0 hz1 hz2 rfl hb rfl rfl rfl ?c1 ?c2 ?_))
        case c1 => unfold maxLen; omega
        case c2 => omega
        intro v' w2 hb2
        have HBN := Lib.hid hb2
        clear hb2 hb
        go_wp2
        go_roundw
        case rel => exact ⟨k + 1, X ++ [longL.take m], by omega, by go_num, HOK, by rw [List.length_append, HXL.out]; rfl, by rw [HMAP.out]; exact HBN.out⟩
        case measure => simp [intOf]; omega
      · have hkni : ¬ (k : Int) < n := by omega
        have HOK := Lib.hid (long_cons HPX.out (m := 63) (by omega) (by omega))
        have HMAP := Lib.hid (long_map63 X)
        clear hd3
        go_wp2_with (at_builtin; go_loud (refine wpList_append_one rfl _ _ 31 rfl W.heap.size 9 i0 _ 16 Tryd.underlying31 hi hz0 hz1 hz2 rfl hb rfl rfl rfl ?c1 ?c2 ?_))
        case c1 => unfold maxLen; omega
        case c2 => omega
        intro v' w2 hb2
        have HBN := Lib.hid hb2
        clear hb2 hb
        go_wp2
        go_roundw
        case rel => exact ⟨k + 1, X ++ [longL.take 63], by omega, by go_num, HOK, by rw [List.length_append, HXL.out]; rfl, by rw [HMAP.out]; exact HBN.out⟩
        case measure => simp [intOf]; omega
    · obtain rfl : k = 4 := by omega
      have hX4 := HXL.out
      have hmk := fun A c w h => makeX_any A 4 c X w h (fun x hx => by
        have := (HPX.out.all x hx).1
        simp only [okLabel, Bool.and_eq_true, decide_eq_true_eq] at this
        unfold maxLen; omega) (by unfold maxLen; omega)
      have HSL := Lib.hid hb.sl
      have HBw := Lib.hid (HB2.out.trans (hb.below.mono HB2.out.size))
      have HCKw := Lib.hid (HCK.out.below hb.below)
      clear hb hd3 HA HZ HZL HB2 HCK
      cases hmx : makeL X with
      | none =>
        rw [hmx] at hmk
        have hmk : ∀ A c w, Sl w w.heap.size 1 A 4 (X.map sv) → Calls Tryd.prog 25 #[.slice A 4 c] w fun e w' => e = .returned (.tuple #[.string ⟨#[]⟩, .bool false]) ∧ Below w.heap.size w w' := hmk
        have HMK := Lib.hid hmk
        clear hmk hmx
        go_wp2_with (go_at_call 25; refine (HMK.out _ _ _ HSL.out).mono ?_; rintro e w3 ⟨rfl, hb3⟩)
        go_ret
        exact ⟨rfl, HBw.out.trans (hb3.mono HBw.out.size)⟩
      | some nm =>
        rw [hmx] at hmk
        obtain ⟨hans, hnl⟩ := long_ans HPX.out hmx (by intro e; rw [e] at hX4; simp at hX4) HK4.out
        rw [← HEX.out] at hans
        obtain ⟨NB, hNB⟩ : ∃ NB, NB = baL nm := ⟨_, rfl⟩
        rw [← hNB] at hans
        have hmk : ∀ A c w, Sl w w.heap.size 1 A 4 (X.map sv) → Calls Tryd.prog 25 #[.slice A 4 c] w fun e w' => e = .returned (.tuple #[.string NB, .bool true]) ∧ Below w.heap.size w w' := by rw [hNB]; exact hmk
        have hNs : NB.size ≤ 254 := by rw [hNB, show (baL nm).size = nm.length by simp [baL, ByteArray.size]]; exact hnl
        have HMK := Lib.hid hmk
        have HENC := Lib.hid (fun w h => encode_any K NB ⟨#[]⟩ 0 w (by omega) (by decide) h)
        have HANS := Lib.hid hans
        have HLw := Lib.hid (HLL.out.below HBw.out (Nat.le_refl _))
        clear hmk hmx hans hNB hnl hX4
        go_wp2_with (go_at_call 25; refine (HMK.out _ _ _ HSL.out).mono ?_; rintro e w3 ⟨rfl, hb3⟩; refine Hid.out ?_)
        refine Lib.hid ?_
        have hC3 := HCKw.out.below hb3
        have HC4 := Lib.hid (hC3.set' 1 (.string NB) (by simp))
        have HL3 := Lib.hid (HLw.out.below hb3 (Nat.le_refl _))
        have hB3 := HBw.out.trans (hb3.mono HBw.out.size)
        have HB4 := Lib.hid (hB3.setCell (p := ⟨P, 1, none⟩) HP.out (.string NB))
        have k1 := hC3.get 1 (.string ⟨#[]⟩)
        have kf := hC3.froz 1 (by simp)
        clear hC3 hB3 hb3 HCKw HLw HBw HSL
        go_upto_region 16 with fail
        generalize w3.setCell ⟨P, 1, none⟩ (.string NB) = w4 at HC4 HB4 ⊢
        clear k1 kf
        have hce4 := hce w4
        have hC5 := HC4.out.alloc (.cells #[.int .i64 0, .int .i64 2, .int .i64 12, .int .i64 14] 3)
        have k0 := hC5.get 0 (.int .i64 K)
        have k1 := hC5.get 1 (.string NB)
        have k2 := hC5.get 2 (.string ⟨#[]⟩)
        have k3 := hC5.get 3 (.int .i64 0)
        have hB5 := HB4.out.alloc HB4.out.size (.cells #[.int .i64 0, .int .i64 2, .int .i64 12, .int .i64 14] 3)
        have HB5 := Lib.hid hB5
        have HL5 := Lib.hid (HLL.out.below hB5 (Nat.le_refl _))
        clear hC5 hB5 HC4 HB4 HL3 hce
        rcases HANS.out with ⟨h254, NN, hen, hlen⟩ | ⟨h254, hen⟩
        · have henc : ∀ w, LaidT w → Calls Tryd.prog 21 #[.agg #[.int .i64 K, .string NB, .string ⟨#[]⟩, .int .i64 0]] w fun e w' => e = .returned (.tuple #[.string NN, .bool true]) ∧ Below w.heap.size w w' := by
            intro w h; have := HENC.out w h; rw [hen] at this; exact this
          have HENC := Lib.hid henc
          clear henc
          clear hen HANS
          go_wp2_with (go_at_call 21; refine (HENC.out _ HL5.out).mono ?_; rintro e w6 ⟨rfl, hb6⟩)
          go_ret
          exact ⟨rfl, HB5.out.trans (hb6.mono HB5.out.size)⟩
        · have henc : ∀ w, LaidT w → Calls Tryd.prog 21 #[.agg #[.int .i64 K, .string NB, .string ⟨#[]⟩, .int .i64 0]] w fun e w' => e = .returned (.tuple #[.string ⟨#[]⟩, .bool false]) ∧ Below w.heap.size w w' := by
            intro w h; have := HENC.out w h; rw [hen] at this; exact this
          have HENC := Lib.hid henc
          clear henc
          clear hen HANS
          go_wp2_with (go_at_call 21; refine (HENC.out _ HL5.out).mono ?_; rintro e w6 ⟨rfl, hb6⟩)
          go_ret
          exact ⟨by show Ending.returned (.bool (!decide ((NB.size : Int) + EX ≤ 254))) = _; rw [decide_eq_false (by omega)]; rfl, HB5.out.trans (hb6.mono HB5.out.size)⟩
end Go.Proofs.YtodpaejakgjblaaDoor
