/- The walk of PrefixCommon. -/
import Derived.Test.YtioichenjoeonaaLawPfxH
import Derived.Test.YtioichenjoeonaaPfxD
namespace Go.Proofs.Ytioichenjoeonaa
open Go.RowKit
set_option linter.unusedVariables false
theorem below_drw {B : Nat} {w w' : World} (h : Below B w w') (k : Nat) : Below B w (w'.drewN k) := ⟨h.os, h.tape, h.output, h.size, h.block⟩
theorem alike_step (x y : List Bool) (n : Nat) (h : x.take n = y.take n) (hx : n < x.length) (hy : n < y.length) : (x[n] = y[n] → x.take (n + 1) = y.take (n + 1)) ∧ (x[n] ≠ y[n] → alike x y = n) := by
  refine ⟨fun e => by rw [List.take_succ_eq_append_getElem hx, List.take_succ_eq_append_getElem hy, h, e], fun e => ?_⟩
  have ha : x = x.take n ++ x[n] :: x.drop (n + 1) := by rw [← List.drop_eq_getElem_cons hx, List.take_append_drop]
  have hb : y = x.take n ++ y[n] :: y.drop (n + 1) := by rw [h, ← List.drop_eq_getElem_cons hy, List.take_append_drop]
  rw [ha, hb, alike_same]
  simp only [alike, if_neg e]
  simp; omega
set_option maxHeartbeats 3200000 in
set_option maxRecDepth 20000 in
theorem prefixCommon_walk (w : World) (six : Bool) (A : Option Addr) (n c : Nat) (zs : List Int) (hV : SlView w A n c (zs.map (Value.int .u8))) (hl : zs.length = n) (hz : ∀ z ∈ zs, (Lit.int .u8 z).wf = true) (hc : c ≤ 140737488351232)
    (D : Option Addr) (m d : Nat) (ys : List Int) (hV2 : SlView w D m d (ys.map (Value.int .u8))) (hl2 : ys.length = m) (hz2 : ∀ z ∈ ys, (Lit.int .u8 z).wf = true) (hd : d ≤ 140737488351232) (raw : ByteArray) (hr : raw.size ≤ 140737488351232) :
    Calls Try.prog 8 #[.bool six, .slice A n c, .slice D m d, .string raw] w fun e w' => e = .returned (.bool true) ∧ Below w.heap.size w w' := by
  obtain ⟨l, hzl⟩ := bytes_of zs hz
  rw [hzl] at hV
  obtain ⟨r, hyl⟩ := bytes_of ys hz2
  rw [hyl] at hV2
  have hnc := hV.le
  have hmd := hV2.le
  have hS : Sl w w.heap.size 1 A n (l.map bv) := hV.sl
  have hSD : Sl w w.heap.size 1 D m (r.map bv) := hV2.sl
  clear hzl hz hl hV hyl hz2 hl2 hV2
  go_enter Try.func8, Try.ntmps8
  go_wp2_with fail
  refine (awake12_any _).mono ?_
  rintro e w1 ⟨rfl, hb1⟩
  go_wp2_with fail
  refine (addr_any six A n c l _ ((hS.below hb1).more hb1.size) (by omega)).mono ?_
  rintro e w2 ⟨s, hs, rfl, hb2⟩
  have hB2 := below_trans hb1 hb1.size hb2
  go_wp2_with fail
  refine (addr_any six D m d r _ ((hSD.below hB2).more hB2.size) (by omega)).mono ?_
  rintro e w3 ⟨t, ht, rfl, hb3⟩
  have hB3 := below_trans hB2 hB2.size hb3
  have hAd : isAddr s.size = true := by rw [hs]; exact addrN_is six
  have hts : t.size = s.size := by rw [hs, ht]
  have h16 := isAddr_le hAd
  have hsl : s.data.toList.length = s.size := by simp
  have htl : t.data.toList.length = s.size := by rw [← hts]; simp
  have hbits := fun w => lbits_any s.data.toList w (by rw [hsl]; omega)
  have hbitt := fun w => lbits_any t.data.toList w (by rw [htl]; omega)
  rw [ba_eta] at hbits hbitt
  obtain ⟨BA, eBA⟩ : ∃ BA : ByteArray, BA = ⟨(signs (bitsL s.data.toList)).toArray⟩ := ⟨_, rfl⟩
  obtain ⟨BT, eBT⟩ : ∃ BT : ByteArray, BT = ⟨(signs (bitsL t.data.toList)).toArray⟩ := ⟨_, rfl⟩
  have hBAs : BA.size = 8 * s.size := by rw [eBA, mk_size, signs_length, bitsL_length, hsl]
  have hBTs : BT.size = 8 * s.size := by rw [eBT, mk_size, signs_length, bitsL_length, htl]
  have hbls : (bitsL s.data.toList).length = 8 * s.size := by rw [bitsL_length, hsl]
  have hblt : (bitsL t.data.toList).length = 8 * s.size := by rw [bitsL_length, htl]
  have hgA : ∀ i (h : i < BA.size) (h2 : i < (bitsL s.data.toList).length), BA[i] = sign1 (bitsL s.data.toList)[i] := by
    intro i h h2; subst eBA; simp [ByteArray.getElem_eq_getElem_data, signs]
  have hgT : ∀ i (h : i < BT.size) (h2 : i < (bitsL t.data.toList).length), BT[i] = sign1 (bitsL t.data.toList)[i] := by
    intro i h h2; subst eBT; simp [ByteArray.getElem_eq_getElem_data, signs]
  obtain ⟨N, hN⟩ : ∃ N, N = alike (bitsL s.data.toList) (bitsL t.data.toList) := ⟨_, rfl⟩
  have hN8 : N ≤ 8 * s.size := by rw [hN, ← hbls]; exact alike_le _ _
  have hcm1 : commonN s t = N := by unfold commonN; rw [if_pos ⟨hAd, hts.symm⟩, hN]
  have hcm2 : commonN t s = N := by unfold commonN; rw [if_pos ⟨by rw [hts]; exact hAd, hts⟩, hN, alike_comm]
  have hcr : s.size ≠ raw.size → commonN s raw = 0 := by intro h; unfold commonN; rw [if_neg (fun e => h e.2)]
  have hcut := fun w => pcut_yes s.data.toList N w (by rw [hsl]; exact hAd) (by rw [hsl]; exact hN8)
  have hhas := hasB_same s.data.toList t.data.toList N (by rw [hsl, htl]) (by rw [hsl]; exact hAd) (by rw [hsl]; exact hN8)
  rw [ba_eta] at hcut hhas
  rw [show ((bitsL s.data.toList).take N == (bitsL t.data.toList).take N) = true by rw [beq_iff_eq, hN]; exact alike_take _ _] at hhas
  obtain ⟨CC, eCC⟩ : ∃ CC : ByteArray, CC = ⟨(cutL s.data.toList N).toArray⟩ := ⟨_, rfl⟩
  rw [← eCC] at hcut hhas
  rw [← eBA] at hbits
  rw [← eBT] at hbitt
  have hstep : ∀ i, i < 8 * s.size → (bitsL s.data.toList).take i = (bitsL t.data.toList).take i → ∀ (h1 : i < BA.size) (h2 : i < BT.size),
      ((BA[i] = BT[i] ∧ (bitsL s.data.toList).take (i + 1) = (bitsL t.data.toList).take (i + 1)) ∨ (BA[i] ≠ BT[i] ∧ N = i)) := by
    intro i hi hT h1 h2
    have a1 := hgA i h1 (by omega)
    have a2 := hgT i h2 (by omega)
    obtain ⟨s1, s2⟩ := alike_step _ _ i hT (by omega) (by omega)
    by_cases e : (bitsL s.data.toList)[i]'(by omega) = (bitsL t.data.toList)[i]'(by omega)
    · exact .inl ⟨by rw [a1, a2, e], s1 e⟩
    · refine .inr ⟨fun e2 => e ?_, by rw [hN]; exact s2 e⟩
      rw [a1, a2] at e2
      revert e2
      cases (bitsL s.data.toList)[i]'(by omega) <;> cases (bitsL t.data.toList)[i]'(by omega) <;> simp [sign1]
  have hend : (bitsL s.data.toList).take (8 * s.size) = (bitsL t.data.toList).take (8 * s.size) → N = 8 * s.size := by
    intro h
    rw [List.take_of_length_le (by omega), List.take_of_length_le (by omega)] at h
    rw [hN, h, alike_self, hblt]
  have HBAS := Lib.hid hBAs
  have HBTS := Lib.hid hBTs
  have hb128 : BA.size ≤ 128 := by omega
  have HBITS := Lib.hid hbits
  have HBITT := Lib.hid hbitt
  have HC1 := Lib.hid hcm1
  have HC2 := Lib.hid hcm2
  have HCR := Lib.hid hcr
  have HCUT := Lib.hid hcut
  have HHAS := Lib.hid hhas
  have HSTEP := Lib.hid hstep
  have HEND := Lib.hid hend
  have HK := Lib.hid (fun w => has_any CC N t w (by omega))
  have HX := Lib.hid (fun w => common_any s raw w (by unfold maxLen; omega) (by unfold maxLen; omega))
  have HY := Lib.hid (fun w => common_any s t w (by unfold maxLen; omega) (by unfold maxLen; omega))
  have HZ := Lib.hid (fun w => common_any t s w (by unfold maxLen; omega) (by unfold maxLen; omega))
  clear hbits hbitt hgA hgT hbls hblt hcm1 hcm2 hcr hcut hhas hstep hend eBA eBT eCC hN hs ht hsl htl hAd hBAs hBTs
  go_wp2_with fail
  refine (HBITS.out _).mono ?_
  rintro e w4 ⟨rfl, rfl⟩
  go_wp2_with fail
  refine (HBITT.out _).mono ?_
  rintro e w4 ⟨rfl, rfl⟩
  go_wp2_with fail
  go_loopw [13] (fun v wr => ∃ i : Nat, i ≤ 8 * s.size ∧ v = .int .i64 i ∧ Hid ((bitsL s.data.toList).take i = (bitsL t.data.toList).take i) ∧ ∃ j, wr = w3.drewN j) (fun v _ => 8 * s.size - (intOf v).toNat)
  case atStart => exact ⟨0, Nat.zero_le _, rfl, Lib.hid rfl, 0, rfl⟩
  case round =>
    obtain ⟨i, hi, rfl, hT, j, rfl⟩ := hrel
    by_cases hlt : i < 8 * s.size
    · have hia : i < BA.size := by rw [HBAS.out]; exact hlt
      have hit : i < BT.size := by rw [HBTS.out]; exact hlt
      have hgd : decide (i < BA.size) = true := by simpa using hia
      have hgd2 : decide ((i : Int) < (BA.size : Int)) = true := by simpa using hia
      have hst := HSTEP.out i hlt hT.out hia hit
      have hnov : (i : Int) < BA.size := by exact_mod_cast hia
      have hnot : (i : Int) < BT.size := by exact_mod_cast hit
      obtain ⟨x, hx⟩ : ∃ x, BA[i]'hia = x := ⟨_, rfl⟩
      obtain ⟨y, hy⟩ : ∃ y, BT[i]'hit = y := ⟨_, rfl⟩
      rw [hx, hy] at hst
      obtain ⟨p, hp⟩ : ∃ p, x.toNat = p := ⟨_, rfl⟩
      obtain ⟨q, hq⟩ : ∃ q, y.toNat = q := ⟨_, rfl⟩
      have e1 : IntKind.i64.wrap ((i : Int) + 1) = (i : Int) + 1 := IntWalk.i64_in _ (by omega)
      rcases hst with ⟨he, hn⟩ | ⟨he, hn⟩
      · have HN := Lib.hid hn
        subst he
        obtain rfl : p = q := by omega
        clear hn
        go_wp2_with fail
        go_quiet (fail)
        go_wp2_with fail
        go_roundw
        case rel => exact ⟨i + 1, by omega, by go_num, HN.out, _, rfl⟩
        case measure => simp [intOf]; omega
      · subst hn
        have hne : ((p : Int) == (q : Int)) = false := by
          rw [beq_eq_false_iff_ne]; intro e; apply he; apply UInt8.toNat_inj.1; omega
        clear he
        go_wp2_with fail
        go_quiet (fail)
        go_wp2_with fail
        refine (HX.out _).mono ?_
        rintro e w5 ⟨rfl, j5, rfl⟩
        go_wp2_with fail
        refine (HY.out _).mono ?_
        rw [HC1.out]
        rintro e w6 ⟨rfl, j6, rfl⟩
        go_wp2_with fail
        refine (HZ.out _).mono ?_
        rw [HC2.out]
        rintro e w7 ⟨rfl, j7, rfl⟩
        by_cases hrs : raw.size = s.size
        · have hro : ((raw.size : Int) != s.size) = false := by rw [hrs]; simp
          clear hrs
          go_wp2_with fail
          refine (HCUT.out _).mono ?_
          rintro e w8 ⟨rfl, hb8⟩
          go_wp2_with fail
          refine (HK.out _).mono ?_
          rw [HHAS.out]
          rintro e w9 ⟨rfl, hb9⟩
          go_wp2_with fail
          go_ret
          refine ⟨rfl, ?_⟩
          have hB8 := (below_drw hB3 (j + nq + j5 + j6 + j7)).trans (hb8.mono (below_drw hB3 (j + nq + j5 + j6 + j7)).size)
          exact below_alloc _ hB8 hB8.size hb9
        · have hro : ((raw.size : Int) != s.size) = true := by simp; omega
          have h0 := HCR.out (fun e => hrs e.symm)
          rw [h0]
          clear hrs h0
          go_wp2_with fail
          refine (HCUT.out _).mono ?_
          rintro e w8 ⟨rfl, hb8⟩
          go_wp2_with fail
          refine (HK.out _).mono ?_
          rw [HHAS.out]
          rintro e w9 ⟨rfl, hb9⟩
          go_wp2_with fail
          go_ret
          refine ⟨rfl, ?_⟩
          have hB8 := (below_drw hB3 (j + nq + j5 + j6 + j7)).trans (hb8.mono (below_drw hB3 (j + nq + j5 + j6 + j7)).size)
          exact below_alloc _ hB8 hB8.size hb9
    · have hend := HEND.out
      have hie : i = 8 * s.size := by omega
      obtain rfl : i = N := by
        have hT2 := hT.out
        rw [hie] at hT2
        have := hend hT2
        omega
      have hge : ¬ i < BA.size := by rw [HBAS.out]; omega
      have hgA : decide (i < BA.size) = false := by simpa using hge
      have hgA2 : decide ((i : Int) < (BA.size : Int)) = false := by simpa using hge
      clear hie hge hend
      go_wp2_with fail
      go_quiet (fail)
      go_wp2_with fail
      refine (HX.out _).mono ?_
      rintro e w5 ⟨rfl, j5, rfl⟩
      go_wp2_with fail
      refine (HY.out _).mono ?_
      rw [HC1.out]
      rintro e w6 ⟨rfl, j6, rfl⟩
      go_wp2_with fail
      refine (HZ.out _).mono ?_
      rw [HC2.out]
      rintro e w7 ⟨rfl, j7, rfl⟩
      by_cases hrs : raw.size = s.size
      · have hro : ((raw.size : Int) != s.size) = false := by rw [hrs]; simp
        clear hrs
        go_wp2_with fail
        refine (HCUT.out _).mono ?_
        rintro e w8 ⟨rfl, hb8⟩
        go_wp2_with fail
        refine (HK.out _).mono ?_
        rw [HHAS.out]
        rintro e w9 ⟨rfl, hb9⟩
        go_wp2_with fail
        go_ret
        refine ⟨rfl, ?_⟩
        have hB8 := (below_drw hB3 (j + nq + j5 + j6 + j7)).trans (hb8.mono (below_drw hB3 (j + nq + j5 + j6 + j7)).size)
        exact below_alloc _ hB8 hB8.size hb9
      · have hro : ((raw.size : Int) != s.size) = true := by simp; omega
        have h0 := HCR.out (fun e => hrs e.symm)
        rw [h0]
        clear hrs h0
        go_wp2_with fail
        refine (HCUT.out _).mono ?_
        rintro e w8 ⟨rfl, hb8⟩
        go_wp2_with fail
        refine (HK.out _).mono ?_
        rw [HHAS.out]
        rintro e w9 ⟨rfl, hb9⟩
        go_wp2_with fail
        go_ret
        refine ⟨rfl, ?_⟩
        have hB8 := (below_drw hB3 (j + nq + j5 + j6 + j7)).trans (hb8.mono (below_drw hB3 (j + nq + j5 + j6 + j7)).size)
        exact below_alloc _ hB8 hB8.size hb9
end Go.Proofs.Ytioichenjoeonaa
