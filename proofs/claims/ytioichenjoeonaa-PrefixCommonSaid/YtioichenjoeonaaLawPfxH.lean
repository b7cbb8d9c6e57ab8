/- The walk of PrefixHas. -/
import Derived.Test.YtioichenjoeonaaLawPfxK
namespace Go.Proofs.Ytioichenjoeonaa
open Go.RowKit
set_option linter.unusedVariables false
theorem hasB_other (a b : List UInt8) (k : Nat) (hl : a.length ≠ b.length) : hasB ⟨(cutL a k).toArray⟩ k ⟨b.toArray⟩ = false := by
  unfold hasB
  have : (cutL b k == cutL a k) = false := by
    rw [beq_eq_false_iff_ne]
    intro e
    have := congrArg List.length e
    rw [cutL_length, cutL_length] at this
    exact hl this.symm
  simp [this]
theorem hasB_same (a b : List UInt8) (k : Nat) (hl : a.length = b.length) (h : isAddr a.length = true) (hk : k ≤ 8 * a.length) :
    hasB ⟨(cutL a k).toArray⟩ k ⟨b.toArray⟩ = ((bitsL a).take k == (bitsL b).take k) := by
  unfold hasB isCut
  rw [mk_size, ← hl, h, decide_eq_true (show (0 : Int) ≤ (k : Int) by omega), decide_eq_true (show (k : Int) ≤ 8 * (a.length : Nat) by omega)]
  simp only [Int.toNat_natCast, Bool.true_and]
  have := cutL_eq_iff k hl hk
  rw [Bool.eq_iff_iff, beq_iff_eq, beq_iff_eq, ← this]
  exact ⟨fun e => e.symm, fun e => e.symm⟩
theorem hasB_long (p : ByteArray) (bits : Int) (a : ByteArray) (h : isAddr a.size = false) : hasB p bits a = false := by simp [hasB, isCut, h]
attribute [local simp] isV wordOf Deps Region.binds wantedX isB Act.put
set_option maxHeartbeats 3200000 in
set_option maxRecDepth 20000 in
theorem prefixHas_walk (w : World) (six : Bool) (A : Option Addr) (n c : Nat) (zs : List Int) (hV : SlView w A n c (zs.map (Value.int .u8))) (hl : zs.length = n) (hz : ∀ z ∈ zs, (Lit.int .u8 z).wf = true) (hc : c ≤ 140737488351232)
    (x : Int) (hx : (Lit.int .u8 x).wf = true) (D : Option Addr) (m d : Nat) (ys : List Int) (hV2 : SlView w D m d (ys.map (Value.int .u8))) (hl2 : ys.length = m) (hz2 : ∀ z ∈ ys, (Lit.int .u8 z).wf = true) (hd : d ≤ 140737488351232) (other : Bool) :
    Calls Try.prog 4 #[.bool six, .slice A n c, .int .u8 x, .slice D m d, .bool other] w fun e w' => e = .returned (.bool true) ∧ Below w.heap.size w w' := by
  obtain ⟨l, hzl⟩ := bytes_of zs hz
  rw [hzl] at hV
  obtain ⟨r, hyl⟩ := bytes_of ys hz2
  rw [hyl] at hV2
  have hx2 := bounds_u8 hx
  have hnc := hV.le
  have hmd := hV2.le
  have hS : Sl w w.heap.size 1 A n (l.map bv) := hV.sl
  have hSD : Sl w w.heap.size 1 D m (r.map bv) := hV2.sl
  clear hzl hz hl hV hx hyl hz2 hl2 hV2
  obtain ⟨X, rfl⟩ := Int.eq_ofNat_of_zero_le hx2.1
  go_enter Try.func4, Try.ntmps4
  go_wp2_with fail
  refine (awake12_any _).mono ?_
  rintro e w1 ⟨rfl, hb1⟩
  go_wp2_with fail
  refine (addr_any six A n c l _ ((hS.below hb1).more hb1.size) (by omega)).mono ?_
  rintro e w2 ⟨s, hs, rfl, hb2⟩
  have hB2 := below_trans hb1 hb1.size hb2
  go_wp2_with fail
  refine (addr_any (six != other) D m d r _ ((hSD.below hB2).more hB2.size) (by omega)).mono ?_
  rintro e w3 ⟨t, ht, rfl, hb3⟩
  have hB3 := below_trans hB2 hB2.size hb3
  have hN : s.size = 4 ∨ s.size = 16 := by rw [hs]; unfold addrN; cases six <;> simp
  have hAd : isAddr s.size = true := by rw [hs]; exact addrN_is six
  have hsl : s.data.toList.length = s.size := by simp
  have htl : t.data.toList.length = t.size := by simp
  have ht16 : t.size ≤ 16 := by rw [ht]; cases (six != other) <;> decide
  obtain ⟨k, hk⟩ : ∃ k, k = X % (8 * s.size + 1) := ⟨_, rfl⟩
  have hk8 : k ≤ 8 * s.size := by have := Nat.mod_lt X (show 0 < 8 * s.size + 1 by omega); omega
  have hkm : (X : Int) % (8 * (s.size : Int) + 1) = (k : Int) := by rw [hk]; simp
  have hcut := fun w => pcut_yes s.data.toList k w (by rw [hsl]; exact hAd) (by rw [hsl]; exact hk8)
  have hmay := hasB_cut s.data.toList k (by rw [hsl]; exact hAd) (by rw [hsl]; exact hk8)
  have hsame := hasB_same s.data.toList s.data.toList k rfl (by rw [hsl]; exact hAd) (by rw [hsl]; exact hk8)
  have hlong : isAddr (s ++ ⟨#[120]⟩).size = false := by
    rw [show (s ++ ⟨#[120]⟩).size = s.size + 1 by simp; rfl]
    rcases hN with h | h <;> rw [h] <;> rfl
  have hother := hasB_other s.data.toList t.data.toList k
  have hthis := fun e => hasB_same s.data.toList t.data.toList k e (by rw [hsl]; exact hAd) (by rw [hsl]; exact hk8)
  have hbits := fun w => lbits_any s.data.toList w (by rw [hsl]; omega)
  have hbitt := fun w => lbits_any t.data.toList w (by rw [htl]; omega)
  rw [ba_eta] at hbits hbitt hcut hsame hother hthis
  obtain ⟨CC, eCC⟩ : ∃ CC : ByteArray, CC = ⟨(cutL s.data.toList k).toArray⟩ := ⟨_, rfl⟩
  obtain ⟨BA, eBA⟩ : ∃ BA : ByteArray, BA = ⟨(signs (bitsL s.data.toList)).toArray⟩ := ⟨_, rfl⟩
  obtain ⟨BT, eBT⟩ : ∃ BT : ByteArray, BT = ⟨(signs (bitsL t.data.toList)).toArray⟩ := ⟨_, rfl⟩
  have hBAs : BA.size = 8 * s.size := by rw [eBA, mk_size, signs_length, bitsL_length, hsl]
  have hBTs : BT.size = 8 * t.size := by rw [eBT, mk_size, signs_length, bitsL_length, htl]
  have hext : ((BA.extract 0 k).toList == (BT.extract 0 k).toList) = ((bitsL s.data.toList).take k == (bitsL t.data.toList).take k) := by
    rw [ByteArray.toList_eq, ByteArray.toList_eq, eBA, eBT, Bool.eq_iff_iff, beq_iff_eq, beq_iff_eq]
    simp only [ByteArray.data_extract, Array.toList_extract, List.extract_eq_take_drop, List.drop_zero, Nat.sub_zero, signs_take]
    exact ⟨signs_inj, fun e => by rw [e]⟩
  rw [← eCC] at hcut hmay hsame hother hthis
  rw [← eBA] at hbits
  rw [← eBT] at hbitt
  rw [beq_self_eq_true] at hsame
  have hCs : CC.size = s.size := by rw [eCC, mk_size, cutL_length, hsl]
  rw [htl, hsl] at hother hthis
  have HCUT := Lib.hid hcut
  have HMAY := Lib.hid (fun w => may_any CC k w (by omega))
  have HMB := Lib.hid hmay
  have HHA := Lib.hid (fun w => has_any CC k s w (by omega))
  have HSB := Lib.hid hsame
  have HHT := Lib.hid (fun w => has_any CC k t w (by omega))
  have HHL := Lib.hid (fun w => has_any CC k (s ++ ⟨#[120]⟩) w (by rw [show (s ++ ⟨#[120]⟩).size = s.size + 1 by simp; rfl]; omega))
  have HLB := Lib.hid (hasB_long CC k _ hlong)
  have HOT := Lib.hid hother
  have HTH := Lib.hid hthis
  have HBITS := Lib.hid hbits
  have HBITT := Lib.hid hbitt
  have HEXT := Lib.hid hext
  have HBAS := Lib.hid hBAs
  have HBTS := Lib.hid hBTs
  have hnov : ¬ 9223372036854775807 < s.size + 1 := by omega
  clear hcut hmay hsame hlong hother hthis hbits hbitt eCC eBA eBT hBAs hBTs hext hk hAd hsl htl hs ht hCs
  go_wp2_with fail
  refine (HCUT.out _).mono ?_
  rintro e w4 ⟨rfl, hb4⟩
  have hB4 := hB3.trans (hb4.mono hB3.size)
  go_wp2_with fail
  refine (HMAY.out _).mono ?_
  rw [HMB.out]
  rintro e w5 ⟨rfl, hb5⟩
  have c0 := hb5.cell (p := ⟨w4.heap.size, 0, none⟩) (by simp)
  have c1 := hb5.cell (p := ⟨w4.heap.size, 1, none⟩) (by simp)
  have hz5 := hb5.size
  simp at c0 c1 hz5
  have hB5 := below_alloc _ hB4 hB4.size hb5
  have hlt5 : w4.heap.size < w5.heap.size := by omega
  clear hb5
  go_wp2_with fail
  refine (HHA.out _).mono ?_
  rw [HSB.out]
  rintro e w6 ⟨rfl, hb6⟩
  have d0 := (hb6.cell (p := ⟨w4.heap.size, 0, none⟩) hlt5).trans c0
  have d1 := (hb6.cell (p := ⟨w4.heap.size, 1, none⟩) hlt5).trans c1
  have hB6 := hB5.trans (hb6.mono hB5.size)
  have hz6 := hb6.size
  have hlt6 : w4.heap.size < w6.heap.size := by omega
  clear hb6 c0 c1
  go_upto_region 8 with fail
  go_cut [16] (fun v wc => v = .bool (hasB CC k t) ∧ Below w6.heap.size w6 wc)
  case first =>
    by_cases hst : t.size = s.size
    · have hw := HTH.out hst.symm
      have hext := HEXT.out
      rw [← hw] at hext
      have HE := Lib.hid hext
      have hmin : min (k : Int) (8 * (s.size : Int)) = (k : Int) := by omega
      clear hw hext
      refine wp_region_goesG pfx_follows (fun x => by simp [putsF, Act.put]; rfl) w6.heap.size w6
        [isV (.string s), isV (.int .i64 s.size), isV (.string t), isV (.int .i64 s.size), isV (.bool true), isV (.bool true), isV (.string s), isV (.string BA), isV (.int .i64 k), isV (.string (BA.extract 0 k)), isV (.string t), isV (.string BT), isV (.int .i64 k), isV (.string t), isV (.int .i64 s.size),
          isV (.int .i64 (8 * s.size)), isV (.int .i64 k), isV (.string (BT.extract 0 k)), isV (.bool (hasB CC k t)), isV (.bool (hasB CC k t)), isV (.bool (hasB CC k t))]
        (by kernel_rfl) (by kernel_rfl) (by kernel_rfl) rfl ?_ (Below.refl _ _) ?_ ?_
      · repeat (first | exact trivial | refine ⟨isV_stays _, ?_⟩)
      · refine ⟨?_, ?_, ?_, ?_, ?_, ?_, ?_, ?_, ?_, ?_, ?_, ?_, ?_, ?_, ?_, ?_, ?_, ?_, ?_, ?_, ?_, trivial⟩
        all_goals
          intro x wx hR hd
          simp at hd ⊢
        all_goals try simp [hd]
        all_goals try (go_simp; exact next_same _ rfl rfl hR)
        · go_simp
          go_at_call 18
          refine (HBITS.out _).mono ?_
          rintro e wy ⟨rfl, rfl⟩
          exact next_same _ rfl rfl hR
        · obtain ⟨hd0, hd1, -⟩ := hd
          have hkB : (k : Int) ≤ BA.size := by rw [HBAS.out]; omega
          have hk0 : (0 : Int) ≤ (k : Int) := by omega
          go_simp
          exact next_same _ rfl rfl hR
        · go_simp
          go_at_call 18
          refine (HBITT.out _).mono ?_
          rintro e wy ⟨rfl, rfl⟩
          exact next_same _ rfl rfl hR
        · obtain ⟨hd0, -⟩ := hd
          have e1 : IntKind.i64.wrap (8 * (s.size : Int)) = 8 * (s.size : Int) := IntWalk.i64_in _ (by omega)
          go_simp
          exact next_same _ rfl rfl hR
        · obtain ⟨hd0, hd1, -⟩ := hd
          have hnl : ¬ 8 * (s.size : Int) < (k : Int) := by omega
          go_simp
          exact next_same _ rfl rfl hR
        · obtain ⟨hd0, hd1, -⟩ := hd
          have hkB : (k : Int) ≤ BT.size := by rw [HBTS.out, hst]; omega
          have hk0 : (0 : Int) ≤ (k : Int) := by omega
          go_simp
          exact next_same _ rfl rfl hR
        · obtain ⟨hd0, hd1, -⟩ := hd
          have he := HE.out
          go_simp
          exact next_same _ rfl rfl hR
      intro x wy hby hx
      simp [AllWords] at hx ⊢
      have hx20 : x 20 = .bool (hasB CC k t) := by simp [hx]
      clear hx
      rw [hx20]
      go_wp2_with fail
      go_meet
      exact ⟨rfl, hby⟩
    · have hw := HOT.out (fun e => hst e.symm)
      have hne : ((s.size : Int) == t.size) = false := by rw [beq_eq_false_iff_ne]; omega
      have HW := Lib.hid hw
      clear hw
      refine wp_region_goesG pfx_follows (fun x => by simp [putsF, Act.put]; rfl) w6.heap.size w6
        [isV (.string s), isV (.int .i64 s.size), isV (.string t), isV (.int .i64 t.size), isV (.bool false), isV (.bool false), isV undef, isV undef, isV undef, isV undef, isV undef, isV undef, isV undef, isV undef, isV undef, isV undef, isV undef, isV undef, isV undef, isV (.bool false), isV (.bool false)]
        (by kernel_rfl) (by kernel_rfl) (by kernel_rfl) rfl ?_ (Below.refl _ _) ?_ ?_
      · repeat (first | exact trivial | refine ⟨isV_stays _, ?_⟩)
      · refine ⟨?_, ?_, ?_, ?_, ?_, ?_, ?_, ?_, ?_, ?_, ?_, ?_, ?_, ?_, ?_, ?_, ?_, ?_, ?_, ?_, ?_, trivial⟩
        all_goals
          intro x wx hR hd
          simp at hd ⊢
        all_goals try simp [hd]
        all_goals (go_simp; exact next_same _ rfl rfl hR)
      intro x wy hby hx
      simp [AllWords] at hx ⊢
      have hx20 : x 20 = .bool false := by simp [hx]
      clear hx
      rw [hx20]
      go_wp2_with fail
      go_meet
      exact ⟨by rw [HW.out], hby⟩
  case rest =>
    obtain ⟨rfl, hbc⟩ := hcut
    have f0 := (hbc.cell (p := ⟨w4.heap.size, 0, none⟩) hlt6).trans d0
    have f1 := (hbc.cell (p := ⟨w4.heap.size, 1, none⟩) hlt6).trans d1
    have hBc := hB6.trans (hbc.mono hB6.size)
    have hltc : w4.heap.size < wc.heap.size := Nat.lt_of_lt_of_le hlt6 hbc.size
    clear d0 d1
    go_wp2_with fail
    refine (HHT.out _).mono ?_
    rintro e w7 ⟨rfl, hb7⟩
    have g0 := (hb7.cell (p := ⟨w4.heap.size, 0, none⟩) hltc).trans f0
    have g1 := (hb7.cell (p := ⟨w4.heap.size, 1, none⟩) hltc).trans f1
    have hB7 := hBc.trans (hb7.mono hBc.size)
    go_wp2_with fail
    refine (HHL.out _).mono ?_
    rw [HLB.out]
    rintro e w8 ⟨rfl, hb8⟩
    have hB8 := hB7.trans (hb8.mono hB7.size)
    go_wp2_with fail
    go_ret
    exact ⟨rfl, hB8⟩
end Go.Proofs.Ytioichenjoeonaa
