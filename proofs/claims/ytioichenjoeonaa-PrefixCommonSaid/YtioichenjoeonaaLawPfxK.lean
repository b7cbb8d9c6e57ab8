/- The walk of PrefixKey. -/
import Derived.Test.YtioichenjoeonaaLawPfxA
namespace Go.Proofs.Ytioichenjoeonaa
open Go.RowKit
set_option linter.unusedVariables false
theorem hasB_cut (a : List UInt8) (k : Nat) (h : isAddr a.length = true) (hk : k ≤ 8 * a.length) : hasB ⟨(cutL a k).toArray⟩ k ⟨(cutL a k).toArray⟩ = true := by
  unfold hasB isCut
  rw [mk_size, cutL_length, h]
  simp only [Int.toNat_natCast, Bool.true_and, Bool.and_eq_true, decide_eq_true_eq, beq_iff_eq]
  exact ⟨⟨by omega, by omega⟩, cutL_cutL a k hk⟩
theorem fill_cut (a : List UInt8) (k : Nat) (hk : k ≤ 8 * a.length) : unbits (fillB (signs ((bitsL a).take k)) a.length k) = cutL a k := by
  have hl : ((bitsL a).take k).length = k := by simp [bitsL_length]; omega
  have : fillB (signs ((bitsL a).take k)) a.length k = bitsL (cutL a k) := by
    unfold fillB
    rw [unsigns, List.take_of_length_le (by omega), bitsL_cutL a k hk]
  rw [this, unbits_bitsL]
theorem back_cut (a : List UInt8) (k : Nat) (h : isAddr a.length = true) (hk : k ≤ 8 * a.length) :
    backV (signs ((bitsL a).take k)) a.length = .tuple #[.agg #[.string ⟨(cutL a k).toArray⟩, .int .i64 k], .bool true] := by
  have hl : (signs ((bitsL a).take k)).length = k := by rw [signs_length]; simp [bitsL_length]; omega
  have hb : backB (signs ((bitsL a).take k)) a.length = true := by
    unfold backB
    rw [hl, signs_ok]
    simp [isAddr] at h ⊢; omega
  unfold backV
  rw [hb, if_pos rfl, hl, Int.toNat_natCast, fill_cut a k hk]
theorem addrN_is (six : Bool) : isAddr (addrN six) = true := by cases six <;> rfl
attribute [local simp] isV wordOf Deps Region.binds wantedX isB Act.put
set_option maxHeartbeats 1600000 in
set_option maxRecDepth 20000 in
theorem prefixKey_walk (w : World) (six : Bool) (A : Option Addr) (n c : Nat) (zs : List Int) (hV : SlView w A n c (zs.map (Value.int .u8))) (hl : zs.length = n) (hz : ∀ z ∈ zs, (Lit.int .u8 z).wf = true) (hc : c ≤ 140737488351232)
    (x : Int) (hx : (Lit.int .u8 x).wf = true) :
    Calls Try.prog 6 #[.bool six, .slice A n c, .int .u8 x] w fun e w' => e = .returned (.bool true) ∧ Below w.heap.size w w' := by
  obtain ⟨l, hzl⟩ := bytes_of zs hz
  rw [hzl] at hV
  have hx2 := bounds_u8 hx
  have hnc := hV.le
  have hS : Sl w w.heap.size 1 A n (l.map bv) := hV.sl
  clear hzl hz hl hV hx
  obtain ⟨X, rfl⟩ := Int.eq_ofNat_of_zero_le hx2.1
  go_enter Try.func6, Try.ntmps6
  go_wp2_with fail
  refine (awake12_any _).mono ?_
  rintro e w1 ⟨rfl, hb1⟩
  go_wp2_with fail
  refine (addr_any six A n c l _ ((hS.below hb1).more hb1.size) (by omega)).mono ?_
  rintro e w2 ⟨s, hs, rfl, hb2⟩
  have hB2 := below_trans hb1 hb1.size hb2
  have hN : s.size = 4 ∨ s.size = 16 := by rw [hs]; unfold addrN; cases six <;> simp
  have hAd : isAddr s.size = true := by rw [hs]; exact addrN_is six
  have hsl : s.data.toList.length = s.size := by simp
  obtain ⟨k, hk⟩ : ∃ k, k = X % (8 * s.size + 1) := ⟨_, rfl⟩
  have hk8 : k ≤ 8 * s.size := by have := Nat.mod_lt X (show 0 < 8 * s.size + 1 by omega); omega
  have hkm : (X : Int) % (8 * (s.size : Int) + 1) = (k : Int) := by rw [hk]; simp
  have hcut := fun w => pcut_yes s.data.toList k w (by rw [hsl]; exact hAd) (by rw [hsl]; exact hk8)
  have hkey := fun w => key_yes (cutL s.data.toList k) k w (hasB_cut _ k (by rw [hsl]; exact hAd) (by rw [hsl]; exact hk8))
  rw [cutL_bits_take _ k (by rw [hsl]; exact hk8)] at hkey
  have hbk := back_cut s.data.toList k (by rw [hsl]; exact hAd) (by rw [hsl]; exact hk8)
  have hbits := fun w => lbits_any s.data.toList w (by rw [hsl]; omega)
  rw [ba_eta] at hbits
  obtain ⟨KK, eKK⟩ : ∃ KK : ByteArray, KK = ⟨(signs ((bitsL s.data.toList).take k)).toArray⟩ := ⟨_, rfl⟩
  obtain ⟨BB, eBB⟩ : ∃ BB : ByteArray, BB = ⟨(signs (bitsL s.data.toList)).toArray⟩ := ⟨_, rfl⟩
  obtain ⟨CC, eCC⟩ : ∃ CC : ByteArray, CC = ⟨(cutL s.data.toList k).toArray⟩ := ⟨_, rfl⟩
  have hKs : KK.size = k := by rw [eKK, mk_size, signs_length, List.length_take, bitsL_length, hsl]; omega
  have hBs : BB.size = 8 * s.size := by rw [eBB, mk_size, signs_length, bitsL_length, hsl]
  have hext : BB.extract 0 k = KK := by
    apply ByteArray.ext; apply Array.toList_inj.1
    rw [eBB, eKK]
    simp [signs_take, List.extract_eq_take_drop]
  have hbb := fun w => back_any KK (s.size : Int) w (by omega) (by omega) (by omega)
  rw [show KK.data.toList = signs ((bitsL s.data.toList).take k) by rw [eKK], ← hsl, hbk] at hbb
  rw [hsl] at hbb
  rw [← eBB] at hbits
  rw [← eKK, ← eCC] at hkey
  rw [← eCC, ba_eta] at hcut
  rw [← eCC] at hbb
  have HCUT := Lib.hid hcut
  have HKEY := Lib.hid hkey
  have HBACK := Lib.hid hbb
  have HBITS := Lib.hid hbits
  have HEXT := Lib.hid hext
  have HBS := Lib.hid hBs
  clear hcut hkey hbk hbits hbb eKK eBB eCC hKs hBs hext hk hAd hsl hs
  go_wp2_with fail
  refine (HCUT.out _).mono ?_
  rintro e w3 ⟨rfl, hb3⟩
  have hB3 := hB2.trans (hb3.mono hB2.size)
  have hz3 := hB3.size
  go_wp2_with fail
  refine (HKEY.out _).mono ?_
  rintro e w4 ⟨rfl, hb4⟩
  have c0 := hb4.cell (p := ⟨w3.heap.size, 0, none⟩) (by simp)
  have c1 := hb4.cell (p := ⟨w3.heap.size, 1, none⟩) (by simp)
  have hz4 := hb4.size
  simp at c0 c1 hz4
  have hB4 := below_alloc _ hB3 hB3.size hb4
  have hlt4 : w3.heap.size < w4.heap.size := by omega
  clear hb4
  go_wp2_with fail
  refine (HBACK.out _).mono ?_
  rintro e w5 ⟨rfl, hb5⟩
  have d0 := (hb5.cell (p := ⟨w3.heap.size, 0, none⟩) hlt4).trans c0
  have d1 := (hb5.cell (p := ⟨w3.heap.size, 1, none⟩) hlt4).trans c1
  have hB5 := hB4.trans (hb5.mono hB4.size)
  have hz5 := hb5.size
  have hlt5 : w3.heap.size < w5.heap.size := by omega
  clear hb5
  go_upto_region 7 with fail
  obtain ⟨W, hW⟩ : ∃ W, W = w5.alloc (.cells #[.string CC, .int .i64 k] 27) := ⟨_, rfl⟩
  have f0 : W.cell? ⟨w3.heap.size, 0, none⟩ = some (.string CC) := by rw [hW, World.cell?_alloc_lt w5 _ _ hlt5]; exact d0
  have f1 : W.cell? ⟨w3.heap.size, 1, none⟩ = some (.int .i64 k) := by rw [hW, World.cell?_alloc_lt w5 _ _ hlt5]; exact d1
  have g0 : W.cell? ⟨w5.heap.size, 0, none⟩ = some (.string CC) := by rw [hW]; simp
  have g1 : W.cell? ⟨w5.heap.size, 1, none⟩ = some (.int .i64 k) := by rw [hW]; simp
  have hBW : Below w.heap.size w W := by rw [hW]; exact hB5.alloc hB5.size _
  have hzW : w5.heap.size < W.heap.size := by rw [hW]; simp
  rw [← hW]
  clear hW d0 d1 c0 c1 hB5 hB4 hB3 hB2
  refine wp_region_goesG pfx_follows (fun x => by simp [putsF, Act.put]; rfl) W.heap.size W
    [isV (.string KK), isV (.string s), isV (.string BB), isV (.pointer (some ⟨w3.heap.size, 1, none⟩)), isV (.int .i64 k), isV (.string KK), isV (.bool true), isV (.bool true), isV (.bool true), isV (.bool true), isV (.bool true),
      isV (.agg #[.string CC, .int .i64 k]), isV (.agg #[.string CC, .int .i64 k]), isV (.bool true), isV (.bool true), isV (.bool true)]
    (by kernel_rfl) (by kernel_rfl) (by kernel_rfl) rfl ?_ (Below.refl _ _) ?_ ?_
  · repeat (first | exact trivial | refine ⟨isV_stays _, ?_⟩)
  · refine ⟨?_, ?_, ?_, ?_, ?_, ?_, ?_, ?_, ?_, ?_, ?_, ?_, ?_, ?_, ?_, ?_, trivial⟩
    all_goals
      intro x wx hR hd
      simp at hd ⊢
    all_goals try simp [hd]
    all_goals try (go_simp; exact next_same _ rfl rfl hR)
    · go_simp
      go_at_call 18
      refine (HBITS.out _).mono ?_
      rintro e wy ⟨rfl, rfl⟩
      exact next_same _ rfl rfl hR
    all_goals
      have a0 := (hR.cell (p := ⟨w3.heap.size, 0, none⟩) (by show w3.heap.size < _; omega)).trans f0
      have a1 := (hR.cell (p := ⟨w3.heap.size, 1, none⟩) (by show w3.heap.size < _; omega)).trans f1
      have b0 := (hR.cell (p := ⟨w5.heap.size, 0, none⟩) hzW).trans g0
      have b1 := (hR.cell (p := ⟨w5.heap.size, 1, none⟩) hzW).trans g1
      have hext := HEXT.out
      have hkB : (k : Int) ≤ BB.size := by rw [HBS.out]; omega
      have hk0 : (0 : Int) ≤ (k : Int) := by omega
      try obtain ⟨hd0, hd1⟩ := hd
      go_simp
      exact next_same _ rfl rfl hR
  intro x w6 hb6 hx
  simp [AllWords] at hx ⊢
  have hx15 : x 15 = .bool true := by simp [hx]
  clear hx
  have hB6 := hBW.trans (hb6.mono hBW.size)
  go_wp2_with fail
  go_ret
  exact ⟨by show Ending.returned (x 15) = _; rw [hx15], hB6⟩
end Go.Proofs.Ytioichenjoeonaa
