/- The walk of TableSlots. -/
import Derived.Test.YtikbekchddinfaaTabK
import Derived.Test.YtikbekchddinfaaViewI
import Derived.Test.YtikbekchddinfaaMid
namespace Go.Proofs.Ytikbekchddinfaa
open Go.RowKit
set_option linter.unusedVariables false
set_option maxRecDepth 20000
theorem u8_nat {z : Int} (h : (Lit.int .u8 z).wf = true) : ∃ k : Nat, z = k ∧ k < 256 := by
  have := bounds_u8 h
  exact ⟨z.toNat, by omega, by omega⟩
/-- How many of the first words have numbers. -/
def cntM (M : ByteArray → Option Int) : Nat → Nat
  | 0 => 0
  | k + 1 => cntM M k + if (M (keyB k)).isSome then 1 else 0
theorem cntM_le (M : ByteArray → Option Int) : ∀ k, cntM M k ≤ k
  | 0 => Nat.le_refl _
  | k + 1 => by unfold cntM; have := cntM_le M k; split <;> omega
theorem cntM_put (M : ByteArray → Option Int) (j : Nat) (v : Int) (hj : j < 256) : ∀ k, k ≤ 256 → cntM (upd M (keyB j) (some v)) k = cntM M k + if j < k ∧ M (keyB j) = none then 1 else 0
  | 0, _ => by simp [cntM]
  | k + 1, hk => by
    unfold cntM
    rw [cntM_put M j v hj k (by omega)]
    by_cases h : k = j
    · subst h
      rw [upd_same, if_neg (by omega)]
      cases hm : M (keyB k) <;> simp
    · rw [upd_other _ _ _ _ (fun e => h (keyB_inj (by omega) hj e))]
      by_cases h2 : j < k
      · simp only [h2, show j < k + 1 by omega, true_and]; omega
      · simp only [h2, show ¬ j < k + 1 by omega, false_and, if_false, Nat.add_zero]
theorem cntM_del (M : ByteArray → Option Int) (j : Nat) (hj : j < 256) : ∀ k, k ≤ 256 → cntM (upd M (keyB j) none) k + (if j < k ∧ (M (keyB j)).isSome = true then 1 else 0) = cntM M k
  | 0, _ => by simp [cntM]
  | k + 1, hk => by
    unfold cntM
    have ih := cntM_del M j hj k (by omega)
    by_cases h : k = j
    · subst h
      rw [upd_same]
      rw [if_neg (by omega)] at ih
      cases hm : M (keyB k) <;> simp <;> omega
    · rw [upd_other _ _ _ _ (fun e => h (keyB_inj (by omega) hj e))]
      by_cases h2 : j < k
      · simp only [h2, true_and] at ih
        simp only [show j < k + 1 by omega, true_and]; omega
      · simp only [h2, false_and, if_false] at ih
        simp only [show ¬ j < k + 1 by omega, false_and, if_false]; omega
theorem TabL.facts {W w : World} {B most b : Nat} {V : Value} {M : ByteArray → Option Int} {lv us n : Nat} (h : TabL W B most b V M lv us n w) : 2 * us ≤ n ∧ lv ≤ us ∧ (n = 0 ∨ 8 ≤ n) ∧ n ≤ max 8 (8 * most) ∧ lv ≤ most :=
  ⟨h.tab.half, h.tab.lu, h.tab.some_, h.tab.few, h.tab.most_⟩
attribute [local simp] putsF isV wordOf Deps Region.binds Region.wanted Act.put wantedX isB
/-- At the loop's head. -/
def SlotsL (w : World) (b : Nat) (V : Value) (most : Nat) (wr : World) : Prop := ∃ M us n, TabL w w.heap.size most b V M (cntM M 256) us n wr
theorem SlotsL.del {w wr : World} {b : Nat} {V : Value} {most : Nat} (h : SlotsL w b V most wr) (hm : most ≤ 256) (j : Nat) (hj : j < 256) (w1 : World) (hb : Below wr.heap.size wr w1) :
    Calls Try.prog 10 #[.pointer (some ⟨b, 0, none⟩), .string (keyB j)] w1 fun e w' => (∃ bb, e = .returned (.bool bb)) ∧ ∃ M us n lv, lv = cntM M 256 ∧ TabL w w.heap.size (max most lv) b V M lv us n w' := by
  obtain ⟨M, us, n, h⟩ := h
  refine ((h.below hb).del (by omega) (keyB j) (Nat.le_trans (keyB_size j hj) (by decide))).mono ?_
  rintro e w' ⟨rfl, h', -⟩
  refine ⟨⟨_, rfl⟩, _, us, n, _, rfl, h'.is rfl ?_ (by omega)⟩
  have := cntM_del M j hj 256 (Nat.le_refl _)
  simp only [hj, true_and] at this
  split at this <;> rename_i hs
  · rw [if_pos hs]; omega
  · rw [if_neg hs]; omega
theorem SlotsL.put {w wr : World} {b : Nat} {V : Value} {most : Nat} (h : SlotsL w b V most wr) (hm : most ≤ 256) (j : Nat) (hj : j < 256) (v : Int) (w1 : World) (hb : Below wr.heap.size wr w1) :
    Calls Try.prog 9 #[.pointer (some ⟨b, 0, none⟩), .string (keyB j), .int .i64 v] w1 fun e w' => (∃ bb, e = .returned (.bool bb)) ∧ ∃ V' M us n lv, lv = cntM M 256 ∧ TabL w w.heap.size (max most lv) b V' M lv us n w' := by
  obtain ⟨M, us, n, h⟩ := h
  refine ((h.below hb).put (by omega) (keyB j) v (Nat.le_trans (keyB_size j hj) (by decide))).mono ?_
  rintro e w' ⟨rfl, V', us', n', h', -⟩
  have hc : (if (M (keyB j)).isSome then cntM M 256 else cntM M 256 + 1) = cntM (upd M (keyB j) (some v)) 256 := by
    rw [cntM_put M j v hj 256 (Nat.le_refl _)]
    cases hm : M (keyB j) <;> simp [hj]
  rw [hc] at h'
  exact ⟨⟨_, rfl⟩, V', _, us', n', _, rfl, h'⟩
set_option maxHeartbeats 6400000 in
theorem tableSlots_walk (w : World) (A : Option Addr) (n c : Nat) (z : List Ints3T) (hS : Ints3 .u8 .u8 .i64 w A n c z) :
    Calls Try.prog 4 #[.slice A n c] w fun e w' => e = .returned (.bool true) ∧ Below w.heap.size w w' := by
  have hnm : n ≤ 9223372036854775807 := Nat.le_trans hS.le (Nat.le_trans hS.max (by decide))
  have HS := Lib.hid hS
  clear hS
  go_enter Try.func4, Try.ntmps4
  go_wp2_with fail
  refine (awake15_any _).mono ?_
  rintro e w1 ⟨rfl, hb1⟩
  have HB1 := Lib.hid hb1
  clear hb1
  go_wp2_with fail
  have h0 : Hid (TabL w w.heap.size 0 w1.heap.size (.slice none 0 0) (fun _ => none) 0 0 0 (w1.alloc (.cells #[.slice none 0 0, .int .i64 0, .int .i64 0] 27))) := Lib.hid (TabL.start w1 _ w _ HB1.out.size HB1.out)
  generalize hW2 : (w1.alloc (.cells #[.slice none 0 0, .int .i64 0, .int .i64 0] 27)) = w2 at *
  obtain ⟨b, hbb⟩ : ∃ b, w1.heap.size = b := ⟨_, rfl⟩
  rw [hbb] at h0 ⊢
  clear hW2 hbb
  go_loopw [4, 15] (fun m i wr => ∃ (k most : Nat) (V : Value), k ≤ n ∧ most ≤ 256 ∧ i = .int .i64 k ∧ m = .int .i64 most ∧ Hid (SlotsL w b V most wr)) (fun _ i _ => n - (intOf i).toNat)
  case atStart => exact ⟨0, 0, _, Nat.zero_le _, Nat.zero_le _, rfl, rfl, Lib.hid ⟨_, 0, 0, h0.out.is rfl (by decide +kernel) (by omega)⟩⟩
  case round =>
    obtain ⟨k, most, V, hk, hmost, rfl, rfl, HR⟩ := hrel
    clear h0
    by_cases hkn : k < n
    · have hkn' : (k : Int) < n := by omega
      have hk0 : ¬ (k : Int) < 0 := by omega
      obtain ⟨g0, off, rfl, hg0, hcells⟩ := HS.out.cells (by omega)
      have hkz : k < z.length := by rw [HS.out.len]; exact hkn
      obtain ⟨o1, o2, o3⟩ := HS.out.ok _ (List.getElem_mem hkz)
      obtain ⟨d0, d1, d2⟩ := hcells k _ (List.getElem?_eq_getElem hkz)
      obtain ⟨⟨p0, p1, p2⟩, hp⟩ : ∃ p, z[k] = p := ⟨_, rfl⟩
      rw [hp] at o1 o2 o3 d0 d1 d2
      simp only at o1 o2 o3 d0 d1 d2
      obtain ⟨p0, rfl, hp0⟩ := u8_nat o1
      obtain ⟨p1, rfl, hp1⟩ := u8_nat o2
      have hbr : Below w.heap.size w wr := by obtain ⟨M, us, nn, h⟩ := HR.out; exact h.bel
      have e0 := (hbr.cell (p := ⟨g0, off + k * 3, none⟩) hg0).trans d0
      have e1 := (hbr.cell (p := ⟨g0, off + k * 3 + 1, none⟩) hg0).trans d1
      have e2 := (hbr.cell (p := ⟨g0, off + k * 3 + 2, none⟩) hg0).trans d2
      have hgr : g0 < wr.heap.size := Nat.lt_of_lt_of_le hg0 hbr.size
      obtain ⟨r, hr, hr2⟩ : ∃ r : Nat, (p0 : Int) % 3 = r ∧ r = p0 % 3 := ⟨p0 % 3, by omega, rfl⟩
      have HDEL := Lib.hid (fun w1 hb => HR.out.del hmost p1 hp1 w1 hb)
      have HPUT := Lib.hid (fun w1 hb => HR.out.put hmost p1 hp1 p2 w1 hb)
      have HBR := Lib.hid hbr
      clear hcells hkz o1 o2 o3 d0 d1 d2 hp hbr hr2
      by_cases hop : r = 2
      · subst hop
        go_wp2_with fail
        refine (key15_any p1 hp1 _).mono ?_
        rintro e w3 ⟨rfl, hb3⟩
        have HD := Lib.hid (HDEL.out w3 (((Below.refl wr.heap.size wr).alloc (Nat.le_refl _) _).trans (hb3.mono (by simp))))
        clear hb3 HDEL HPUT HR
        go_wp2_with fail
        refine HD.out.mono ?_
        rintro e w4 ⟨⟨bb, rfl⟩, M', us, nn, lv2, hlv, hT4⟩
        obtain ⟨mo2, hmo2⟩ : ∃ mo2, mo2 = max most lv2 := ⟨_, rfl⟩
        rw [← hmo2] at hT4
        have hlc : lv2 ≤ 256 := by rw [hlv]; exact cntM_le _ _
        have HT4 := Lib.hid hT4
        have HLV := Lib.hid hlv
        have hmb : mo2 ≤ 256 := by omega
        clear hT4 hlv HD
        obtain ⟨hh, hlu, hsome, hfew, hmo⟩ := TabL.facts HT4.out
        have LEN : Hid (∀ wx, Below w4.heap.size w4 wx → Calls Try.prog 12 #[.pointer (some ⟨b, 0, none⟩)] wx fun e w' => e = .returned (.int .i64 lv2) ∧ wx = w') := Lib.hid (fun wx hb => len_of (HT4.out.tab.below hb))
        have SLT := Lib.hid (slots_tab HT4.out.tab)
        have hmx : (most < lv2 ∧ mo2 = lv2) ∨ (most = lv2 ∧ mo2 = lv2) ∨ (lv2 < most ∧ mo2 = most) := by omega
        have hb1 : ¬ (nn : Int) < 2 * (us : Int) := by omega
        have hb2 : ¬ (us : Int) < (lv2 : Int) := by omega
        have hb3 : (nn = 0 ∧ lv2 = 0 ∧ us = 0) ∨ 8 ≤ nn := by omega
        have hb4 : mo2 = 0 ∨ mo2 = 1 ∨ 2 ≤ mo2 := by omega
        have hb5f : (nn : Int) ≤ 8 ∨ (nn : Int) ≤ 8 * mo2 := by omega
        have hb5 : True := trivial
        have HFIN : Hid (∀ wx, Below w4.heap.size w4 wx → SlotsL w b V mo2 wx) := Lib.hid (fun wx hb => ⟨M', us, nn, (HT4.out.below hb).is rfl HLV.out (Nat.le_refl _)⟩)
        clear hh hlu hsome hfew hmo2 hmo hb5
        have HB3 := Lib.hid hb3
        have HB4 := Lib.hid hb4
        have HB5F := Lib.hid hb5f
        clear hb3 hb4 hb5f HT4 HLV
        have HHB1 := Lib.hid hb1
        have HHB2 := Lib.hid hb2
        clear hb1 hb2
        have HMX := Lib.hid hmx
        clear hmx
        rcases HMX.out with ⟨hx1, hx2⟩ | ⟨hx1, hx2⟩ | ⟨hx1, hx2⟩
        all_goals
          first | (subst hx1 hx2) | subst hx2
          clear HMX
          go_wp2_with fail
          refine (LEN.out _ (Below.refl _ _)).mono ?_
          rintro e w5 ⟨rfl, rfl⟩
          go_wp2_with fail
        all_goals
          refine SLT.out.mono ?_
          rintro e w5 ⟨rfl, hb5'⟩
          have HB5 := Lib.hid hb5'
          clear hb5'
          rcases HB3.out with ⟨hn0, hl0, hu0⟩ | hn8
        all_goals
          clear HB3
          rcases HB4.out with hm0 | hm0 | hm0
        all_goals
          have g1 := HHB1.out
          have g2 := HHB2.out
          have g5 := HB5F.out
          clear HHB1 HHB2 HB5F HB4
        all_goals first
          | (exfalso; clear e0 e1 e2 hr; omega)
          | (subst hn0 hu0; first | (subst hl0 hm0) | (subst hl0) | (subst hm0 hl0)
             go_wp2_with fail
             refine (LEN.out _ HB5.out).mono ?_
             rintro e w6 ⟨rfl, rfl⟩
             go_wp2_with fail
             refine (LEN.out _ HB5.out).mono ?_
             rintro e w6 ⟨rfl, rfl⟩
             go_wp2_with fail
             go_roundw
             case rel => exact ⟨k + 1, _, _, by omega, hmb, by go_num, by first | rfl | go_num, Lib.hid (HFIN.out _ HB5.out)⟩
             case measure => simp [intOf]; omega)
          | (first | (subst hm0) | skip
             have g3 : ¬ (nn : Int) < 8 := by omega
             go_wp2_with fail
             refine (LEN.out _ HB5.out).mono ?_
             rintro e w6 ⟨rfl, rfl⟩
             go_wp2_with fail
             go_roundw
             case rel => exact ⟨k + 1, _, _, by omega, hmb, by go_num, by first | rfl | go_num, Lib.hid (HFIN.out _ HB5.out)⟩
             case measure => simp [intOf]; omega)
          | trace_state
      · have hop' : ((r : Int) == 2) = false := by rw [beq_eq_false_iff_ne]; omega
        go_upto_region 10 with fail
        obtain ⟨q, hq⟩ : ∃ q, q = wr.heap.size := ⟨_, rfl⟩
        have HQ := Lib.hid hq
        obtain ⟨wa, hwa⟩ : ∃ wa, wa = wr.alloc (.cells #[.int .u8 p0, .int .u8 p1, .int .i64 p2] 30) := ⟨_, rfl⟩
        have HCA : Hid (Cs wa q [.int .u8 p0, .int .u8 p1, .int .i64 p2]) := Lib.hid (by rw [hwa, hq]; exact Cs.new wr _ _ _)
        have HBA : Hid (Below wr.heap.size wr wa) := Lib.hid (by rw [hwa]; exact (Below.refl _ _).alloc (Nat.le_refl _) _)
        have hqa : q < wa.heap.size := HCA.out.lt
        rw [← hwa, ← hq]
        clear hwa hq HDEL e0 e1 e2
        refine wp_region_tail tab_follows (fun x => by simp [putsF, Act.put]; rfl) (fun v => Below wa.heap.size wa v)
          [isV (.pointer (some ⟨b, 0, none⟩)), isV (.pointer (some ⟨q, 1, none⟩)), isV (.int .u8 p1), isV (.string (keyB p1)), isV (.pointer (some ⟨q, 2, none⟩)), isV (.int .i64 p2)]
          6 [] (by kernel_rfl) (by kernel_rfl) (by kernel_rfl) rfl (by kernel_rfl) (by kernel_rfl) ?_ (Below.refl _ _).drew ?_ ?_
        · repeat (first | exact trivial | refine ⟨by first | exact isV_stays _, ?_⟩)
        · refine ⟨?_, ?_, ?_, ?_, ?_, ?_, skipped rfl, trivial⟩
          all_goals
            intro _ x wx hR hd
            refine ⟨fun _ => ?_, fun hX => by simp at hX⟩
            simp at hd ⊢
            have c1 := (HCA.out.below hR).get 1 _
            have c2 := (HCA.out.below hR).get 2 _
          · go_simp; exact nextL _ rfl rfl hR (Below.refl _ _)
          · go_simp; exact nextL _ rfl rfl hR (Below.refl _ _)
          · try simp [hd]
            go_simp; exact nextL _ rfl rfl hR (Below.refl _ _)
          · try simp [hd]
            go_simp
            go_at_call 8
            refine (key15_any p1 hp1 wx).mono ?_
            rintro e w3 ⟨rfl, hb3⟩
            exact nextL _ rfl rfl (below_trans hR hR.size hb3) hb3
          · go_simp; exact nextL _ rfl rfl hR (Below.refl _ _)
          · try simp [hd]
            go_simp; exact nextL _ rfl rfl hR (Below.refl _ _)
        intro x wb hRb hx hap
        obtain ⟨x0, x1, x2, x3, x4, x5, -⟩ := hx
        have x0 : x 0 = _ := x0
        have x1 : x 1 = _ := x1
        have x2 : x 2 = _ := x2
        have x3 : x 3 = _ := x3
        have x4 : x 4 = _ := x4
        have x5 : x 5 = _ := x5
        rw [x0, x1, x2, x3, x4, x5]
        have HP := Lib.hid (HPUT.out wb (below_trans HBA.out HBA.out.size hRb))
        clear x0 x1 x2 x3 x4 x5 hap hRb HPUT HCA HR
        change tailWp _ _ [_] _ _
        rw [tail_cons]
        go_simp
        go_at_call 9
        refine HP.out.mono ?_
        rintro e w4 ⟨⟨bb, rfl⟩, V', M', us, nn, lv2, hlv, hT4⟩
        show tailWp _ _ _ _ _
        rw [tail_nil]
        obtain ⟨mo2, hmo2⟩ : ∃ mo2, mo2 = max most lv2 := ⟨_, rfl⟩
        rw [← hmo2] at hT4
        have hlc : lv2 ≤ 256 := by rw [hlv]; exact cntM_le _ _
        have HT4 := Lib.hid hT4
        have HLV := Lib.hid hlv
        have hmb : mo2 ≤ 256 := by omega
        clear hT4 hlv HP
        obtain ⟨hh, hlu, hsome, hfew, hmo⟩ := TabL.facts HT4.out
        have LEN : Hid (∀ wx, Below w4.heap.size w4 wx → Calls Try.prog 12 #[.pointer (some ⟨b, 0, none⟩)] wx fun e w' => e = .returned (.int .i64 lv2) ∧ wx = w') := Lib.hid (fun wx hb => len_of (HT4.out.tab.below hb))
        have SLT := Lib.hid (slots_tab HT4.out.tab)
        have hmx : (most < lv2 ∧ mo2 = lv2) ∨ (most = lv2 ∧ mo2 = lv2) ∨ (lv2 < most ∧ mo2 = most) := by omega
        have hb1 : ¬ (nn : Int) < 2 * (us : Int) := by omega
        have hb2 : ¬ (us : Int) < (lv2 : Int) := by omega
        have hb3 : (nn = 0 ∧ lv2 = 0 ∧ us = 0) ∨ 8 ≤ nn := by omega
        have hb4 : mo2 = 0 ∨ mo2 = 1 ∨ 2 ≤ mo2 := by omega
        have hb5f : (nn : Int) ≤ 8 ∨ (nn : Int) ≤ 8 * mo2 := by omega
        have hb5 : True := trivial
        have HFIN : Hid (∀ wx, Below w4.heap.size w4 wx → SlotsL w b V' mo2 wx) := Lib.hid (fun wx hb => ⟨M', us, nn, (HT4.out.below hb).is rfl HLV.out (Nat.le_refl _)⟩)
        clear hh hlu hsome hfew hmo2 hmo hb5
        have HB3 := Lib.hid hb3
        have HB4 := Lib.hid hb4
        have HB5F := Lib.hid hb5f
        clear hb3 hb4 hb5f HT4 HLV
        have HHB1 := Lib.hid hb1
        have HHB2 := Lib.hid hb2
        clear hb1 hb2
        have HMX := Lib.hid hmx
        clear hmx
        rcases HMX.out with ⟨hx1, hx2⟩ | ⟨hx1, hx2⟩ | ⟨hx1, hx2⟩
        all_goals
          first | (subst hx1 hx2) | subst hx2
          clear HMX
          go_wp2_with fail
          refine (LEN.out _ (Below.refl _ _)).mono ?_
          rintro e w5 ⟨rfl, rfl⟩
          go_wp2_with fail
        all_goals
          refine SLT.out.mono ?_
          rintro e w5 ⟨rfl, hb5'⟩
          have HB5 := Lib.hid hb5'
          clear hb5'
          rcases HB3.out with ⟨hn0, hl0, hu0⟩ | hn8
        all_goals
          clear HB3
          rcases HB4.out with hm0 | hm0 | hm0
        all_goals
          have g1 := HHB1.out
          have g2 := HHB2.out
          have g5 := HB5F.out
          clear HHB1 HHB2 HB5F HB4
        all_goals first
          | (exfalso; clear hr; omega)
          | (subst hn0 hu0; first | (subst hl0 hm0) | (subst hl0) | (subst hm0 hl0)
             go_wp2_with fail
             refine (LEN.out _ HB5.out).mono ?_
             rintro e w6 ⟨rfl, rfl⟩
             go_wp2_with fail
             refine (LEN.out _ HB5.out).mono ?_
             rintro e w6 ⟨rfl, rfl⟩
             go_wp2_with fail
             go_roundw
             case rel => exact ⟨k + 1, _, _, by omega, hmb, by go_num, by first | rfl | go_num, Lib.hid (HFIN.out _ HB5.out)⟩
             case measure => simp [intOf]; omega)
          | (first | (subst hm0) | skip
             have g3 : ¬ (nn : Int) < 8 := by omega
             go_wp2_with fail
             refine (LEN.out _ HB5.out).mono ?_
             rintro e w6 ⟨rfl, rfl⟩
             go_wp2_with fail
             go_roundw
             case rel => exact ⟨k + 1, _, _, by omega, hmb, by go_num, by first | rfl | go_num, Lib.hid (HFIN.out _ HB5.out)⟩
             case measure => simp [intOf]; omega)
          | trace_state
    · obtain rfl : k = n := by omega
      have hkn' : ¬ (k : Int) < k := by omega
      go_wp2_with fail
      go_ret
      obtain ⟨M, us, nn, h⟩ := HR.out
      exact ⟨rfl, h.bel⟩
end Go.Proofs.Ytikbekchddinfaa
