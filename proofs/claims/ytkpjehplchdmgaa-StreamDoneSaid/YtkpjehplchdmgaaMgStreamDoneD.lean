/- Texts that the walk of StreamDone stands on, one behind the other. -/
import Derived.Test.YtkpjehplchdmgaaMgStreamDoneC
import Derived.Test.YtkpjehplchdmgaaViewA
import Derived.Outline
namespace Go.Proofs.Ytkpjehplchdmgaa
open Go.RowKit
set_option linter.unusedVariables false
set_option linter.unusedSimpArgs false
set_option maxRecDepth 20000
attribute [local simp] putsF isV wordOf Deps Region.binds Region.wanted Act.put wantedX isB
set_option maxHeartbeats 6400000 in
theorem streamDone_walk (w : World) (z : Int) (hz : (Lit.int .u8 z).wf = true) (A : Option Addr) (n c : Nat) (ds : List ActT) (hV : Acts5 w A n c ds) :
    Calls Try.prog 3 #[.int .u8 z, .slice A n c] w fun e w' => e = .returned (.bool true) ∧ Below w.heap.size w w' := by
  have hz8 := u8_wf hz
  obtain ⟨on, rfl⟩ : ∃ on : Nat, z = on := ⟨z.toNat, by omega⟩
  have OG := Lib.hid (fun w => origin_any on (by omega) w)
  have hob := originB_le on
  generalize originB on = o at *
  have hnm : n ≤ maxLen := Nat.le_trans hV.le hV.max
  have hat := hV.at_
  obtain ⟨rs, hrs⟩ : ∃ rs, rs = undersOf o true ds 30 := ⟨_, rfl⟩
  have hrl : rs.length ≤ 30 := by rw [hrs, undersOf_len]; omega
  have UN : Hid (∀ wx, Below w.heap.size w wx → Calls Try.prog 6 #[.string o, .slice A n c, .int .i64 30, .bool true] wx fun e w' => ∃ VS CS, e = .returned (.slice VS rs.length CS) ∧ rs.length ≤ CS ∧ Recs w' VS rs ∧ (VS = none → rs.length = 0) ∧ Below wx.heap.size wx w') := Lib.hid (fun wx hb => (under_any o A n c 30 true ds wx (hat.below hb) hnm (by omega) (Nat.le_trans hob (by decide))).mono (by
    rintro e w' ⟨v, rfl, ho⟩
    rw [← hrs] at ho
    obtain ⟨A', c', rfl, g1, g2, g3⟩ := ho.slice
    exact ⟨A', c', rfl, g1, ho.recs rfl, fun e => (g3 e).1, ho.bel⟩))
  have HZ8 := Lib.hid hz8
  clear hz hrs hat hV hnm hz8 hob
  go_enter Try.func3, Try.ntmps3
  go_wp2_with fail
  refine (awake09_any _).mono ?_
  rintro e w1 ⟨rfl, hb1⟩
  have HB1 := Lib.hid hb1
  clear hb1
  go_wp2_with fail
  refine (OG.out _).mono ?_
  rintro e w2 ⟨rfl, hb2⟩
  have HB2 := Lib.hid (below_trans HB1.out HB1.out.size hb2)
  clear hb2 OG
  go_wp2_with fail
  refine (UN.out _ HB2.out).mono ?_
  rintro e w4 ⟨VS, CS, rfl, hcs, hrec, hvn, hb4⟩
  have HB4 := Lib.hid (below_trans HB2.out HB2.out.size hb4)
  obtain ⟨m, hm⟩ : ∃ m, m = rs.length := ⟨_, rfl⟩
  rw [← hm] at hcs hvn hrl ⊢
  have HL := Lib.hid hm.symm
  have H := Lib.hid hrec
  have HCS := Lib.hid hcs
  have hn : m ≤ 30 := hrl
  clear hb4 UN hm hrec hcs hvn hrl
  obtain ⟨a, ha⟩ : ∃ r, r = rAt rs 0 := ⟨_, rfl⟩
  have H0 : Hid (0 < m → rs[0]? = some a) := Lib.hid (fun hp => by
    rw [ha]
    have h := List.getElem?_eq_getElem (l := rs) (i := 0) (by have := HL.out; omega)
    rw [rAt_of h, h])
  clear ha
  have DN : Hid (∀ wx, Below w4.heap.size w4 wx → Calls Try.prog 8 #[.slice VS m CS] wx fun e w' => e = .returned (.bool (doneR rs)) ∧ Below wx.heap.size wx w') := Lib.hid (fun wx hb => done_any VS m CS rs wx (H.out.below hb) HL.out (by omega))
  obtain ⟨res, hres⟩ : ∃ b, b = doneR rs := ⟨_, rfl⟩
  rw [← hres] at DN
  have HRES := Lib.hid hres
  clear hres
  go_wp2_with fail
  go_loopw [6, 18] (fun tv i wr => ∃ (k q : Nat), k ≤ m ∧ i = .int .i64 k ∧ tv = .int .i64 q ∧ Hid (q = cntR a (rs.take k)) ∧ Hid (Below w4.heap.size w4 wr)) (fun _ i _ => m - (intOf i).toNat)
  case atStart => exact ⟨0, 0, Nat.zero_le _, rfl, rfl, Lib.hid rfl, Lib.hid (Below.refl _ _)⟩
  case round =>
    obtain ⟨k, cn, hk, rfl, rfl, HM, HB⟩ := hrel
    have hmk : cn ≤ k := by rw [HM.out]; exact Nat.le_trans (cntR_le _ _) (by rw [List.length_take]; omega)
    by_cases hlt : k < m
    · have hlt' : (k : Int) < m := by omega
      obtain ⟨r, hr⟩ : ∃ r, rs[k]? = some r := ⟨_, List.getElem?_eq_getElem (by rw [HL.out]; omega)⟩
      obtain ⟨bb, off, rfl, hbb, hrg⟩ := H.out.range hr
      obtain ⟨_, _, hAe, _, hrg0⟩ := H.out.range (H0.out (by omega))
      injection hAe with hAe; injection hAe with q1 q2; subst q1 q2
      have hnx := cntR_next a hr
      have HNX := Lib.hid hnx
      obtain ⟨x0, x1, x2, x3⟩ := r
      have HRG : Hid (wr.rangeAt bb (off + k * 4) [.string x0, .int .u16 x1, .int .u32 x2, .string x3]) := Lib.hid (fun j v hv => (HB.out.cell (p := ⟨bb, off + k * 4 + j, none⟩) hbb).trans (hrg j v hv))
      have HR0 : Hid (∀ wx, Below w4.heap.size w4 wx → wx.rangeAt bb off (recCells a)) := Lib.hid (fun wx hb j v hv => (hb.cell (p := ⟨bb, off + j, none⟩) hbb).trans (by have := hrg0 j v hv; simpa using this))
      clear hr hrg hrg0 hnx
      have k0 := HRG.out 0 _ rfl
      have k1 := HRG.out 1 _ rfl
      have k2 := HRG.out 2 _ rfl
      have k3 := HRG.out 3 _ rfl
      rw [Nat.add_zero] at k0
      go_upto_region 8 with fail
      have hCB := Cs.new wr #[.string x0, .int .u16 x1, .int .u32 x2, .string x3] 32 [.string x0, .int .u16 x1, .int .u32 x2, .string x3]
      have hbB := (Below.refl wr.heap.size wr).alloc (Nat.le_refl _) (.cells #[.string x0, .int .u16 x1, .int .u32 x2, .string x3] 32)
      generalize wr.alloc (.cells #[.string x0, .int .u16 x1, .int .u32 x2, .string x3] 32) = w6 at *
      obtain ⟨g, hg⟩ : ∃ g, g = wr.heap.size := ⟨_, rfl⟩
      rw [← hg] at hCB ⊢
      have HCB := Lib.hid hCB
      have HB6 := Lib.hid (below_trans HB.out HB.out.size hbB)
      obtain ⟨VX, hVX⟩ : ∃ v, v = recV (x0, x1, x2, x3) := ⟨_, rfl⟩
      obtain ⟨VA, hVA⟩ : ∃ v, v = recV a := ⟨_, rfl⟩
      have HVX := Lib.hid hVX
      have HVA := Lib.hid hVA
      have HEQ : Hid (∀ w, (binOp .eql 32 VX VA).run Try.prog w = .ok (.bool (eqB (x0, x1, x2, x3) a)) w) := Lib.hid (fun w => by rw [HVX.out, HVA.out]; exact rec_eql (x0, x1, x2, x3) a w)
      have hn0 : (0 : Int) < m := by omega
      have hn0' : 0 < m := by omega
      clear hCB hbB hg hVX hVA k0 k1 k2 k3
      refine wp_region_goesG data_follows (fun x => by simp [putsF, Act.put]; rfl) w6.heap.size w6
        [isV VX, isV (.slice (some ⟨bb, off, none⟩) m CS), isV (.pointer (some ⟨bb, off, none⟩)), isV VA, isV (.bool (eqB (x0, x1, x2, x3) a))]
        (by kernel_rfl) (by kernel_rfl) (by kernel_rfl) rfl ?_ (Below.refl _ _) ?_ ?_
      · repeat (first | exact trivial | refine ⟨isV_stays _, ?_⟩)
      · refine ⟨?_, ?_, ?_, ?_, ?_, trivial⟩
        all_goals
          intro x wx hR hd
          refine ⟨fun _ => ?_, fun hX => by simp at hX⟩
          simp at hd ⊢
        · refine wp_load_mid 32 _ rfl g 0 (by simp [go_sem]) _ _ (HCB.out.below hR).range Try.underlying32 rfl (by kernel_rfl) ?_
          exact next_same _ rfl HVX.out.symm hR
        · go_simp; exact next_same _ rfl rfl hR
        · go_simp; exact next_same _ rfl rfl hR
        · refine wp_load_mid 32 _ rfl bb off (by simp [go_sem, hd]) _ _ (HR0.out wx (below_trans HB6.out HB6.out.size hR)) Try.underlying32 rfl (by kernel_rfl) ?_
          exact next_same _ rfl HVA.out.symm hR
        · obtain ⟨hd0, hd1⟩ := hd
          exact wp_binop _ _ _ _ _ rfl hd0 hd1 (by rw [HVX.out, HVA.out]; first | kernel_rfl | rfl) (HEQ.out wx) (next_same _ rfl rfl hR)
      intro x w7 hR hx
      simp [AllWords] at hx
      have h4 : x 4 = .bool (eqB (x0, x1, x2, x3) a) := by simp [hx]
      rw [h4]
      clear hx h4
      have HB7 := Lib.hid (below_trans HB6.out HB6.out.size hR)
      clear hR
      cases hq : eqB (x0, x1, x2, x3) a with
      | true =>
        have HQ := Lib.hid hq
        clear hq
        go_wp2_with fail
        go_round
        case rel => exact ⟨k + 1, cn + 1, by omega, by go_num, by go_num, Lib.hid (by rw [HNX.out, HQ.out, if_pos rfl, HM.out]), HB7⟩
        case measure => simp [intOf]; omega
      | false =>
        have HQ := Lib.hid hq
        clear hq
        go_wp2_with fail
        go_round
        case rel => exact ⟨k + 1, cn, by omega, by go_num, rfl, Lib.hid (by rw [HNX.out, HQ.out, HM.out]; simp), HB7⟩
        case measure => simp [intOf]; omega
    · have hlt' : ¬ (k : Int) < m := by omega
      obtain rfl : k = m := by omega
      have htk : rs.take k = rs := List.take_of_length_le (by rw [HL.out]; omega)
      rw [htk] at HM
      clear htk hlt hlt'
      match rs, HL, H, H0, HRES, HM with
      | [], HL, H, H0, HRES, HM =>
        obtain rfl : k = 0 := by have := HL.out; simpa using this.symm
        have hre : res = false := HRES.out
        subst hre
        have HB7 := HB
        clear HM H H0
        go_wp2_with fail
        refine (DN.out _ HB7.out).mono ?_
        rintro e w8 ⟨rfl, hb8⟩
        have HB8 := Lib.hid (below_trans HB4.out HB4.out.size (below_trans HB7.out HB7.out.size hb8))
        clear hb8
        go_wp2_with fail
        go_ret
        exact ⟨rfl, HB8.out⟩
      | [r], HL, H, H0, HRES, HM =>
        obtain rfl : k = 1 := by have := HL.out; simpa using this.symm
        have hre : res = true := HRES.out
        subst hre
        have HB7 := HB
        clear HM H H0
        go_wp2_with fail
        refine (DN.out _ HB7.out).mono ?_
        rintro e w8 ⟨rfl, hb8⟩
        have HB8 := Lib.hid (below_trans HB4.out HB4.out.size (below_trans HB7.out HB7.out.size hb8))
        clear hb8
        go_wp2_with fail
        go_ret
        exact ⟨rfl, HB8.out⟩
      | a' :: b :: t, HL, H, H0, HRES, HM =>
        have hk2 : 2 ≤ k := by have := HL.out; simp at this; omega
        have haa : a' = a := by have := H0.out (by omega); simpa using this
        subst haa
        have h0 : (a' :: b :: t)[0]? = some a' := rfl
        have h1 : (a' :: b :: t)[1]? = some b := rfl
        obtain ⟨bb, off, rfl, hbb, hrg0⟩ := H.out.range h0
        obtain ⟨_, _, hAe, _, hrg1⟩ := H.out.range h1
        injection hAe with hAe; injection hAe with q1 q2; subst q1 q2
        have HRS : Hid (res = if (soaB b && !(eqB b a')) = true then decide (3 ≤ cn) else decide (2 ≤ cn)) := Lib.hid (by rw [HRES.out, HM.out]; rfl)
        have HR0 : Hid (∀ wx, Below w4.heap.size w4 wx → wx.rangeAt bb off (recCells a')) := Lib.hid (fun wx hb j v hv => (hb.cell (p := ⟨bb, off + j, none⟩) hbb).trans (by have := hrg0 j v hv; simpa using this))
        have HR1 : Hid (∀ wx, Below w4.heap.size w4 wx → wx.rangeAt bb (off + 4) (recCells b)) := Lib.hid (fun wx hb j v hv => (hb.cell (p := ⟨bb, off + 4 + j, none⟩) hbb).trans (by have := hrg1 j v hv; simpa using this))
        obtain ⟨T1, hT1⟩ : ∃ t, t = b.2.1 := ⟨_, rfl⟩
        have HKT : Hid (∀ wx, Below w4.heap.size w4 wx → wx.cell? ⟨bb, off + 4 + 1, none⟩ = some (.int .u16 T1)) := Lib.hid (fun wx hb => by rw [hT1]; exact HR1.out wx hb 1 _ rfl)
        obtain ⟨VB, hVB⟩ : ∃ v, v = recV b := ⟨_, rfl⟩
        obtain ⟨VA, hVA⟩ : ∃ v, v = recV a' := ⟨_, rfl⟩
        have HVB := Lib.hid hVB
        have HVA := Lib.hid hVA
        have HNQ : Hid (∀ w, (binOp .neq 32 VB VA).run Try.prog w = .ok (.bool (!eqB b a')) w) := Lib.hid (fun w => by rw [HVB.out, HVA.out]; exact rec_neq b a' w)
        have hsb1 : soaB b = (T1 == 6) := by rw [hT1]; rfl
        have m1 : ((k : Int) == 1) = false := by rw [beq_eq_false_iff_ne]; omega
        have m2 : (1 : Int) < k := by omega
        have m2' : 1 < k := by omega
        have m3 : (0 : Int) < k := by omega
        have m3' : 0 < k := by omega
        clear HM H H0 HRES HL h0 h1 hrg0 hrg1 hbb hT1 hVB hVA hk2
        cases hs : soaB b with
        | false =>
          have hs6 : (T1 == 6) = false := by rw [← hsb1]; exact hs
          have HEQR := Lib.hid (show res = decide (2 ≤ cn) by rw [HRS.out, hs]; rfl)
          clear hs hsb1 HRS
          go_upto_region 14 with fail
          refine wp_region_goesG data_follows (fun x => by simp [putsF, Act.put]; rfl) wr.heap.size wr
            [isV (.slice (some ⟨bb, off, none⟩) k CS), isV (.pointer (some ⟨bb, off + 4, none⟩)), isV (.pointer (some ⟨bb, off + 4 + 1, none⟩)), isV (.int .u16 T1), isV (.bool false), isV (.bool false), isV undef, isV undef, isV undef, isV undef, isV undef, isV undef, isV undef, isV (.bool false)]
            (by kernel_rfl) (by kernel_rfl) (by kernel_rfl) rfl ?_ (Below.refl _ _) ?_ ?_
          · repeat (first | exact trivial | refine ⟨isV_stays _, ?_⟩)
          · refine ⟨?_, ?_, ?_, ?_, ?_, ?_, ?_, ?_, ?_, ?_, ?_, ?_, ?_, ?_, trivial⟩
            all_goals
              intro x wx hR hd
              simp at hd
              have kt := (HKT.out wx (below_trans HB.out HB.out.size hR))
            · refine ⟨fun _ => ?_, fun hX => by first | (simp at hX; done) | (simp [hd] at hX; done)⟩
              (try simp [hd]); go_simp; exact next_same _ rfl rfl hR
            · refine ⟨fun _ => ?_, fun hX => by first | (simp at hX; done) | (simp [hd] at hX; done)⟩
              (try simp [hd]); go_simp; exact next_same _ rfl rfl hR
            · refine ⟨fun _ => ?_, fun hX => by first | (simp at hX; done) | (simp [hd] at hX; done)⟩
              (try simp [hd]); go_simp; exact next_same _ rfl rfl hR
            · refine ⟨fun _ => ?_, fun hX => by first | (simp at hX; done) | (simp [hd] at hX; done)⟩
              (try simp [hd]); go_simp; exact next_same _ rfl rfl hR
            · refine ⟨fun _ => ?_, fun hX => by first | (simp at hX; done) | (simp [hd] at hX; done)⟩
              (try simp [hd]); go_simp; exact next_same _ rfl rfl hR
            · refine ⟨fun _ => ?_, fun hX => by first | (simp at hX; done) | (simp [hd] at hX; done)⟩
              (try simp [hd]); go_simp; exact next_same _ rfl rfl hR
            · refine ⟨fun hX => ?_, fun _ => rfl⟩
              exfalso; first | (simp [hd] at hX; done) | (simp [hd, undef] at hX; done)
            · refine ⟨fun hX => ?_, fun _ => rfl⟩
              exfalso; first | (simp [hd] at hX; done) | (simp [hd, undef] at hX; done)
            · refine ⟨fun hX => ?_, fun _ => rfl⟩
              exfalso; first | (simp [hd] at hX; done) | (simp [hd, undef] at hX; done)
            · refine ⟨fun hX => ?_, fun _ => rfl⟩
              exfalso; first | (simp [hd] at hX; done) | (simp [hd, undef] at hX; done)
            · refine ⟨fun hX => ?_, fun _ => rfl⟩
              exfalso; first | (simp [hd] at hX; done) | (simp [hd, undef] at hX; done)
            · refine ⟨fun hX => ?_, fun _ => rfl⟩
              exfalso; first | (simp [hd] at hX; done) | (simp [hd, undef] at hX; done)
            · refine ⟨fun hX => ?_, fun _ => rfl⟩
              exfalso; first | (simp [hd] at hX; done) | (simp [hd, undef] at hX; done)
            · refine ⟨fun _ => ?_, fun hX => by first | (simp at hX; done) | (simp [hd] at hX; done)⟩
              (try simp [hd]); go_simp; exact next_same _ rfl rfl hR
          intro x w7 hR hx
          simp [AllWords] at hx
          have h13 : x 13 = .bool false := by simp [hx]
          rw [h13]
          clear hx h13
          have HB7 := Lib.hid (below_trans HB.out HB.out.size hR)
          clear hR
          have hre : res = decide (2 ≤ cn) := HEQR.out
          by_cases h2 : 2 ≤ cn
          · have h2' : (2 : Int) ≤ cn := by omega
            rw [decide_eq_true h2] at hre
            subst hre
            go_wp2_with fail
            refine (DN.out _ HB7.out).mono ?_
            rintro e w8 ⟨rfl, hb8⟩
            have HB8 := Lib.hid (below_trans HB4.out HB4.out.size (below_trans HB7.out HB7.out.size hb8))
            clear hb8
            go_wp2_with fail
            go_ret
            exact ⟨(by first | rfl | (show Ending.returned (.bool (decide ((2 : Int) ≤ cn))) = _; rw [decide_eq_true h2']) | simp [h2']), HB8.out⟩
          · have h2' : ¬ (2 : Int) ≤ cn := by omega
            rw [decide_eq_false h2] at hre
            subst hre
            go_wp2_with fail
            refine (DN.out _ HB7.out).mono ?_
            rintro e w8 ⟨rfl, hb8⟩
            have HB8 := Lib.hid (below_trans HB4.out HB4.out.size (below_trans HB7.out HB7.out.size hb8))
            clear hb8
            go_wp2_with fail
            go_ret
            exact ⟨(by first | rfl | (show Ending.returned (.bool (!decide ((2 : Int) ≤ cn))) = _; rw [decide_eq_false h2']; rfl) | simp [h2']), HB8.out⟩
        | true =>
          have hs6 : (T1 == 6) = true := by rw [← hsb1]; exact hs
          cases hq : eqB b a' with
          | true =>
            have HEQR := Lib.hid (show res = decide (2 ≤ cn) by rw [HRS.out, hs, hq]; rfl)
            rw [hq] at HNQ
            clear hs hsb1 HRS hq
            go_upto_region 14 with fail
            refine wp_region_goesG data_follows (fun x => by simp [putsF, Act.put]; rfl) wr.heap.size wr
              [isV (.slice (some ⟨bb, off, none⟩) k CS), isV (.pointer (some ⟨bb, off + 4, none⟩)), isV (.pointer (some ⟨bb, off + 4 + 1, none⟩)), isV (.int .u16 T1), isV (.bool true), isV (.bool true), isV (.slice (some ⟨bb, off, none⟩) k CS), isV (.pointer (some ⟨bb, off + 4, none⟩)), isV VB, isV (.slice (some ⟨bb, off, none⟩) k CS), isV (.pointer (some ⟨bb, off, none⟩)), isV VA, isV (.bool false), isV (.bool false)]
              (by kernel_rfl) (by kernel_rfl) (by kernel_rfl) rfl ?_ (Below.refl _ _) ?_ ?_
            · repeat (first | exact trivial | refine ⟨isV_stays _, ?_⟩)
            · refine ⟨?_, ?_, ?_, ?_, ?_, ?_, ?_, ?_, ?_, ?_, ?_, ?_, ?_, ?_, trivial⟩
              all_goals
                intro x wx hR hd
                simp at hd
                have kt := (HKT.out wx (below_trans HB.out HB.out.size hR))
              · refine ⟨fun _ => ?_, fun hX => by first | (simp at hX; done) | (simp [hd] at hX; done)⟩
                (try simp [hd]); go_simp; exact next_same _ rfl rfl hR
              · refine ⟨fun _ => ?_, fun hX => by first | (simp at hX; done) | (simp [hd] at hX; done)⟩
                (try simp [hd]); go_simp; exact next_same _ rfl rfl hR
              · refine ⟨fun _ => ?_, fun hX => by first | (simp at hX; done) | (simp [hd] at hX; done)⟩
                (try simp [hd]); go_simp; exact next_same _ rfl rfl hR
              · refine ⟨fun _ => ?_, fun hX => by first | (simp at hX; done) | (simp [hd] at hX; done)⟩
                (try simp [hd]); go_simp; exact next_same _ rfl rfl hR
              · refine ⟨fun _ => ?_, fun hX => by first | (simp at hX; done) | (simp [hd] at hX; done)⟩
                (try simp [hd]); go_simp; exact next_same _ rfl rfl hR
              · refine ⟨fun _ => ?_, fun hX => by first | (simp at hX; done) | (simp [hd] at hX; done)⟩
                (try simp [hd]); go_simp; exact next_same _ rfl rfl hR
              · refine ⟨fun _ => ?_, fun hX => by first | (simp at hX; done) | (simp [hd] at hX; done)⟩
                (try simp [hd]); go_simp; exact next_same _ rfl rfl hR
              · refine ⟨fun _ => ?_, fun hX => by first | (simp at hX; done) | (simp [hd] at hX; done)⟩
                (try simp [hd]); go_simp; exact next_same _ rfl rfl hR
              · refine ⟨fun _ => ?_, fun hX => by first | (simp at hX; done) | (simp [hd] at hX; done)⟩
                refine wp_load_mid 32 _ rfl bb (off + 4) (by simp [go_sem, hd]) _ _ (HR1.out wx (below_trans HB.out HB.out.size hR)) Try.underlying32 rfl (by kernel_rfl) ?_
                exact next_same _ rfl HVB.out.symm hR
              · refine ⟨fun _ => ?_, fun hX => by first | (simp at hX; done) | (simp [hd] at hX; done)⟩
                (try simp [hd]); go_simp; exact next_same _ rfl rfl hR
              · refine ⟨fun _ => ?_, fun hX => by first | (simp at hX; done) | (simp [hd] at hX; done)⟩
                (try simp [hd]); go_simp; exact next_same _ rfl rfl hR
              · refine ⟨fun _ => ?_, fun hX => by first | (simp at hX; done) | (simp [hd] at hX; done)⟩
                refine wp_load_mid 32 _ rfl bb (off) (by simp [go_sem, hd]) _ _ (HR0.out wx (below_trans HB.out HB.out.size hR)) Try.underlying32 rfl (by kernel_rfl) ?_
                exact next_same _ rfl HVA.out.symm hR
              · refine ⟨fun _ => ?_, fun hX => by first | (simp at hX; done) | (simp [hd] at hX; done)⟩
                obtain ⟨hd0, hd1, -⟩ := hd
                exact wp_binop _ _ _ _ _ rfl hd0 hd1 (by rw [HVB.out, HVA.out]; first | kernel_rfl | rfl) (HNQ.out wx) (next_same _ rfl rfl hR)
              · refine ⟨fun _ => ?_, fun hX => by first | (simp at hX; done) | (simp [hd] at hX; done)⟩
                (try simp [hd]); go_simp; exact next_same _ rfl rfl hR
            intro x w7 hR hx
            simp [AllWords] at hx
            have h13 : x 13 = .bool false := by simp [hx]
            rw [h13]
            clear hx h13
            have HB7 := Lib.hid (below_trans HB.out HB.out.size hR)
            clear hR
            have hre : res = decide (2 ≤ cn) := HEQR.out
            by_cases h2 : 2 ≤ cn
            · have h2' : (2 : Int) ≤ cn := by omega
              rw [decide_eq_true h2] at hre
              subst hre
              go_wp2_with fail
              refine (DN.out _ HB7.out).mono ?_
              rintro e w8 ⟨rfl, hb8⟩
              have HB8 := Lib.hid (below_trans HB4.out HB4.out.size (below_trans HB7.out HB7.out.size hb8))
              clear hb8
              go_wp2_with fail
              go_ret
              exact ⟨(by first | rfl | (show Ending.returned (.bool (decide ((2 : Int) ≤ cn))) = _; rw [decide_eq_true h2']) | simp [h2']), HB8.out⟩
            · have h2' : ¬ (2 : Int) ≤ cn := by omega
              rw [decide_eq_false h2] at hre
              subst hre
              go_wp2_with fail
              refine (DN.out _ HB7.out).mono ?_
              rintro e w8 ⟨rfl, hb8⟩
              have HB8 := Lib.hid (below_trans HB4.out HB4.out.size (below_trans HB7.out HB7.out.size hb8))
              clear hb8
              go_wp2_with fail
              go_ret
              exact ⟨(by first | rfl | (show Ending.returned (.bool (!decide ((2 : Int) ≤ cn))) = _; rw [decide_eq_false h2']; rfl) | simp [h2']), HB8.out⟩
          | false =>
            have HEQR := Lib.hid (show res = decide (3 ≤ cn) by rw [HRS.out, hs, hq]; rfl)
            rw [hq] at HNQ
            clear hs hsb1 HRS hq
            go_upto_region 14 with fail
            refine wp_region_goesG data_follows (fun x => by simp [putsF, Act.put]; rfl) wr.heap.size wr
              [isV (.slice (some ⟨bb, off, none⟩) k CS), isV (.pointer (some ⟨bb, off + 4, none⟩)), isV (.pointer (some ⟨bb, off + 4 + 1, none⟩)), isV (.int .u16 T1), isV (.bool true), isV (.bool true), isV (.slice (some ⟨bb, off, none⟩) k CS), isV (.pointer (some ⟨bb, off + 4, none⟩)), isV VB, isV (.slice (some ⟨bb, off, none⟩) k CS), isV (.pointer (some ⟨bb, off, none⟩)), isV VA, isV (.bool true), isV (.bool true)]
              (by kernel_rfl) (by kernel_rfl) (by kernel_rfl) rfl ?_ (Below.refl _ _) ?_ ?_
            · repeat (first | exact trivial | refine ⟨isV_stays _, ?_⟩)
            · refine ⟨?_, ?_, ?_, ?_, ?_, ?_, ?_, ?_, ?_, ?_, ?_, ?_, ?_, ?_, trivial⟩
              all_goals
                intro x wx hR hd
                simp at hd
                have kt := (HKT.out wx (below_trans HB.out HB.out.size hR))
              · refine ⟨fun _ => ?_, fun hX => by first | (simp at hX; done) | (simp [hd] at hX; done)⟩
                (try simp [hd]); go_simp; exact next_same _ rfl rfl hR
              · refine ⟨fun _ => ?_, fun hX => by first | (simp at hX; done) | (simp [hd] at hX; done)⟩
                (try simp [hd]); go_simp; exact next_same _ rfl rfl hR
              · refine ⟨fun _ => ?_, fun hX => by first | (simp at hX; done) | (simp [hd] at hX; done)⟩
                (try simp [hd]); go_simp; exact next_same _ rfl rfl hR
              · refine ⟨fun _ => ?_, fun hX => by first | (simp at hX; done) | (simp [hd] at hX; done)⟩
                (try simp [hd]); go_simp; exact next_same _ rfl rfl hR
              · refine ⟨fun _ => ?_, fun hX => by first | (simp at hX; done) | (simp [hd] at hX; done)⟩
                (try simp [hd]); go_simp; exact next_same _ rfl rfl hR
              · refine ⟨fun _ => ?_, fun hX => by first | (simp at hX; done) | (simp [hd] at hX; done)⟩
                (try simp [hd]); go_simp; exact next_same _ rfl rfl hR
              · refine ⟨fun _ => ?_, fun hX => by first | (simp at hX; done) | (simp [hd] at hX; done)⟩
                (try simp [hd]); go_simp; exact next_same _ rfl rfl hR
              · refine ⟨fun _ => ?_, fun hX => by first | (simp at hX; done) | (simp [hd] at hX; done)⟩
                (try simp [hd]); go_simp; exact next_same _ rfl rfl hR
              · refine ⟨fun _ => ?_, fun hX => by first | (simp at hX; done) | (simp [hd] at hX; done)⟩
                refine wp_load_mid 32 _ rfl bb (off + 4) (by simp [go_sem, hd]) _ _ (HR1.out wx (below_trans HB.out HB.out.size hR)) Try.underlying32 rfl (by kernel_rfl) ?_
                exact next_same _ rfl HVB.out.symm hR
              · refine ⟨fun _ => ?_, fun hX => by first | (simp at hX; done) | (simp [hd] at hX; done)⟩
                (try simp [hd]); go_simp; exact next_same _ rfl rfl hR
              · refine ⟨fun _ => ?_, fun hX => by first | (simp at hX; done) | (simp [hd] at hX; done)⟩
                (try simp [hd]); go_simp; exact next_same _ rfl rfl hR
              · refine ⟨fun _ => ?_, fun hX => by first | (simp at hX; done) | (simp [hd] at hX; done)⟩
                refine wp_load_mid 32 _ rfl bb (off) (by simp [go_sem, hd]) _ _ (HR0.out wx (below_trans HB.out HB.out.size hR)) Try.underlying32 rfl (by kernel_rfl) ?_
                exact next_same _ rfl HVA.out.symm hR
              · refine ⟨fun _ => ?_, fun hX => by first | (simp at hX; done) | (simp [hd] at hX; done)⟩
                obtain ⟨hd0, hd1, -⟩ := hd
                exact wp_binop _ _ _ _ _ rfl hd0 hd1 (by rw [HVB.out, HVA.out]; first | kernel_rfl | rfl) (HNQ.out wx) (next_same _ rfl rfl hR)
              · refine ⟨fun _ => ?_, fun hX => by first | (simp at hX; done) | (simp [hd] at hX; done)⟩
                (try simp [hd]); go_simp; exact next_same _ rfl rfl hR
            intro x w7 hR hx
            simp [AllWords] at hx
            have h13 : x 13 = .bool true := by simp [hx]
            rw [h13]
            clear hx h13
            have HB7 := Lib.hid (below_trans HB.out HB.out.size hR)
            clear hR
            have hre : res = decide (3 ≤ cn) := HEQR.out
            by_cases h2 : 3 ≤ cn
            · have h2' : (3 : Int) ≤ cn := by omega
              rw [decide_eq_true h2] at hre
              subst hre
              go_wp2_with fail
              refine (DN.out _ HB7.out).mono ?_
              rintro e w8 ⟨rfl, hb8⟩
              have HB8 := Lib.hid (below_trans HB4.out HB4.out.size (below_trans HB7.out HB7.out.size hb8))
              clear hb8
              go_wp2_with fail
              go_ret
              exact ⟨(by first | rfl | (show Ending.returned (.bool (decide ((3 : Int) ≤ cn))) = _; rw [decide_eq_true h2']) | simp [h2']), HB8.out⟩
            · have h2' : ¬ (3 : Int) ≤ cn := by omega
              rw [decide_eq_false h2] at hre
              subst hre
              go_wp2_with fail
              refine (DN.out _ HB7.out).mono ?_
              rintro e w8 ⟨rfl, hb8⟩
              have HB8 := Lib.hid (below_trans HB4.out HB4.out.size (below_trans HB7.out HB7.out.size hb8))
              clear hb8
              go_wp2_with fail
              go_ret
              exact ⟨(by first | rfl | (show Ending.returned (.bool (!decide ((3 : Int) ≤ cn))) = _; rw [decide_eq_false h2']; rfl) | simp [h2']), HB8.out⟩
end Go.Proofs.Ytkpjehplchdmgaa
