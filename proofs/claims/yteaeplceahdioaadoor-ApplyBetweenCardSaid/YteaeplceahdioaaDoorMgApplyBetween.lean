/- Texts that walks stand on, one behind the other. -/
import Derived.Test.YteaeplceahdioaaDoorMgSD
import Derived.Test.YteaeplceahdioaaDoorCard
import Derived.Test.YteaeplceahdioaaDoorRows
import Derived.Test.YteaeplceahdioaaDoorMgSC
import Derived.ChangeVars
import Derived.LaidLaws
import Derived.LaidHandle
import Derived.Stop.Joined
namespace Go.Proofs.YteaeplceahdioaaDoor
open Go.RowKit
set_option linter.unusedVariables false
set_option linter.unusedSimpArgs false
set_option maxRecDepth 20000
attribute [local simp] putsF isV wordOf Deps Region.binds Region.wanted Act.put wantedX isB
theorem u32m3 {z : Int} (h : (Lit.int .u32 z).wf = true) : ∃ k : Nat, z % 3 = k ∧ k < 3 ∧ 0 ≤ z := by
  have := u32_wf h
  exact ⟨(z % 3).toNat, by omega, by omega, by omega⟩
theorem len3 {a b c : Nat} (h : a + b = c) (hc : c ≤ 100) : ((a : Int) + (b : Int) != (c : Int)) = false ∧ IntKind.i64.wrap ((a : Int) + b) = (a : Int) + b ∧ (a : Int) + (b : Int) = c := by
  refine ⟨by simp; omega, IntWalk.i64_in _ (by omega), by omega⟩
set_option maxHeartbeats 6400000 in
theorem applyBetween_walk (w : World) (hE : Etype w) (z : Int) (hz : (Lit.int .u8 z).wf = true) (A : Option Addr) (n c : Nat) (ds : List ActT) (hV : Acts5 w A n c ds) (A2 : Option Addr) (n2 c2 : Nat) (ds2 : List ActT) (hV2 : Acts5 w A2 n2 c2 ds2) (p : Int) (hp : (Lit.int .u32 p).wf = true) (q : Int) (hq : (Lit.int .u32 q).wf = true) :
    Calls Tryd.prog 5 #[.int .u8 z, .slice A n c, .slice A2 n2 c2, .int .u32 p, .int .u32 q] w fun e w' => e = .returned (.bool true) ∧ Below w.heap.size w w' := by
  have hz8 := u8_wf hz
  obtain ⟨on, rfl⟩ : ∃ on : Nat, z = on := ⟨z.toNat, by omega⟩
  obtain ⟨p3, hp3, hp4, hp0⟩ := u32m3 hp
  obtain ⟨q3, hq3, hq4, hq0⟩ := u32m3 hq
  obtain ⟨i0, hi, hz0, hz1, hz2⟩ := info_parts4 rec_info
  have OG := Lib.hid (fun w => origin_any on (by omega) w)
  have hob : (originB on).size ≤ maxLen := Nat.le_trans (originB_small on) (by decide)
  generalize originB on = o at *
  obtain ⟨a, ha⟩ : ∃ a, a = zoneR o p3 ds 30 := ⟨_, rfl⟩
  obtain ⟨b, hb⟩ : ∃ b, b = zoneR o q3 ds2 30 := ⟨_, rfl⟩
  have ZA : Hid (∀ wx, Below w.heap.size w wx → Calls Tryd.prog 18 #[.string o, .int .u32 (p3 : Nat), .slice A n c, .int .i64 30] wx fun e w' => ∃ v, e = .returned v ∧ OBM 4 wx.heap.size wx v a.length (flatR a) w') := Lib.hid (fun wx hbx => by rw [ha]; exact zone10_any o p3 (by omega) A n c 30 ds wx (hV.at_.below hbx) hV.most (by decide) hob)
  have ZB : Hid (∀ wx, Below w.heap.size w wx → Calls Tryd.prog 18 #[.string o, .int .u32 (q3 : Nat), .slice A2 n2 c2, .int .i64 30] wx fun e w' => ∃ v, e = .returned v ∧ OBM 4 wx.heap.size wx v b.length (flatR b) w') := Lib.hid (fun wx hbx => by rw [hb]; exact zone10_any o q3 (by omega) A2 n2 c2 30 ds2 wx (hV2.at_.below hbx) hV2.most (by decide) hob)
  have hal : a.length ≤ 31 := by rw [ha]; exact zoneR_len _ _ _ _
  have hbl : b.length ≤ 31 := by rw [hb]; exact zoneR_len _ _ _ _
  have HRA : Hid (Rising a) := Lib.hid (by rw [ha]; exact zoneR_rising _ _ _ _)
  have HRB : Hid (Rising b) := Lib.hid (by rw [hb]; exact zoneR_rising _ _ _ _)
  have HET := Lib.hid hE
  clear ha hb hob hz hp hq hV hV2 hz8 hE
  go_enter Tryd.func5, Tryd.ntmps5
  go_wp2_with fail
  refine (awake10_any _ HET.out).mono ?_
  rintro e w1 ⟨rfl, hb1⟩
  have HB1 := Lib.hid hb1
  clear hb1
  go_wp2_with fail
  refine (OG.out _).mono ?_
  rintro e w2 ⟨rfl, hb2⟩
  have HB2 := Lib.hid (below_trans HB1.out HB1.out.size hb2)
  clear hb2 OG
  go_wp2_with fail
  refine (ZA.out _ HB2.out).mono ?_
  rintro e w3 ⟨va, rfl, hoa⟩
  have HB3 := Lib.hid (below_trans HB2.out HB2.out.size hoa.bel)
  have HOA := Lib.hid hoa
  clear hoa ZA
  go_wp2_with fail
  refine (ZB.out _ HB3.out).mono ?_
  rintro e w4 ⟨vb, rfl, hob⟩
  have HB4 := Lib.hid (below_trans HB3.out HB3.out.size hob.bel)
  obtain ⟨AA, CA, rfl, ha1, ha2, -⟩ := HOA.out.slice
  obtain ⟨AB, CB, rfl, hb1, hb2, -⟩ := hob.slice
  have HA4 := Lib.hid ((HOA.out.recs rfl).below hob.bel)
  have HB4R := Lib.hid (hob.recs rfl)
  obtain ⟨la, hla⟩ : ∃ la, la = a.length := ⟨_, rfl⟩
  obtain ⟨lb, hlb⟩ : ∃ lb, lb = b.length := ⟨_, rfl⟩
  rw [← hla] at hal
  rw [← hlb] at hbl
  rw [← hla, ← hlb]
  have BT := Lib.hid (between_any AA AB la CA lb CB a b w4 HA4.out hla.symm (by omega) HB4R.out hlb.symm (by omega))
  have HLA := Lib.hid hla
  have HLB := Lib.hid hlb
  have HASB : Hid (∀ r wx, Below w4.heap.size w4 wx → Calls Tryd.prog 22 #[.slice AB lb CB, recV r] wx fun e w' => e = .returned (.bool (hasB b r)) ∧ Below wx.heap.size wx w') := Lib.hid (fun r wx hbx => has_any AB lb CB b r wx (HB4R.out.below hbx) HLB.out.symm (by unfold maxLen; omega))
  have HASA : Hid (∀ r wx, Below w4.heap.size w4 wx → Calls Tryd.prog 22 #[.slice AA la CA, recV r] wx fun e w' => e = .returned (.bool (hasB a r)) ∧ Below wx.heap.size wx w') := Lib.hid (fun r wx hbx => has_any AA la CA a r wx (HA4.out.below hbx) HLA.out.symm (by unfold maxLen; omega))
  clear hob HOA ha1 ha2 hb1 hb2 hla hlb ZB
  go_wp2_with fail
  refine BT.out.mono ?_
  rintro e w5 ⟨vg, vf, rfl, hog, hof, -⟩
  have HB5 := Lib.hid hog.bel
  obtain ⟨AG, CG, rfl, hg1, hg2, -⟩ := hog.slice
  obtain ⟨AF, CF, rfl, hf1, hf2, hf0⟩ := hof.slice
  have HGR := Lib.hid (hog.recs rfl)
  have HFS := Lib.hid hof.sl
  have HF0 := Lib.hid hf0
  obtain ⟨lg, hlg⟩ : ∃ lg, lg = (woR a b).length := ⟨_, rfl⟩
  obtain ⟨lf, hlf⟩ : ∃ lf, lf = (woR b a).length := ⟨_, rfl⟩
  have hlg2 : lg ≤ 31 := by rw [hlg]; have := woR_le a b; have := HLA.out; omega
  have hlf2 : lf ≤ 31 := by rw [hlf]; have := woR_le b a; have := HLB.out; omega
  have h1 := in_wo a b
  have h2 := in_wo_swap HRA.out HRB.out
  rw [← hlg, ← HLA.out] at h1
  rw [← hlf, ← HLB.out] at h2
  rw [← hlg, ← hlf]
  rw [← hlf] at HFS HF0
  have HLG := Lib.hid hlg
  have HLF := Lib.hid hlf
  obtain ⟨lr, hlr⟩ : ∃ lr, lr = (inR a b).length := ⟨_, rfl⟩
  rw [← hlr] at h1 h2
  have HL3 := Lib.hid (len3 h1 (by omega))
  have HL4 := Lib.hid (len3 h2 (by omega))
  have HLR := Lib.hid hlr
  have hlr2 : lr ≤ 31 := by omega
  clear hog hof hg1 hg2 hf1 hf2 hf0 hlg hlf BT h1 h2 hlr
  go_wp2_with fail
  go_loopw [16, 43] (fun v i wr => ∃ k : Nat, k ≤ la ∧ i = .int .i64 k ∧ Hid (OBM 4 w5.heap.size w5 v (inR (a.take k) b).length (flatR (inR (a.take k) b)) wr)) (fun _ i _ => la - (intOf i).toNat)
  case atStart => exact ⟨0, Nat.zero_le _, rfl, Lib.hid (by simpa [inR, flatR] using OBM.start w5)⟩
  case round =>
    obtain ⟨k, hk, rfl, HB⟩ := hrel
    by_cases hlt : k < la
    · have hlt' : (k : Int) < la := by omega
      have hk0 : ¬ (k : Int) < 0 := by omega
      obtain ⟨r, hr⟩ : ∃ q, a[k]? = some q := ⟨_, List.getElem?_eq_getElem (by rw [← HLA.out]; exact hlt)⟩
      obtain ⟨g, off, rfl, hg, z0, z1, z2, z3⟩ := (HA4.out.below (below_trans HB5.out HB5.out.size HB.out.bel)) k _ hr
      have HNX := Lib.hid (inR_next (b := b) hr)
      have hle : (inR (a.take k) b).length ≤ 100000 := by have := inR_le (a.take k) b; simp at this; omega
      have HAS2 := HASB.out r
      obtain ⟨q, hq⟩ : ∃ q, hasB b r = q := ⟨_, rfl⟩
      rw [hq] at HAS2 HNX
      have HAS3 := Lib.hid HAS2
      obtain ⟨wa, hwa⟩ : ∃ wa, wa = wr.alloc (.cells #[.string r.1, .int .u16 r.2.1, .int .u32 r.2.2.1, .string r.2.2.2] 32) := ⟨_, rfl⟩
      have HBA := Lib.hid (HB.out.alloc (.cells #[.string r.1, .int .u16 r.2.1, .int .u32 r.2.2.1, .string r.2.2.2] 32))
      have HCA : Hid (Cs wa wr.heap.size (recCells r)) := Lib.hid (by rw [hwa]; exact Cs.new wr _ _ _)
      rw [← hwa] at HBA
      have HWA := Lib.hid hwa
      obtain ⟨B, hB⟩ : ∃ B, B = wr.heap.size := ⟨_, rfl⟩
      rw [← hB] at HCA
      have HBB := Lib.hid hB
      unfold recV at HAS3
      clear hr hq hwa hB HAS2
      go_wp2_with fail
      rw [← HWA.out, ← HBB.out]
      refine (HAS3.out wa (below_trans HB5.out HB5.out.size HBA.out.bel)).mono ?_
      rintro e w6 ⟨rfl, hb6⟩
      have HB6 := Lib.hid (HBA.out.keep hb6 (Nat.le_refl _))
      have c0 := (HCA.out.below hb6).get 0 _
      have c1 := (HCA.out.below hb6).get 1 _
      have c2 := (HCA.out.below hb6).get 2 _
      have c3 := (HCA.out.below hb6).get 3 _
      have g2 := (HCA.out.below hb6).lt
      clear hb6 HAS3 z0 z1 z2 z3
      cases q with
      | false =>
        go_wp2_with fail
        go_roundw
        case rel => exact ⟨k + 1, by omega, by go_num, Lib.hid (by rw [HNX.out]; simpa using HB6.out)⟩
        case measure => simp [intOf]; omega
      | true =>
        have HBX := Lib.hid (HB6.out.alloc (.cells #[.string r.1, .int .u16 r.2.1, .int .u32 r.2.2.1, .string r.2.2.2] 32))
        have hs := Lib.hid (src_rec (w := w6) (ts := 26) Tryd.underlying26 r)
        go_wp2_with (at_builtin; go_loud (refine wpList_append_obm rfl _ _ 26 26 rfl 32 i0 _ 40 Tryd.underlying26 hi hz0 hz1 hz2 rfl HBX.out rfl rfl hs.out rfl (by unfold maxLen; omega) (by omega) ?_))
        intro v' w' q1 q2 q3 q4
        have Q1 := Lib.hid q1
        clear q1 q2 q3 q4
        go_wp2_with fail
        go_roundw
        case rel => exact ⟨k + 1, by omega, by go_num, Lib.hid (by rw [HNX.out, List.length_append, flatR_append]; simpa [flatR] using Q1.out)⟩
        case measure => simp [intOf]; omega
    · obtain rfl : k = la := by omega
      have hlt' : ¬ (k : Int) < k := by omega
      have HR : Hid (OBM 4 w5.heap.size w5 u16 lr (flatR (inR a b)) wr) := Lib.hid (by
        have h := HB.out
        rw [List.take_of_length_le (by rw [← HLA.out]; exact Nat.le_refl _), ← HLR.out] at h
        exact h)
      obtain ⟨AR, CR, hvr, hr1, hr2, hr3⟩ := HR.out.slice
      subst hvr
      obtain ⟨m1, m2, m3⟩ := HL3.out
      obtain ⟨m4, m5, m6⟩ := HL4.out
      have HRR := Lib.hid HR.out.bel
      clear hr1 hr2 hr3 HB
      obtain ⟨wq, hwq⟩ : ∃ wq, wq = wr := ⟨_, rfl⟩
      rw [← hwq] at HR HRR ⊢
      clear hwq
      go_wp2_with fail
      go_loopw [75] (fun i wx => ∃ j : Nat, j ≤ lg ∧ i = .int .i64 j ∧ Hid (Below wq.heap.size wq wx)) (fun i _ => lg - (intOf i).toNat)
      case atStart => exact ⟨0, Nat.zero_le _, rfl, Lib.hid (Below.refl _ _)⟩
      case round =>
        obtain ⟨j, hj, rfl, HX⟩ := hrel
        by_cases hlt2 : j < lg
        · have hlt2' : (j : Int) < lg := by omega
          have hj0 : ¬ (j : Int) < 0 := by omega
          obtain ⟨r, hr⟩ : ∃ q, (woR a b)[j]? = some q := ⟨_, List.getElem?_eq_getElem (by rw [← HLG.out]; exact hlt2)⟩
          have HBX := Lib.hid (below_trans HRR.out HRR.out.size HX.out)
          have HRX := Lib.hid (HGR.out.below HBX.out)
          obtain ⟨g, off, rfl, hg, z0, z1, z2, z3⟩ := HRX.out j _ hr
          have hmr := woR_mem.1 (List.mem_of_getElem? hr)
          have HB1 := HASB.out r
          have HA1 := HASA.out r
          rw [hasB_false.2 hmr.2] at HB1
          rw [(hasB_iff _ _).2 hmr.1] at HA1
          unfold recV at HB1 HA1
          have HB1x := Lib.hid HB1
          have HA1x := Lib.hid HA1
          obtain ⟨wa, hwa⟩ : ∃ wa, wa = wr.alloc (.cells #[.string r.1, .int .u16 r.2.1, .int .u32 r.2.2.1, .string r.2.2.2] 32) := ⟨_, rfl⟩
          obtain ⟨B, hB⟩ : ∃ B, B = wr.heap.size := ⟨_, rfl⟩
          have HCA : Hid (Cs wa B (recCells r)) := Lib.hid (by rw [hwa, hB]; exact Cs.new wr _ _ _)
          have HBAR : Hid (Below wq.heap.size wq wa) := Lib.hid (by rw [hwa]; exact HX.out.alloc HX.out.size _)
          have HBA : Hid (Below w4.heap.size w4 wa) := Lib.hid (by rw [hwa]; exact (below_trans HB5.out HB5.out.size HBX.out).alloc (below_trans HB5.out HB5.out.size HBX.out).size _)
          have HWA := Lib.hid hwa
          have HBB := Lib.hid hB
          have HR := Lib.hid hr
          clear hwa hB hmr HB1 HA1 hr
          by_cases hz : j = 0
          · have hzi : decide ((0 : Int) < (j : Int)) = false := by simp; omega
            have hzn : decide (0 < j) = false := by simp; omega
            clear hz
            have HPC : Hid (∀ wy : World, Below wa.heap.size wa wy → True ∧ True ∧ True ∧ True) := Lib.hid (fun _ _ => ⟨trivial, trivial, trivial, trivial⟩)
            have CMP : Hid (∀ wy : World, True) := Lib.hid (fun _ => trivial)
            go_upto_region 18 with fail
            rw [← HWA.out, ← HBB.out]
            refine wp_region_goesG app_follows (fun x => by simp [putsF, Act.put]; rfl) wa.heap.size wa
              [isV (.slice AB lb CB), isV (.agg #[.string r.1, .int .u16 r.2.1, .int .u32 r.2.2.1, .string r.2.2.2]), isV (.bool false), isV (.bool false), isV (.slice AA k CA), isV (.agg #[.string r.1, .int .u16 r.2.1, .int .u32 r.2.2.1, .string r.2.2.2]), isV (.bool true), isV (.bool false), isV (.bool false), isV (.bool false), isV (.int .i64 (j : Nat)), isV (.bool false), isV (.bool false), isV undef, isV undef, isV undef, isV undef, isV undef, isV undef, isV undef, isV undef, isV (.bool false), isV (.bool false)]
              (by kernel_rfl) (by kernel_rfl) (by kernel_rfl) rfl ?_ (Below.refl _ _) ?_ ?_
            · repeat (first | exact trivial | refine ⟨isV_stays _, ?_⟩)
            · refine ⟨?_, ?_, ?_, ?_, ?_, ?_, ?_, ?_, ?_, ?_, ?_, ?_, ?_, ?_, ?_, ?_, ?_, ?_, ?_, ?_, ?_, ?_, ?_, trivial⟩
              all_goals
                intro x wy hRx hd
                simp at hd ⊢
              all_goals try simp [hd]
              all_goals first
                | (have c0 := (HCA.out.below hRx).get 0 _
                   have c1 := (HCA.out.below hRx).get 1 _
                   have c2 := (HCA.out.below hRx).get 2 _
                   have c3 := (HCA.out.below hRx).get 3 _
                   have gl := (HCA.out.below hRx).lt
                   go_simp; exact next_same _ rfl rfl hRx)
                | (have c0 := (HPC.out wy hRx).1
                   have c1 := (HPC.out wy hRx).2.1
                   have c2 := (HPC.out wy hRx).2.2.1
                   have c3 := (HPC.out wy hRx).2.2.2
                   go_simp; exact next_same _ rfl rfl hRx)
                | (go_simp
                   go_at_call 22
                   first
                   | (with_reducible refine (HB1x.out wy (below_trans HBA.out HBA.out.size hRx)).mono ?_)
                   | (with_reducible refine (HA1x.out wy (below_trans HBA.out HBA.out.size hRx)).mono ?_)
                   rintro e w3 ⟨rfl, hb3⟩
                   exact next_call _ rfl rfl hRx hRx.size hb3)
                | (go_simp
                   go_at_call 23
                   refine (CMP.out wy).mono ?_
                   rintro e w3 ⟨rfl, hb3⟩
                   exact next_call _ rfl rfl hRx hRx.size hb3)
                | trace_state
            intro x wy hby hx
            simp [AllWords] at hx ⊢
            have hx22 : x 22 = .bool false := by simp [hx]
            clear hx
            rw [hx22]
            have HBY := Lib.hid (below_trans HBAR.out HBAR.out.size hby)
            clear hby
            go_wp2_with fail
            go_roundw
            case rel => exact ⟨j + 1, by omega, by go_num, HBY⟩
            case measure => simp [intOf]; omega
          · have hzi : decide ((0 : Int) < (j : Int)) = true := by simp; omega
            have hzn : decide (0 < j) = true := by simp; omega
            obtain ⟨i1, hi1⟩ : ∃ i1, i1 = j - 1 := ⟨_, rfl⟩
            have hsub : IntKind.i64.wrap ((j : Int) - 1) = (i1 : Int) := by rw [IntWalk.i64_in _ (by omega)]; omega
            have hsub3 : IntKind.i64.wrap (i1 : Int) = (i1 : Int) := IntWalk.i64_in _ (by omega)
            have hi1l : (i1 : Int) < lg := by omega
            have hi10 : ¬ (i1 : Int) < 0 := by omega
            obtain ⟨p0, hp0'⟩ : ∃ q, (woR a b)[i1]? = some q := ⟨_, List.getElem?_eq_getElem (by rw [← HLG.out]; omega)⟩
            obtain ⟨g', off', hge, hg', y0, y1, y2, y3⟩ := HRX.out i1 _ hp0'
            injection hge with hge; injection hge with e1 e2; subst e1 e2
            have HPC : Hid (∀ wy : World, Below wa.heap.size wa wy → wy.cell? ⟨g, off + i1 * 4, none⟩ = some (.string p0.1) ∧ wy.cell? ⟨g, off + i1 * 4 + 1, none⟩ = some (.int .u16 p0.2.1) ∧ wy.cell? ⟨g, off + i1 * 4 + 2, none⟩ = some (.int .u32 p0.2.2.1) ∧ wy.cell? ⟨g, off + i1 * 4 + 3, none⟩ = some (.string p0.2.2.2)) := Lib.hid (fun wy hby => by
              have hbb : Below wr.heap.size wr wy := by
                refine below_trans ?_ ?_ hby
                · rw [HWA.out]; exact (Below.refl _ _).alloc (Nat.le_refl _) _
                · rw [HWA.out]; simp
              exact ⟨(hbb.cell (p := ⟨g, off + i1 * 4, none⟩) hg).trans y0, (hbb.cell (p := ⟨g, off + i1 * 4 + 1, none⟩) hg).trans y1, (hbb.cell (p := ⟨g, off + i1 * 4 + 2, none⟩) hg).trans y2, (hbb.cell (p := ⟨g, off + i1 * 4 + 3, none⟩) hg).trans y3⟩)
            obtain ⟨CM, hCM⟩ : ∃ CM, CM = cmpR p0 r := ⟨_, rfl⟩
            have hneg : CM < 0 := by rw [hCM]; exact rising_at (woR_rising HRA.out) hp0' HR.out (by omega)
            have CMP : Hid (∀ wy : World, Calls Tryd.prog 23 #[.agg #[.string p0.1, .int .u16 p0.2.1, .int .u32 p0.2.2.1, .string p0.2.2.2], .agg #[.string r.1, .int .u16 r.2.1, .int .u32 r.2.2.1, .string r.2.2.2]] wy fun e w' => e = .returned (.int .i64 CM) ∧ Below wy.heap.size wy w') := Lib.hid (fun wy => by rw [hCM]; exact compare_any p0 r wy)
            have hge0 : decide ((0 : Int) ≤ CM) = false := by simp; omega
            clear hp0' y0 y1 y2 y3 hi1 hCM hg'
            go_upto_region 18 with fail
            rw [← HWA.out, ← HBB.out]
            refine wp_region_goesG app_follows (fun x => by simp [putsF, Act.put]; rfl) wa.heap.size wa
              [isV (.slice AB lb CB), isV (.agg #[.string r.1, .int .u16 r.2.1, .int .u32 r.2.2.1, .string r.2.2.2]), isV (.bool false), isV (.bool false), isV (.slice AA k CA), isV (.agg #[.string r.1, .int .u16 r.2.1, .int .u32 r.2.2.1, .string r.2.2.2]), isV (.bool true), isV (.bool false), isV (.bool false), isV (.bool false), isV (.int .i64 (j : Nat)), isV (.bool true), isV (.bool true), isV (.slice (some ⟨g, off, none⟩) lg CG), isV (.int .i64 (j : Nat)), isV (.int .i64 (i1 : Nat)), isV (.pointer (some ⟨g, off + i1 * 4, none⟩)), isV (.agg #[.string p0.1, .int .u16 p0.2.1, .int .u32 p0.2.2.1, .string p0.2.2.2]), isV (.agg #[.string r.1, .int .u16 r.2.1, .int .u32 r.2.2.1, .string r.2.2.2]), isV (.int .i64 CM), isV (.bool false), isV (.bool false), isV (.bool false)]
              (by kernel_rfl) (by kernel_rfl) (by kernel_rfl) rfl ?_ (Below.refl _ _) ?_ ?_
            · repeat (first | exact trivial | refine ⟨isV_stays _, ?_⟩)
            · refine ⟨?_, ?_, ?_, ?_, ?_, ?_, ?_, ?_, ?_, ?_, ?_, ?_, ?_, ?_, ?_, ?_, ?_, ?_, ?_, ?_, ?_, ?_, ?_, trivial⟩
              all_goals
                intro x wy hRx hd
                simp at hd ⊢
              all_goals try simp [hd]
              all_goals first
                | (have c0 := (HCA.out.below hRx).get 0 _
                   have c1 := (HCA.out.below hRx).get 1 _
                   have c2 := (HCA.out.below hRx).get 2 _
                   have c3 := (HCA.out.below hRx).get 3 _
                   have gl := (HCA.out.below hRx).lt
                   go_simp; exact next_same _ rfl rfl hRx)
                | (have c0 := (HPC.out wy hRx).1
                   have c1 := (HPC.out wy hRx).2.1
                   have c2 := (HPC.out wy hRx).2.2.1
                   have c3 := (HPC.out wy hRx).2.2.2
                   go_simp; exact next_same _ rfl rfl hRx)
                | (go_simp
                   go_at_call 22
                   first
                   | (with_reducible refine (HB1x.out wy (below_trans HBA.out HBA.out.size hRx)).mono ?_)
                   | (with_reducible refine (HA1x.out wy (below_trans HBA.out HBA.out.size hRx)).mono ?_)
                   rintro e w3 ⟨rfl, hb3⟩
                   exact next_call _ rfl rfl hRx hRx.size hb3)
                | (go_simp
                   go_at_call 23
                   refine (CMP.out wy).mono ?_
                   rintro e w3 ⟨rfl, hb3⟩
                   exact next_call _ rfl rfl hRx hRx.size hb3)
                | trace_state
            intro x wy hby hx
            simp [AllWords] at hx ⊢
            have hx22 : x 22 = .bool false := by simp [hx]
            clear hx
            rw [hx22]
            have HBY := Lib.hid (below_trans HBAR.out HBAR.out.size hby)
            clear hby
            go_wp2_with fail
            go_roundw
            case rel => exact ⟨j + 1, by omega, by go_num, HBY⟩
            case measure => simp [intOf]; omega
        · obtain rfl : j = lg := by omega
          have hlt2' : ¬ (j : Int) < j := by omega
          have HRX := Lib.hid (HR.out.keep HX.out (Nat.le_refl _))
          have hS : Src Tryd.prog 4 26 (.slice AF lf CF) lf (flatR (woR b a)) wr := Sl.srcM Tryd.underlying26 (HFS.out.below (below_trans HRR.out HRR.out.size HX.out)) (fun e => (HF0.out e).1) (flatR_one _)
          have HSS := Lib.hid hS
          have hfl : (flatR (woR b a)).length = lf * 4 := by rw [flatR_len, HLF.out]
          clear hS
          go_wp2_with (at_builtin; go_loud (refine wpList_append_obm rfl _ _ 26 26 rfl 32 i0 _ 40 Tryd.underlying26 hi hz0 hz1 hz2 rfl HRX.out rfl rfl HSS.out hfl (by unfold maxLen; omega) (by omega) ?_))
          intro v' w6 q1 q2 q3 q4
          obtain ⟨Z, hZ⟩ : ∃ Z, Z = inR a b ++ woR b a := ⟨_, rfl⟩
          have hZl : Z.length = lr + lf := by rw [hZ, List.length_append, HLR.out, HLF.out]
          have Q1 : Hid (OBM 4 w5.heap.size w5 v' Z.length (flatR Z) w6) := Lib.hid (by rw [hZl, hZ, flatR_append]; exact q1)
          obtain ⟨A3, c3, rfl, hc1, hc2, -⟩ := Q1.out.slice
          have hz : Z.length ≤ 100000 := by omega
          have hsz : sortedR Z = b := by rw [hZ]; exact sorted_join HRA.out HRB.out
          have SR := sorted_any A3 Z.length c3 Z w6 (Q1.out.recs rfl) rfl hz
          rw [hsz] at SR
          have SR := Lib.hid SR
          clear q1 q2 q3 q4 hz hc1 hc2 hZ hZl hsz hfl
          go_wp2_with fail
          refine SR.out.mono ?_
          rintro e w7 ⟨v7, rfl, ho7⟩
          obtain ⟨A7, c7, rfl, h71, h72, -⟩ := ho7.slice
          have HB7 := Lib.hid (below_trans HB5.out HB5.out.size (below_trans Q1.out.bel Q1.out.bel.size ho7.bel))
          have SM := same_recs A7 AB c7 CB b b w7 (ho7.recs rfl) (HB4R.out.below HB7.out) (by rw [← HLB.out]; unfold maxLen; omega) (by rw [← HLB.out]; unfold maxLen; omega)
          rw [← HLB.out] at SM ⊢
          simp only [decide_true] at SM
          have SM := Lib.hid SM
          clear ho7 h71 h72
          go_wp2_with fail
          refine SM.out.mono ?_
          rintro e w8 ⟨rfl, hb8⟩
          have HB8 := Lib.hid (below_trans HB4.out HB4.out.size (below_trans HB7.out HB7.out.size hb8))
          clear hb8
          go_wp2_with fail
          go_ret
          exact ⟨rfl, HB8.out⟩
end Go.Proofs.YteaeplceahdioaaDoor
namespace Go.Proofs.YteaeplceahdioaaDoor
open Go.ChangeShapes Go.WideShapes Go.RowKit
theorem laid_et : Tryd.prog.globalNamed "errors.errorType" = some 0 := by kernel_rfl
theorem laid_rt : (Tryd.prog.cutTypes.find? (·.1 == "internal/reflectlite.rtype")).map (·.2) = some 140 := by kernel_rfl
theorem laid_row : ((List.range 197).filter fun t => Tryd.prog.rowNamed t [101, 114, 114, 111, 114]) = [37] := by kernel_rfl
theorem laid_size : Tryd.prog.types.size = 197 := by kernel_rfl
/-- The rows' list. -/
abbrev laidE : List (String × DataW Unit) := [("errors.errorType", Rows.laid_errors_errorType)]
theorem etype_of_laid {W : World} (h : laidMetH Tryd.prog laidE W) : Etype W := by
  have h' : laidMet Tryd.prog [] W ∧ handlesMet Tryd.prog laidE W := h
  obtain ⟨name, u, ty, e1, e2, e3, e4, e5⟩ := h'.2 _ (List.mem_singleton.2 rfl)
  have en : name = [101, 114, 114, 111, 114] := (Option.some.inj e1).symm
  subst en
  obtain rfl := Option.some.inj (laid_rt.symm.trans e2)
  have hm : ty ∈ (List.range 197).filter fun t => Tryd.prog.rowNamed t [101, 114, 114, 111, 114] := List.mem_filter.2 ⟨List.mem_range.2 (by rw [← laid_size]; exact e3), e4⟩
  rw [laid_row] at hm
  obtain rfl := List.mem_singleton.1 hm
  have hh : typeHandle Tryd.prog 37 = .pointer (some ⟨1, 37, none⟩) := by kernel_rfl
  rw [hh] at e5
  have e6 := World.var?_cell laid_et e5 0
  unfold Etype
  simpa using e6
/-- The settled world, the variable's cell laid. -/
noncomputable def laidWorld (os : Os) : World :=
  let w0 := World.holding Tryd.prog os ⟨#[], #[], []⟩
  { w0 with heap := w0.heap.modify 0 fun
      | .cells _ t fz => .cells #[.iface 140 (.agg #[.pointer (some ⟨1, 37, none⟩)])] t fz
      | o => o }
theorem laidWorld_met (os : Os) (args : Array Value) : laidMetH Tryd.prog laidE ((laidWorld os).forCall (fun _ _ => 0) ⟨#[], args, []⟩).memory :=
  laidMetH_of_parts (laidMet_nil _ _) (by kernel_rfl)
end Go.Proofs.YteaeplceahdioaaDoor
