/- Texts that walks stand on, one behind the other. -/
import Derived.Test.YtkpjehplchdmgaaDoorMgSD
import Derived.Test.YtkpjehplchdmgaaDoorViewA
import Derived.Test.YtkpjehplchdmgaaDoorAs
import Derived.Test.YtkpjehplchdmgaaDoorLaid
import Derived.Test.YtkpjehplchdmgaaDoorMgSA
import Derived.Outline
import Derived.Deep.DeepCutAuto
namespace Go.Proofs.YtkpjehplchdmgaaDoor
open Go.RowKit
set_option linter.unusedVariables false
set_option linter.unusedSimpArgs false
set_option maxRecDepth 20000
theorem full_all (m : RecT → Bool) (o : ByteArray) (A : Option Addr) (n c : Nat) (rs : List RecT) (w : World) (h : Recs w A rs) (hl : rs.length = n) (hn : n ≤ 1000) (hc : n ≤ c) (ho : o.size ≤ maxLen) (hz : ∀ r ∈ rs, r.1.size ≤ maxLen)
    (hm : ∀ r ∈ rs, ∀ w, Calls Tryd.prog 34 #[recV r] w fun e w' => e = .returned (.bool (m r)) ∧ Below w.heap.size w w') :
    Calls Tryd.prog 11 #[.string o, .slice A n c] w fun e w' =>
      (fullR m o rs = false ∧ e = .returned (.tuple #[.slice none 0 0, .iface 39 (.int .i64 4)]) ∧ Below w.heap.size w w') ∨
      (fullR m o rs = true ∧ 2 ≤ n ∧ ∃ A' c', e = .returned (.tuple #[.slice A' (n - 1) c', .nilIface]) ∧ OBM 4 w.heap.size w (.slice A' (n - 1) c') (n - 1) (flatR (rs.take (n - 1))) w') := by
  by_cases h2 : n < 2
  · refine (full_few m o A n c rs w hl h2).mono ?_
    rintro e w' (⟨g1, g2, g3⟩ | ⟨g1, -⟩)
    · exact .inl ⟨g1, g2, g3⟩
    · exfalso
      match rs, hl with
      | [], _ => cases g1
      | [_], _ => cases g1
      | a :: b :: t, hl => simp at hl; omega
  · obtain ⟨r, hr⟩ : ∃ r, rs[0]? = some r := ⟨_, List.getElem?_eq_getElem (by omega)⟩
    obtain ⟨bb, off, rfl, hbw, -⟩ := h.range hr
    refine (full_any m o bb off n c rs w h hl hn (by omega) hc ho hz hbw hm (fun wx hb => ?_)).mono ?_
    · have hp := (h.below hb).part 0 (n - 1)
      rw [Nat.zero_mul, Nat.add_zero, List.drop_zero] at hp
      have hp2 := hp.sl
      rw [show (rs.take (n - 1)).length = n - 1 by rw [List.length_take, hl]; omega] at hp2
      exact clone_recs _ _ _ _ _ _ hp2 (flatR_one _) (fun e => by cases e) (by omega)
    · rintro e w' (⟨g1, g2, g3⟩ | ⟨g1, v, g2, g3⟩)
      · exact .inl ⟨g1, g2, g3⟩
      · rw [hl] at g3
        obtain ⟨A', c', rfl, -⟩ := g3.slice
        exact .inr ⟨g1, by omega, A', c', g2, g3⟩
theorem sf_facts (m CS : Nat) (rs : List RecT) (hm : m = rs.length) (h1 : m ≤ 40) (h2 : 2 ≤ m) (h3 : m ≤ CS) : ∃ L, L = m - 1 ∧ (rs.take (m - 1)).length = m - 1 ∧ 0 < rs.length ∧ m - 1 ≤ maxLen ∧ wrap64 ((m : Int) - 1) = (L : Int) ∧ IntKind.i64.wrap ((m : Int) - 1) = (L : Int) ∧ (0 : Int) ≤ (L : Int) ∧ (L : Int) ≤ CS ∧ L ≤ CS := by
  refine ⟨m - 1, rfl, by rw [List.length_take]; omega, by omega, by unfold maxLen; omega, by unfold wrap64; omega, by rw [IntKind.wrap_i64]; omega, by omega, by omega, by omega⟩
set_option maxHeartbeats 6400000 in
theorem streamFull_walk (w : World) (hE : Etype w) (z : Int) (hz : (Lit.int .u8 z).wf = true) (A : Option Addr) (n c : Nat) (ds : List ActT) (hV : Acts5 w A n c ds) (cl : Bool) :
    Calls Tryd.prog 3 #[.int .u8 z, .slice A n c, .bool cl] w fun e w' => e = .returned (.bool true) ∧ Below w.heap.size w w' := by
  obtain ⟨mf, hmf⟩ := may_fun
  have hz8 := u8_wf hz
  obtain ⟨on, rfl⟩ : ∃ on : Nat, z = on := ⟨z.toNat, by omega⟩
  have OG := Lib.hid (fun w => origin_any on (by omega) w)
  have hob := originB_le on
  generalize originB on = o at *
  have hom : o.size ≤ maxLen := Nat.le_trans hob (by decide)
  have hnm : n ≤ maxLen := Nat.le_trans hV.le hV.max
  have hat := hV.at_
  have UN : Hid (∀ (q : Bool) wx, Below w.heap.size w wx → Calls Tryd.prog 9 #[.string o, .slice A n c, .int .i64 30, .bool q] wx fun e w' => ∃ (V : Option Addr) (C : Nat) (rs : List RecT), e = .returned (.slice V rs.length C) ∧ rs.length ≤ 30 ∧ (∀ r ∈ rs, fit9 r) ∧ OBM 4 wx.heap.size wx (.slice V rs.length C) rs.length (flatR rs) w') := Lib.hid (fun q wx hb => (under_any o A n c 30 q ds wx (hat.below hb) hnm (by omega) hom).mono (by
    rintro e w' ⟨v, rfl, ho⟩
    obtain ⟨A', c', rfl, -⟩ := ho.slice
    exact ⟨A', c', _, rfl, by rw [undersOf_len]; omega, fit9_unders o hob q ds 30, ho⟩))
  have SO : Hid (∀ w, Calls Tryd.prog 10 #[.string o, .int .u32 4] w fun e w' => e = .returned (.agg #[.string o, .int .u16 6, .int .u32 9, .string (soaD 4)]) ∧ Below w.heap.size w w') := Lib.hid (fun w => soa9_any o 4 (by decide) w)
  have HFS := Lib.hid (fit9_soa o hob 4)
  have HFS : Hid (fit9 (o, 6, 9, soaD 4)) := HFS
  generalize soaD 4 = D at *
  obtain ⟨i0, hi, hz0, hz1, hz2⟩ := info_parts4 rec_info
  have HET := Lib.hid hE
  have HOM := Lib.hid hom
  have HMF := Lib.hid hmf
  clear hz hat hV hnm hz8 hob hE hmf hom
  go_enter Tryd.func3, Tryd.ntmps3
  go_wp2_with fail
  refine (awake09_any _).mono ?_
  rintro e w1 ⟨rfl, hb1⟩
  have HB1 := Lib.hid hb1
  clear hb1
  go_wp2_with fail
  refine (OG.out _).mono ?_
  rintro e w2 ⟨rfl, hb2⟩
  have HB2 := Lib.hid (below_trans HB1.out HB1.out.size hb2)
  clear hb2 OG
  go_wp2_with fail
  refine (UN.out true _ HB2.out).mono ?_
  rintro e w4 ⟨V, C, rs0, rfl, hrl, hfit, ho4⟩
  have HB4 := Lib.hid (below_trans HB2.out HB2.out.size ho4.bel)
  have HO4 := Lib.hid ho4
  have HRL := Lib.hid hrl
  have HFT := Lib.hid hfit
  clear ho4 hrl hfit
  go_upto_region 5 with fail
  obtain ⟨tb, htb⟩ : ∃ t, t = (cl && decide (0 < rs0.length)) := ⟨_, rfl⟩
  obtain ⟨m0, hm0⟩ : ∃ m, m = rs0.length := ⟨_, rfl⟩
  rw [← hm0] at HO4 HRL ⊢
  rw [← hm0] at htb
  have HM0 := Lib.hid hm0
  have HTB := Lib.hid htb
  clear htb hm0
  go_cut [23] (fun v wc => v = .bool tb ∧ wc = w4)
  case first =>
    have htb := HTB.out
    clear HTB
    cases cl with
    | false =>
      replace htb : tb = false := htb
      subst htb
      go_wp2_with fail
      go_meet
      exact ⟨rfl, rfl⟩
    | true =>
      by_cases h0 : 0 < m0
      · have h0i : (0 : Int) < m0 := by omega
        replace htb : tb = true := by rw [htb]; simp [h0]
        subst htb
        go_wp2_with fail
        go_meet
        exact ⟨rfl, rfl⟩
      · have h0i : ¬ (0 : Int) < m0 := by omega
        replace htb : tb = false := by rw [htb]; simp [h0]
        subst htb
        go_wp2_with fail
        go_meet
        exact ⟨rfl, rfl⟩
  case rest =>
  obtain ⟨rfl, hwc⟩ := hcut
  replace hwc := hwc.symm
  subst hwc
  clear HTB
  rename_i Kx hKx Ky hKy
  refine hKy _ _ ?_
  go_cut [8] (fun v wc => ∃ (V : Option Addr) (C : Nat) (rs : List RecT), v = .slice V rs.length C ∧ Hid (rs.length ≤ 40) ∧ Hid (∀ r ∈ rs, fit9 r) ∧ Hid (rs.length ≤ C) ∧ Hid (Recs wc V rs) ∧ Hid (Below w.heap.size w wc))
  case first =>
    cases tb with
    | false =>
      go_wp2_with fail
      go_meet
      obtain ⟨A', C', e', g1, -, -⟩ := HO4.out.slice
      injection e' with e1 e2 e3
      subst e1 e3
      exact ⟨_, _, rs0, by rw [← HM0.out], Lib.hid (by rw [← HM0.out]; have := HRL.out; omega), HFT, Lib.hid (by rw [← HM0.out]; exact g1), Lib.hid (HO4.out.recs HM0.out.symm), HB4⟩
    | true =>
      go_wp2_with fail
      refine (SO.out _).mono ?_
      rintro e wa ⟨rfl, hba⟩
      have hn6 : OBM 4 wa.heap.size wa (.slice (some ⟨wa.heap.size, 0, none⟩) 1 1) 1 [.string o, .int .u16 6, .int .u32 9, .string D] (wa.alloc (.cells #[.string o, .int .u16 6, .int .u32 9, .string D] 32)) := OBM.fresh (Below.refl _ _) (Nat.le_refl _) #[.string o, .int .u16 6, .int .u32 9, .string D] _ 1 [.string o, .int .u16 6, .int .u32 9, .string D] rfl rfl (by decide)
      have HBA := Lib.hid (below_trans HB4.out HB4.out.size hba)
      have HN6 := Lib.hid hn6
      have hbx : Below w.heap.size w (wa.alloc (.cells #[.string o, .int .u16 6, .int .u32 9, .string D] 32)) := HBA.out.alloc HBA.out.size _
      have HBX := Lib.hid hbx
      clear hba hn6 hbx
      go_wp2_with fail
      refine (UN.out false _ HBX.out).mono ?_
      rintro e wb ⟨V2, C2, rs2, rfl, hrl2, hft2, ho2⟩
      obtain ⟨m2, hm2⟩ : ∃ m, m = rs2.length := ⟨_, rfl⟩
      rw [← hm2] at ho2 hrl2 ⊢
      have HM2 := Lib.hid hm2
      have ho := Lib.hid (HN6.out.keep ho2.bel (Nat.le_refl _))
      have hS : Hid (Src Tryd.prog 4 26 (.slice V2 m2 C2) m2 (flatR rs2) wb) := Lib.hid (Sl.srcM Tryd.underlying26 ho2.sl (fun e => by
        obtain ⟨A', C', e', -, -, g3⟩ := ho2.slice
        injection e' with e1 e2 e3
        exact (g3 (by rw [← e1]; exact e)).1) (flatR_one rs2))
      have HFL2 := Lib.hid (show (flatR rs2).length = m2 * 4 by rw [flatR_len, ← hm2])
      have HRL2 := Lib.hid hrl2
      have HFT2 := Lib.hid hft2
      clear ho2 hrl2 hft2 hm2
      go_wp2_with (first | (at_builtin; go_loud (refine wpList_append_obm rfl _ _ 26 26 rfl 32 i0 _ 40 Tryd.underlying26 hi hz0 hz1 hz2 rfl ho.out rfl rfl hS.out HFL2.out (by have := HRL2.out; unfold maxLen; omega) (by have := HRL2.out; omega) ?_)))
      intro v' wd q1 q2 q3 q4
      have Q1 := Lib.hid q1
      clear q1 q2 q3 q4 ho hS
      go_wp2_with fail
      refine (SO.out _).mono ?_
      rintro e we ⟨rfl, hbe⟩
      have ho5 := Lib.hid ((Q1.out.keep hbe (Nat.le_refl _)).alloc (.cells #[.string o, .int .u16 6, .int .u32 9, .string D] 32))
      have hS5 : Hid (Src Tryd.prog 4 26 (.slice (some ⟨we.heap.size, 0, none⟩) 1 1) 1 [.string o, .int .u16 6, .int .u32 9, .string D] (we.alloc (.cells #[.string o, .int .u16 6, .int .u32 9, .string D] 32))) := by
        refine Lib.hid (Src.ofSlice _ Tryd.underlying26 _ 1 1 _ rfl ?_ (recCells_one (o, 6, 9, D)))
        exact news_at we #[.string o, .int .u16 6, .int .u32 9, .string D] _
      clear hbe Q1
      go_wp2_with (first | (at_builtin; go_loud (refine wpList_append_obm rfl _ _ 26 26 rfl 32 i0 _ 40 Tryd.underlying26 hi hz0 hz1 hz2 rfl ho5.out rfl rfl hS5.out rfl (by have := HRL2.out; unfold maxLen; omega) (by have := HRL2.out; omega) ?_)))
      intro v6 wf q1 q2 q3 q4
      have Q6 := Lib.hid (q1.out HBA.out.size HBA.out)
      clear q1 q2 q3 q4 ho5 hS5
      go_wp2_with fail
      go_meet
      have hlen : ((o, (6 : Int), (9 : Int), D) :: (rs2 ++ [(o, (6 : Int), (9 : Int), D)])).length = 1 + m2 + 1 := by simp [HM2.out]; omega
      have hfl : flatR ((o, (6 : Int), (9 : Int), D) :: (rs2 ++ [(o, (6 : Int), (9 : Int), D)])) = [.string o, .int .u16 6, .int .u32 9, .string D] ++ flatR rs2 ++ [.string o, .int .u16 6, .int .u32 9, .string D] := by
        unfold flatR
        simp [recCells]
      have Q7 : OBM 4 w.heap.size w v6 (1 + m2 + 1) (flatR ((o, (6 : Int), (9 : Int), D) :: (rs2 ++ [(o, (6 : Int), (9 : Int), D)]))) wf := by rw [hfl]; exact Q6.out
      obtain ⟨A', C', rfl, g1, -, -⟩ := Q7.slice
      refine ⟨A', C', (o, 6, 9, D) :: (rs2 ++ [(o, 6, 9, D)]), by rw [hlen], Lib.hid (by rw [hlen]; have := HRL2.out; omega), Lib.hid ?_, Lib.hid (by rw [hlen]; exact g1), Lib.hid (Q7.recs hlen), Lib.hid Q7.bel⟩
      intro r hr
      simp only [List.mem_cons, List.mem_append, List.not_mem_nil, or_false] at hr
      rcases hr with rfl | hr | rfl
      · exact HFS.out
      · exact HFT2.out r hr
      · exact HFS.out
  case rest =>
  obtain ⟨VS, CS, rs, rfl, HRL5, HFT5, HCS, HREC, HB5⟩ := hcut
  obtain ⟨m, hm⟩ : ∃ m, m = rs.length := ⟨_, rfl⟩
  rw [← hm] at HRL5 HCS ⊢
  have HM := Lib.hid hm
  have hz5 : ∀ r ∈ rs, r.1.size ≤ maxLen := fun r hr => Nat.le_trans (HFT5.out r hr).2.1 (by decide)
  have hm5 : ∀ r ∈ rs, ∀ w, Calls Tryd.prog 34 #[recV r] w fun e w' => e = .returned (.bool (mf r)) ∧ Below w.heap.size w w' := fun r hr => HMF.out r (HFT5.out r hr)
  have FU := Lib.hid (full_all mf o VS m CS rs wc HREC.out hm.symm (by have := HRL5.out; omega) HCS.out HOM.out hz5 hm5)
  have F9 := Lib.hid (fun (wx : World) (hb : Below wc.heap.size wc wx) => full9_any mf o VS m CS rs wx (HREC.out.below hb) hm.symm (by have := HRL5.out; omega) HCS.out HOM.out hz5 hm5)
  clear hm hz5 hm5 HMF UN SO
  go_wp2_with fail
  refine FU.out.mono ?_
  rintro e w6 (⟨hf, rfl, hb6⟩ | ⟨hf, hm2, A', c', rfl, ho6⟩)
  · have HB6 := Lib.hid (below_trans HB5.out HB5.out.size hb6)
    have F9 := Lib.hid (F9.out _ hb6)
    rw [hf] at F9
    clear hb6 hf FU
    go_wp2_with fail
    refine F9.out.mono ?_
    rintro e w7 ⟨rfl, hb7⟩
    have HB7 := Lib.hid (below_trans HB6.out HB6.out.size hb7)
    have NE := Lib.hid (number_errno 4 w7 (HET.out.keep (Nat.le_refl _) HB7.out))
    clear hb7 F9
    go_wp2_with fail
    refine NE.out.mono ?_
    rintro e w8 ⟨rfl, hb8⟩
    have HB8 := Lib.hid (below_trans HB7.out HB7.out.size hb8)
    clear hb8 NE
    go_wp2_with fail
    go_ret
    exact ⟨rfl, HB8.out⟩
  · have HB6 := Lib.hid (below_trans HB5.out HB5.out.size ho6.bel)
    have F9 := Lib.hid (F9.out _ ho6.bel)
    rw [hf] at F9
    have HO6 := Lib.hid ho6
    have hR6 := HREC.out.below ho6.bel
    have HR6 := Lib.hid hR6
    clear ho6 hf FU hR6
    go_wp2_with fail
    refine F9.out.mono ?_
    rintro e w7 ⟨rfl, hb7⟩
    have HB7 := Lib.hid (below_trans HB6.out HB6.out.size hb7)
    have HR7 := Lib.hid (HR6.out.below hb7)
    obtain ⟨L, hL, hl1, hp, hmx, e1, e2, e3, e4, e5⟩ := sf_facts m CS rs HM.out HRL5.out hm2 HCS.out
    obtain ⟨r, hr⟩ : ∃ r, rs[0]? = some r := ⟨_, List.getElem?_eq_getElem hp⟩
    obtain ⟨bb, off, rfl, hbw, -⟩ := HR7.out.range hr
    have hr7 : Recs w7 (some ⟨bb, off, none⟩) (rs.take (m - 1)) := by
      have h := HR7.out.part 0 (m - 1)
      rw [Nat.zero_mul, Nat.add_zero, List.drop_zero] at h
      exact h
    have SM : Hid (Calls Tryd.prog 14 #[.slice A' (m - 1) c', .slice (some ⟨bb, off, none⟩) (m - 1) CS] w7 fun e w' => e = .returned (.bool true) ∧ Below w7.heap.size w7 w') := Lib.hid (by
      have h1 := same_recs A' (some ⟨bb, off, none⟩) c' CS (rs.take (m - 1)) (rs.take (m - 1)) w7 ((HO6.out.recs hl1).below hb7) hr7 (by rw [hl1]; exact hmx) (by rw [hl1]; exact hmx)
      rw [hl1, decide_eq_true rfl] at h1
      exact h1)
    rw [← hL] at SM ⊢
    clear hb7 F9 hl1 hr hbw hr7 HO6 hL hp hmx hm2
    go_wp2_with fail
    refine SM.out.mono ?_
    rintro e w8 ⟨rfl, hb8⟩
    have HB8 := Lib.hid (below_trans HB7.out HB7.out.size hb8)
    clear hb8 SM
    go_wp2_with fail
    go_ret
    exact ⟨rfl, HB8.out⟩
end Go.Proofs.YtkpjehplchdmgaaDoor
