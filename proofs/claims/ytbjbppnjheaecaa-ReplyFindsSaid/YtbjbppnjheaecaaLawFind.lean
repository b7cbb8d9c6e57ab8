/- The walk of ReplyFinds. -/
import Derived.Test.YtbjbppnjheaecaaFindA
import Derived.Test.YtbjbppnjheaecaaRepD
import Derived.Test.YtbjbppnjheaecaaRecD
import Derived.BigQuiet
import Derived.Outline
namespace Go.Proofs.Ytbjbppnjheaecaa
open Go.RowKit
set_option linter.unusedVariables false
set_option linter.unusedSimpArgs false
set_option maxRecDepth 20000
set_option maxHeartbeats 12800000 in
theorem replyFinds_walk (w : World) (A : Option Addr) (n c : Nat) (rs : List RecT) (S : RecsV w A n c rs) (B : c ≤ 3518437208780) (DA : Option Addr) (dn dc : Nat) (ds : List ActT) (hD : Acts5 w DA dn dc ds) :
    Calls Try.prog 4 #[.slice A n c, .slice DA dn dc] w fun e w' => e = .returned (.bool true) ∧ Below w.heap.size w w' := by
  have AW := Lib.hid (fun w => awake21 w)
  have RS := Lib.hid (fun (w' : World) (hx : Below w.heap.size w w') => records_any DA dn dc 20 ds w' (hD.at_.below hx) hD.most (by omega))
  obtain ⟨i7, hi7, hi7a, hi7b, hi7c⟩ := info_parts4 (show (Try.prog.info? 9).map (fun i => (i.zero, i.size, i.bytes)) = some (some (Value.string ⟨#[]⟩), 1, 16) by kernel_rfl)
  obtain ⟨i8, hi8, hi8a, hi8b, hi8c⟩ := info_parts4 (show (Try.prog.info? 25).map (fun i => (i.zero, i.size, i.bytes)) = some (some (Value.string ⟨#[]⟩), 1, 16) by kernel_rfl)
  have HS := Lib.hid S
  have hnc := S.le
  have HN := Lib.hid (show n ≤ 3518437208780 by omega)
  clear S B hD hnc
  go_enter Try.func4, Try.ntmps4
  go_wp2_with fail
  refine (AW.out _).mono ?_
  rintro e w1 ⟨rfl, hb1⟩
  go_wp2_with fail
  refine (RS.out _ hb1).mono ?_
  rintro e w2 ⟨v, rfl, ho⟩
  have hb2 := below_trans hb1 hb1.size ho.bel
  obtain ⟨RA, rc, rfl, -, -, -⟩ := ho.slice
  have hR2 := ho.recs rfl
  have hfew : (recsOf ds 20).length ≤ 20 := by rw [recsOf_len]; omega
  have hsm : ∀ r ∈ recsOf ds 20, r.2.2.2.size ≤ maxLen := by
    intro r hr
    unfold recsOf at hr
    obtain ⟨a, -, rfl⟩ := List.mem_map.1 hr
    have := recOf_data a
    unfold maxLen; omega
  generalize hrq : recsOf ds 20 = rq at *
  clear hrq RS AW ho
  have hL := Cs.new w2 #[.slice A n c, .slice RA rq.length rc] 29 [.slice A n c, .slice RA rq.length rc]
  have hb3 := hb2.alloc hb2.size (.cells #[.slice A n c, .slice RA rq.length rc] 29)
  have hR3 := hR2.below ((Below.refl w2.heap.size w2).alloc (Nat.le_refl _) (.cells #[.slice A n c, .slice RA rq.length rc] 29))
  have hR1 := HS.out.recs.below hb3
  go_upto_region 4 with fail
  generalize hW : w2.alloc (.cells #[.slice A n c, .slice RA rq.length rc] 29) = W at *
  generalize hLB : w2.heap.size = L at *
  have HL := Lib.hid hL
  have HB := Lib.hid hb3
  have HQ := Lib.hid hR3
  have HA := Lib.hid hR1
  have HF := Lib.hid hfew
  have HM := Lib.hid hsm
  clear hW hLB hL hb3 hR3 hR1 hR2 hb1 hb2 hfew hsm
  go_loopw [22] (fun i wr => ∃ j : Nat, j ≤ 2 ∧ i = .int .i64 j ∧ Hid (Below W.heap.size W wr)) (fun i _ => 2 - (intOf i).toNat)
  case atStart => exact ⟨0, by omega, rfl, Lib.hid (Below.refl _ _)⟩
  case round =>
    obtain ⟨j, hj, rfl, HBo⟩ := hrel
    by_cases hj2 : j < 2
    · have hji : (j : Int) < 2 := by omega
      obtain ⟨AJ, nj, cj, rj, hcell, hRj, hlj, hnj, hdj⟩ : ∃ AJ nj cj rj, wr.cell? ⟨L, j, none⟩ = some (.slice AJ nj cj) ∧ Hid (Recs wr AJ rj) ∧ Hid (rj.length = nj) ∧ Hid (nj ≤ 3518437208780) ∧ Hid (∀ r ∈ rj, r.2.2.2.size ≤ maxLen) := by
        have hLr := HL.out.below HBo.out
        rcases (by omega : j = 0 ∨ j = 1) with rfl | rfl
        · exact ⟨A, n, c, rs, hLr.get 0 _, Lib.hid (HA.out.below HBo.out), Lib.hid HS.out.len, HN, Lib.hid fun r hr => (HS.out.ok r hr).2.2.2⟩
        · exact ⟨RA, rq.length, rc, rq, hLr.get 1 _, Lib.hid (HQ.out.below HBo.out), Lib.hid rfl, Lib.hid (by have := HF.out; omega), HM⟩
      rename World => wo
      have AD := Lib.hid (fun (w' : World) (hx : Below wo.heap.size wo w') => addresses_any AJ nj cj rj w' (hRj.out.below hx) hlj.out hnj.out hdj.out)
      have NS := Lib.hid (fun (w' : World) (hx : Below wo.heap.size wo w') => names_any AJ nj cj rj w' (hRj.out.below hx) hlj.out hnj.out hdj.out)
      go_wp2_with fail
      obtain ⟨B2, hB2⟩ : ∃ B2, B2 = wo.heap.size := ⟨_, rfl⟩
      have HB2 := Lib.hid hB2
      have hO7 := OB.start wo
      rw [← hB2] at hO7
      clear hB2
      go_loopw [7, 8, 28] (fun v7 v8 i wr => ∃ k : Nat, k ≤ nj ∧ i = .int .i64 k ∧ Hid (OB B2 wo v7 (adsOf (rj.take k)).length ((adsOf (rj.take k)).map Value.string) wr) ∧ Hid (OB B2 wo v8 (nssOf (rj.take k)).length ((nssOf (rj.take k)).map Value.string) wr) ∧ Hid (∀ g, v7.ownBlock = some g → v8.ownBlock ≠ some g)) (fun _ _ i _ => nj - (intOf i).toNat)
      case atStart => exact ⟨0, Nat.zero_le _, rfl, Lib.hid (by simpa [adsOf] using hO7), Lib.hid (by simpa [nssOf] using hO7), Lib.hid (fun g e => by cases e)⟩
      case round =>
        obtain ⟨k, hk, rfl, H7, H8, HD⟩ := hrel
        by_cases hlt : k < nj
        · have hlt' : (k : Int) < nj := by omega
          have hnj' := hnj.out
          obtain ⟨⟨x0, x1, x2, x3⟩, hr⟩ : ∃ r, rj[k]? = some r := ⟨_, List.getElem?_eq_getElem (by rw [hlj.out]; omega)⟩
          obtain ⟨bb, off, hAe, hbb, g0, g1, g2, g3⟩ := (hRj.out.below (HB2.out ▸ H7.out.bel)) k _ hr
          dsimp only at g0 g1 g2 g3
          subst hAe
          have hn7 := adsOf_next (rs := rj) hr
          have hn8 := nssOf_next (rs := rj) hr
          have hl7 : (adsOf (rj.take k)).length ≤ k := adsOf_le rj k
          have hl8 : (nssOf (rj.take k)).length ≤ k := nssOf_le rj k
          obtain ⟨X7, c7, rfl, -, -, -⟩ := H7.out.slice
          obtain ⟨X8, c8, rfl, -, -, -⟩ := H8.out.slice
          generalize hp7 : adsOf (rj.take k) = p7 at *
          generalize hp8 : nssOf (rj.take k) = p8 at *
          have H7N := Lib.hid hn7
          have H8N := Lib.hid hn8
          have H7L := Lib.hid hl7
          have H8L := Lib.hid hl8
          have HX := Lib.hid (hdj.out _ (List.mem_of_getElem? hr))
          clear hn7 hn8 hl7 hl8 hp7 hp8 hr
          have hc : ((x1 == 1) = true ∧ ((x3.size : Int) == 4) = true ∧ (x1 == 2) = false) ∨ ((x1 == 1) = true ∧ ((x3.size : Int) == 4) = false ∧ (x1 == 28) = false ∧ (x1 == 2) = false) ∨ ((x1 == 1) = false ∧ (x1 == 28) = true ∧ ((x3.size : Int) == 16) = true ∧ (x1 == 2) = false) ∨ ((x1 == 1) = false ∧ (x1 == 28) = true ∧ ((x3.size : Int) == 16) = false ∧ (x1 == 2) = false) ∨ ((x1 == 1) = false ∧ (x1 == 28) = false ∧ (x1 == 2) = false) ∨ ((x1 == 1) = false ∧ (x1 == 28) = false ∧ (x1 == 2) = true) := by
            have h1 : (x1 == 1) = true → (x1 == 28) = false ∧ (x1 == 2) = false := by
              intro h
              rw [beq_iff_eq] at h
              rw [h]; exact ⟨rfl, rfl⟩
            have h2 : (x1 == 28) = true → (x1 == 2) = false := by
              intro h
              rw [beq_iff_eq] at h
              rw [h]; rfl
            cases q1 : (x1 == 1) <;> cases q2 : ((x3.size : Int) == 4) <;> cases q3 : (x1 == 28) <;> cases q4 : ((x3.size : Int) == 16) <;> cases q5 : (x1 == 2) <;> simp_all
          rcases hc with ⟨c1, c2, m2⟩ | ⟨c1, c2, c3, m2⟩ | ⟨c1, c3, c4, m2⟩ | ⟨c1, c3, c4, m2⟩ | ⟨c1, c3, m2⟩ | ⟨c1, c3, m2⟩
          · have HT := Lib.hid (show adB (x0, x1, x2, x3) = true by unfold adB; simp only [c1, c2]; simp)
            have HU := Lib.hid (show ¬ nsB (x0, x1, x2, x3) = true by unfold nsB; simp only [m2]; simp)
            have hA2 : Hid (OB B2 wo (.slice X7 p7.length c7) p7.length (p7.map Value.string) ((wr.alloc (.cells #[.string x0, .int .u16 x1, .int .u32 x2, .string x3] 44)).alloc (.cells #[.string x3] 9))) := Lib.hid ((H7.out.alloc _).alloc _)
            have hS : Hid (Src Try.prog 1 40 (.slice (some ⟨(wr.alloc (.cells #[.string x0, .int .u16 x1, .int .u32 x2, .string x3] 44)).heap.size, 0, none⟩) 1 1) 1 [.string x3] ((wr.alloc (.cells #[.string x0, .int .u16 x1, .int .u32 x2, .string x3] 44)).alloc (.cells #[.string x3] 9))) := by
              refine Lib.hid (Src.ofSlice _ Try.underlying40 _ 1 1 _ rfl ?_ (by simp [Value.oneCell']))
              exact news_at _ #[.string x3] _
            rw [show (wr.alloc (.cells #[.string x0, .int .u16 x1, .int .u32 x2, .string x3] 44)).heap.size = wr.heap.size + 1 by simp] at hS
            go_wp2_with (at_builtin; go_loud (refine wpList_append_ob rfl _ _ 40 40 rfl 9 i7 _ 16 Try.underlying40 hi7 hi7a hi7b hi7c rfl hA2.out rfl rfl hS.out (by have := H7L.out; unfold maxLen; omega) (by have := H7L.out; omega) ?_))
            intro v' w' p1 p2 p3 p4
            have hr1 := H7.out.lt
            have hr2 := H8.out.lt
            have hRb := (((Cs.new wr #[.string x0, .int .u16 x1, .int .u32 x2, .string x3] 44 [.string x0, .int .u16 x1, .int .u32 x2, .string x3]).alloc (.cells #[.string x3] 9)).block (p3 _ (by omega) (fun e => by have := (hr1 _ e.symm).2; omega)) (by simpa using p2))
            have hO8 := ((H8.out.alloc (.cells #[.string x0, .int .u16 x1, .int .u32 x2, .string x3] 44)).alloc (.cells #[.string x3] 9)).block p1.bel (by simpa using p2) (fun g hg => p3 g (by have := (hr2 g hg).2; omega) (fun e => HD.out g e.symm hg))
            have hDD : ∀ g, v'.ownBlock = some g → (Value.slice X8 p8.length c8).ownBlock ≠ some g := by
              intro g hg hg8
              rcases p4 with h | h
              · exact HD.out g (h ▸ hg) hg8
              · rw [h] at hg
                injection hg with hg
                have := (hr2 g hg8).2
                omega
            obtain ⟨X7', c7', rfl, -, -, -⟩ := p1.slice
            have y1 := hRb.get 1 _
            have P1 := Lib.hid p1
            have P8 := Lib.hid hO8
            have PD := Lib.hid hDD
            clear p1 p2 p3 p4 hA2 hS hRb hO8 hDD hr1 hr2
            go_wp2_with fail
            go_round
            case rel => exact ⟨k + 1, by omega, by go_num, Lib.hid (by rw [H7N.out, if_pos HT.out, List.map_append, List.length_append]; exact P1.out), Lib.hid (by rw [H8N.out, if_neg HU.out]; exact P8.out), PD⟩
            case measure => simp [intOf]; omega
          · have HT := Lib.hid (show ¬ adB (x0, x1, x2, x3) = true by unfold adB; simp only [c1, c2, c3]; simp)
            have HU := Lib.hid (show ¬ nsB (x0, x1, x2, x3) = true by unfold nsB; simp only [m2]; simp)
            go_wp2_with fail
            go_round
            case rel => exact ⟨k + 1, by omega, by go_num, Lib.hid (by rw [H7N.out, if_neg HT.out]; exact H7.out.alloc _), Lib.hid (by rw [H8N.out, if_neg HU.out]; exact H8.out.alloc _), HD⟩
            case measure => simp [intOf]; omega
          · have HT := Lib.hid (show adB (x0, x1, x2, x3) = true by unfold adB; simp only [c1, c3, c4]; simp)
            have HU := Lib.hid (show ¬ nsB (x0, x1, x2, x3) = true by unfold nsB; simp only [m2]; simp)
            have hA2 : Hid (OB B2 wo (.slice X7 p7.length c7) p7.length (p7.map Value.string) ((wr.alloc (.cells #[.string x0, .int .u16 x1, .int .u32 x2, .string x3] 44)).alloc (.cells #[.string x3] 9))) := Lib.hid ((H7.out.alloc _).alloc _)
            have hS : Hid (Src Try.prog 1 40 (.slice (some ⟨(wr.alloc (.cells #[.string x0, .int .u16 x1, .int .u32 x2, .string x3] 44)).heap.size, 0, none⟩) 1 1) 1 [.string x3] ((wr.alloc (.cells #[.string x0, .int .u16 x1, .int .u32 x2, .string x3] 44)).alloc (.cells #[.string x3] 9))) := by
              refine Lib.hid (Src.ofSlice _ Try.underlying40 _ 1 1 _ rfl ?_ (by simp [Value.oneCell']))
              exact news_at _ #[.string x3] _
            rw [show (wr.alloc (.cells #[.string x0, .int .u16 x1, .int .u32 x2, .string x3] 44)).heap.size = wr.heap.size + 1 by simp] at hS
            go_wp2_with (at_builtin; go_loud (refine wpList_append_ob rfl _ _ 40 40 rfl 9 i7 _ 16 Try.underlying40 hi7 hi7a hi7b hi7c rfl hA2.out rfl rfl hS.out (by have := H7L.out; unfold maxLen; omega) (by have := H7L.out; omega) ?_))
            intro v' w' p1 p2 p3 p4
            have hr1 := H7.out.lt
            have hr2 := H8.out.lt
            have hRb := (((Cs.new wr #[.string x0, .int .u16 x1, .int .u32 x2, .string x3] 44 [.string x0, .int .u16 x1, .int .u32 x2, .string x3]).alloc (.cells #[.string x3] 9)).block (p3 _ (by omega) (fun e => by have := (hr1 _ e.symm).2; omega)) (by simpa using p2))
            have hO8 := ((H8.out.alloc (.cells #[.string x0, .int .u16 x1, .int .u32 x2, .string x3] 44)).alloc (.cells #[.string x3] 9)).block p1.bel (by simpa using p2) (fun g hg => p3 g (by have := (hr2 g hg).2; omega) (fun e => HD.out g e.symm hg))
            have hDD : ∀ g, v'.ownBlock = some g → (Value.slice X8 p8.length c8).ownBlock ≠ some g := by
              intro g hg hg8
              rcases p4 with h | h
              · exact HD.out g (h ▸ hg) hg8
              · rw [h] at hg
                injection hg with hg
                have := (hr2 g hg8).2
                omega
            obtain ⟨X7', c7', rfl, -, -, -⟩ := p1.slice
            have y1 := hRb.get 1 _
            have P1 := Lib.hid p1
            have P8 := Lib.hid hO8
            have PD := Lib.hid hDD
            clear p1 p2 p3 p4 hA2 hS hRb hO8 hDD hr1 hr2
            go_wp2_with fail
            go_round
            case rel => exact ⟨k + 1, by omega, by go_num, Lib.hid (by rw [H7N.out, if_pos HT.out, List.map_append, List.length_append]; exact P1.out), Lib.hid (by rw [H8N.out, if_neg HU.out]; exact P8.out), PD⟩
            case measure => simp [intOf]; omega
          · have HT := Lib.hid (show ¬ adB (x0, x1, x2, x3) = true by unfold adB; simp only [c1, c3, c4]; simp)
            have HU := Lib.hid (show ¬ nsB (x0, x1, x2, x3) = true by unfold nsB; simp only [m2]; simp)
            go_wp2_with fail
            go_round
            case rel => exact ⟨k + 1, by omega, by go_num, Lib.hid (by rw [H7N.out, if_neg HT.out]; exact H7.out.alloc _), Lib.hid (by rw [H8N.out, if_neg HU.out]; exact H8.out.alloc _), HD⟩
            case measure => simp [intOf]; omega
          · have HT := Lib.hid (show ¬ adB (x0, x1, x2, x3) = true by unfold adB; simp only [c1, c3]; simp)
            have HU := Lib.hid (show ¬ nsB (x0, x1, x2, x3) = true by unfold nsB; simp only [m2]; simp)
            go_wp2_with fail
            go_round
            case rel => exact ⟨k + 1, by omega, by go_num, Lib.hid (by rw [H7N.out, if_neg HT.out]; exact H7.out.alloc _), Lib.hid (by rw [H8N.out, if_neg HU.out]; exact H8.out.alloc _), HD⟩
            case measure => simp [intOf]; omega
          · have HT := Lib.hid (show ¬ adB (x0, x1, x2, x3) = true by unfold adB; simp only [c1, c3]; simp)
            have MA := may_any x3 (wr.alloc (.cells #[.string x0, .int .u16 x1, .int .u32 x2, .string x3] 44)) HX.out
            cases c5 : (labelsOf x3).isSome with
            | false =>
              have HU := Lib.hid (show ¬ nsB (x0, x1, x2, x3) = true by unfold nsB; simp only [m2, c5]; simp)
              rw [c5] at MA
              have MA := Lib.hid MA
              clear c5
              have y3 := (Cs.new wr #[.string x0, .int .u16 x1, .int .u32 x2, .string x3] 44 [.string x0, .int .u16 x1, .int .u32 x2, .string x3])
              go_wp2_with fail
              refine MA.out.mono ?_
              rintro e w5 ⟨rfl, hb5'⟩
              have y33 := (y3.below hb5').get 3 _
              have H7 := Lib.hid ((H7.out.alloc (.cells #[.string x0, .int .u16 x1, .int .u32 x2, .string x3] 44)).keep hb5' (Nat.le_refl _))
              have H8 := Lib.hid ((H8.out.alloc (.cells #[.string x0, .int .u16 x1, .int .u32 x2, .string x3] 44)).keep hb5' (Nat.le_refl _))
              clear hb5' MA y3
              go_wp2_with fail
              go_round
              case rel => exact ⟨k + 1, by omega, by go_num, Lib.hid (by rw [H7N.out, if_neg HT.out]; exact H7.out), Lib.hid (by rw [H8N.out, if_neg HU.out]; exact H8.out), HD⟩
              case measure => simp [intOf]; omega
            | true =>
              have HU := Lib.hid (show nsB (x0, x1, x2, x3) = true by unfold nsB; simp only [m2, c5]; simp)
              rw [c5] at MA
              have MA := Lib.hid MA
              clear c5
              have y3 := (Cs.new wr #[.string x0, .int .u16 x1, .int .u32 x2, .string x3] 44 [.string x0, .int .u16 x1, .int .u32 x2, .string x3])
              go_wp2_with fail
              refine MA.out.mono ?_
              rintro e w5 ⟨rfl, hb5'⟩
              have y33 := (y3.below hb5').get 3 _
              have H7 := Lib.hid ((H7.out.alloc (.cells #[.string x0, .int .u16 x1, .int .u32 x2, .string x3] 44)).keep hb5' (Nat.le_refl _))
              have H8 := Lib.hid ((H8.out.alloc (.cells #[.string x0, .int .u16 x1, .int .u32 x2, .string x3] 44)).keep hb5' (Nat.le_refl _))
              clear hb5' MA y3
              have hA2 : Hid (OB B2 wo (.slice X8 p8.length c8) p8.length (p8.map Value.string) ((w5).alloc (.cells #[.string x3] 25))) := Lib.hid (H8.out.alloc _)
              have hS : Hid (Src Try.prog 1 41 (.slice (some ⟨(w5).heap.size, 0, none⟩) 1 1) 1 [.string x3] ((w5).alloc (.cells #[.string x3] 25))) := by
                refine Lib.hid (Src.ofSlice _ Try.underlying41 _ 1 1 _ rfl ?_ (by simp [Value.oneCell']))
                exact news_at _ #[.string x3] _
              skip
              go_wp2_with (at_builtin; go_loud (refine wpList_append_ob rfl _ _ 41 41 rfl 25 i8 _ 16 Try.underlying41 hi8 hi8a hi8b hi8c rfl hA2.out rfl rfl hS.out (by have := H8L.out; unfold maxLen; omega) (by have := H8L.out; omega) ?_))
              intro v' w' p1 p2 p3 p4
              have hr1 := H7.out.lt
              have hr2 := H8.out.lt
              have hO7 := (H7.out.alloc (.cells #[.string x3] 25)).block p1.bel (by simpa using p2) (fun g hg => p3 g (by have := (hr1 g hg).2; omega) (fun e => HD.out g hg e.symm))
              have hDD : ∀ g, (Value.slice X7 p7.length c7).ownBlock = some g → v'.ownBlock ≠ some g := by
                intro g hg hg8
                rcases p4 with h | h
                · exact HD.out g hg (h ▸ hg8)
                · rw [h] at hg8
                  injection hg8 with hg8
                  have := (hr1 g hg).2
                  omega
              obtain ⟨X8', c8', rfl, -, -, -⟩ := p1.slice
              have P1 := Lib.hid p1
              have P7 := Lib.hid hO7
              have PD := Lib.hid hDD
              clear p1 p2 p3 p4 hA2 hS hO7 hDD hr1 hr2
              go_wp2_with fail
              go_round
              case rel => exact ⟨k + 1, by omega, by go_num, Lib.hid (by rw [H7N.out, if_neg HT.out]; exact P7.out), Lib.hid (by rw [H8N.out, if_pos HU.out, List.map_append, List.length_append]; exact P1.out), PD⟩
              case measure => simp [intOf]; omega
        · have hlt' : ¬ (k : Int) < nj := by omega
          have hnj' := hnj.out
          have hk2 : rj.take k = rj := List.take_of_length_le (by rw [hlj.out]; omega)
          have hl7 : (adsOf rj).length ≤ nj := by have := adsOf_le rj k; rw [hk2] at this; omega
          have hl8 : (nssOf rj).length ≤ nj := by have := nssOf_le rj k; rw [hk2] at this; omega
          rw [hk2] at H7 H8
          have hbw := HB2.out ▸ H7.out.bel
          have AD1 := Lib.hid (AD.out wr hbw)
          obtain ⟨X7, c7, rfl, -, -, -⟩ := H7.out.slice
          obtain ⟨X8, c8, rfl, -, -, -⟩ := H8.out.slice
          generalize adsOf rj = p7 at *
          generalize nssOf rj = p8 at *
          have HBW := Lib.hid hbw
          clear hk2 hbw hk AD
          go_wp2_with fail
          refine AD1.out.mono ?_
          rintro e w5 ⟨v11, rfl, ho11⟩
          have hb5 := below_trans HBW.out HBW.out.size ho11.bel
          have NS1 := Lib.hid (NS.out w5 hb5)
          have H7a := Lib.hid (H7.out.keep ho11.bel (Nat.le_refl _))
          have H8a := Lib.hid (H8.out.keep ho11.bel (Nat.le_refl _))
          have HB5 := Lib.hid hb5
          have HO11 := Lib.hid ho11
          clear ho11 hb5 NS AD1 H7 H8 HBW
          go_wp2_with fail
          refine NS1.out.mono ?_
          rintro e w6 ⟨v12, rfl, ho12⟩
          have hb6 := below_trans HB5.out HB5.out.size ho12.bel
          have h11 := HO11.out.keep ho12.bel (Nat.le_refl _)
          have h7 := H7a.out.keep ho12.bel (Nat.le_refl _)
          have h8 := H8a.out.keep ho12.bel (Nat.le_refl _)
          obtain ⟨X1, d1, rfl, -, -, -⟩ := h11.slice
          obtain ⟨X2, d2, rfl, -, -, -⟩ := ho12.slice
          have s11 := h11.sl
          have s12 := ho12.sl
          have s7 := h7.sl
          have s8 := h8.sl
          have HBo6 := Lib.hid (below_trans HBo.out HBo.out.size hb6)
          clear h11 ho12 h7 h8 hb6 HB5 HO11 H7a H8a NS1 HD
          go_wp2_with fail
          go_loopw [89] (fun i wx => ∃ k : Nat, k ≤ p7.length ∧ i = .int .i64 k ∧ ∃ q, wx = w6.drewN q) (fun i _ => p7.length - (intOf i).toNat)
          case atStart => exact ⟨0, Nat.zero_le _, rfl, 0, rfl⟩
          case round =>
            obtain ⟨k3, hk3, rfl, q3, rfl⟩ := hrel
            by_cases hlt3 : k3 < p7.length
            · obtain ⟨b1, o1, y1, rfl, -, hy1, hc1⟩ := (s11.drewN q3).at_ hlt3
              obtain ⟨b2, o2, y2, rfl, -, hy2, hc2⟩ := (s7.drewN q3).at_ hlt3
              rw [List.getElem?_map, List.getElem?_eq_getElem hlt3, Option.map_some, Option.some.injEq] at hy1 hy2
              subst hy1
              subst hy2
              generalize p7[k3] = X at *
              have hc1q : ∀ q, (w6.drewN q).cell? ⟨b1, o1 + k3, none⟩ = some (.string X) := fun _ => hc1
              have hc2q : ∀ q, (w6.drewN q).cell? ⟨b2, o2 + k3, none⟩ = some (.string X) := fun _ => hc2
              have hki : (k3 : Int) < (p7.length : Int) := by omega
              have hi2 : IntKind.i64.wrap ((k3 : Int) + 1) = (k3 : Int) + 1 := IntWalk.i64_in _ (by omega)
              go_wp2_with fail
              go_quiet (fail)
              go_wp2_with fail
              go_roundw
              case rel => exact ⟨k3 + 1, by omega, by go_num, _, rfl⟩
              case measure => simp [intOf]; omega
            · obtain rfl : k3 = p7.length := by omega
              go_wp2_with fail
              go_loopw [104] (fun i wx => ∃ k : Nat, k ≤ p8.length ∧ i = .int .i64 k ∧ ∃ q, wx = w6.drewN q) (fun i _ => p8.length - (intOf i).toNat)
              case atStart => exact ⟨0, Nat.zero_le _, rfl, q3, rfl⟩
              case round =>
                obtain ⟨k4, hk4, rfl, q4, rfl⟩ := hrel
                by_cases hlt4 : k4 < p8.length
                · obtain ⟨b1, o1, y1, rfl, -, hy1, hc1⟩ := (s12.drewN q4).at_ hlt4
                  obtain ⟨b2, o2, y2, rfl, -, hy2, hc2⟩ := (s8.drewN q4).at_ hlt4
                  rw [List.getElem?_map, List.getElem?_eq_getElem hlt4, Option.map_some, Option.some.injEq] at hy1 hy2
                  subst hy1
                  subst hy2
                  generalize p8[k4] = X at *
                  have hc1q : ∀ q, (w6.drewN q).cell? ⟨b1, o1 + k4, none⟩ = some (.string X) := fun _ => hc1
                  have hc2q : ∀ q, (w6.drewN q).cell? ⟨b2, o2 + k4, none⟩ = some (.string X) := fun _ => hc2
                  have hki : (k4 : Int) < (p8.length : Int) := by omega
                  have hi2 : IntKind.i64.wrap ((k4 : Int) + 1) = (k4 : Int) + 1 := IntWalk.i64_in _ (by omega)
                  go_wp2_with fail
                  go_quiet (fail)
                  go_wp2_with fail
                  go_roundw
                  case rel => exact ⟨k4 + 1, by omega, by go_num, _, rfl⟩
                  case measure => simp [intOf]; omega
                · obtain rfl : k4 = p8.length := by omega
                  go_wp2_with fail
                  go_round
                  case rel => exact ⟨j + 1, by omega, by go_num, Lib.hid (show Below W.heap.size W (w6.drewN q4) from ⟨HBo6.out.os, HBo6.out.tape, HBo6.out.output, HBo6.out.size, HBo6.out.block⟩)⟩
                  case measure => simp [intOf]; omega
    · have hji : ¬ (j : Int) < 2 := by omega
      go_wp2_with fail
      go_ret
      exact ⟨rfl, below_trans HB.out HB.out.size HBo.out⟩
end Go.Proofs.Ytbjbppnjheaecaa
