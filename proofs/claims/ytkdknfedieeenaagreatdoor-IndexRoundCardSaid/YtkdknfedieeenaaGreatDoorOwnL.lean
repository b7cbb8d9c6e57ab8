/- The contract of layer 13: labels. -/
import Derived.Test.YtkdknfedieeenaaGreatDoorOwnJ
namespace Go.Proofs.YtkdknfedieeenaaGreatDoor
open Go.RowKit
set_option linter.unusedVariables false
set_option maxRecDepth 20000

theorem labels_len (s : ByteArray) : (labelsL s).length ≤ 254 := by
  unfold labelsL
  cases h : labelsOf s with
  | none => simp
  | some X => exact (labels_le h).1
theorem labT_len (t : Trig) : (labT t).length ≤ 256 := by
  have h1 := prefixR_len t.addr t.bits
  have h2 : ((nameLabels t.name).getD []).length ≤ 254 := labels_len (baL t.name)
  unfold labT
  repeat' split
  all_goals simp
  all_goals omega
theorem src_one {P : Program} {e' tx : TypeId} (w : World) (hk : P.underlying tx = some (.slice e')) (S : ByteArray) (e : TypeId) : Src P 1 tx (.slice (some ⟨w.heap.size, 0, none⟩) 1 1) 1 [.string S] (w.alloc (.cells #[.string S] e)) :=
  Src.ofSlice _ hk ⟨w.heap.size, 0, none⟩ 1 1 [.string S] rfl (news_at w _ _) (by intro u hu; simp at hu; subst hu; rfl)

set_option maxHeartbeats 16000000 in
theorem labT_any (tk : Int) (TN TA : ByteArray) (tb : Int) (w : World) (hN : TN.size ≤ 140737488355328) (hA : TA.size ≤ 140737488355328) (hL : LaidT w) :
    Calls Tryz.prog 71 #[.agg #[.int .i64 tk, .string TN, .string TA, .int .i64 tb]] w fun e w' => ∃ v, e = .returned v ∧ OB w.heap.size w v (labT ⟨tk, TN.data.toList, TA.data.toList, tb⟩).length ((labT ⟨tk, TN.data.toList, TA.data.toList, tb⟩).map sv) w' := by
  obtain ⟨i0, hi, hz0, hz1, hz2⟩ := info_parts str_info
  have hlab := fun w => labels_any TN w (by unfold maxLen; omega)
  have hpx := fun w h => prefix_any TA tb w hA h
  obtain ⟨X, hX⟩ : ∃ X, X = labelsL TN := ⟨_, rfl⟩
  rw [← hX] at hlab
  have hXl : X.length ≤ 254 := by rw [hX]; exact labels_len TN
  have hXn : (nameLabels TN.data.toList).getD [] = X := hX.symm
  obtain ⟨PX, hPX⟩ : ∃ PX, PX = prefixR TA.data.toList tb := ⟨_, rfl⟩
  rw [← hPX] at hpx
  have hPl : PX.length ≤ 9 := by rw [hPX]; exact prefixR_len _ _
  obtain ⟨LT, hLT⟩ : ∃ LT, LT = labT ⟨tk, TN.data.toList, TA.data.toList, tb⟩ := ⟨_, rfl⟩
  rw [← hLT]
  have hcases : LT = if tk = 0 then PX ++ [cClient] else if tk = 3 then PX ++ [cAnswer] else if tk = 6 then PX ++ [cNsip] else if tk = 1 then X else if tk = 2 then star :: X else if tk = 4 then X ++ [cNsname] else if tk = 5 then star :: (X ++ [cNsname]) else [] := by
    rw [hLT, hPX]; unfold labT; simp only [hXn]
  have HLAB := Lib.hid hlab
  have HPX := Lib.hid hpx
  have hcs := Cs.new w #[.int .i64 tk, .string TN, .string TA, .int .i64 tb] 46 [.int .i64 tk, .string TN, .string TA, .int .i64 tb]
  have hbel0 : Below w.heap.size w (w.alloc (.cells #[.int .i64 tk, .string TN, .string TA, .int .i64 tb] 46)) := (Below.refl _ _).alloc (Nat.le_refl _) _
  have HCS := Lib.hid hcs
  have HB0 := Lib.hid hbel0
  have HL0 := Lib.hid (hL.alloc (.cells #[.int .i64 tk, .string TN, .string TA, .int .i64 tb] 46))
  have HCA := Lib.hid hcases
  clear hlab hpx hcs hbel0 hL hcases hLT hPX hX hXn hA hN
  by_cases h0 : tk = 0
  · subst h0
    go_enter Tryz.func71, Tryz.ntmps71
    go_wp2_with (go_at_call 78; refine (HLAB.out _).mono ?_; rintro e w1 ⟨v1, rfl, hbuf⟩; refine Hid.out ?_)
    refine Lib.hid ?_
    have hC1 := HCS.out.below hbuf.below
    have k0 := hC1.get 0 (.int .i64 0)
    have k1 := hC1.get 1 (.string TN)
    have k2 := hC1.get 2 (.string TA)
    have k3 := hC1.get 3 (.int .i64 tb)
    have HL1 := Lib.hid (HL0.out.below hbuf.below (Nat.le_refl _))
    have HB1 := Lib.hid (HB0.out.trans (hbuf.below.mono HB0.out.size))
    have hob := (OB.of_buf hbuf).out HB0.out.size HB0.out
    obtain ⟨A1, c1, rfl, hb1, hb2, hb3⟩ := hbuf.slice
    have HOB := Lib.hid hob
    have HSL := Lib.hid hbuf.sl
    have HN1 := Lib.hid hb3
    clear hC1 hbuf hob hb3 HCS HB0 HL0
    go_wp2_with (go_at_call 101; refine (HPX.out _ HL1.out).mono ?_; rintro e w2 ⟨v2, rfl, hob2⟩; refine Hid.out ?_)
    refine Lib.hid ?_
    have hob3 := hob2.out HB1.out.size HB1.out
    go_wp2_with (at_builtin; go_loud (refine wpList_append_ob rfl _ _ 63 63 rfl 9 i0 _ 16 Tryz.underlying63 hi hz0 hz1 hz2 rfl (hob3.alloc _) rfl rfl (src_one w2 Tryz.underlying63 _ _) ?c1 ?c2 ?_))
    case c1 => unfold maxLen; omega
    case c2 => omega
    intro v' w3 hb4 _ _ _
    go_wp2
    go_ret
    refine ⟨_, rfl, ?_⟩
    have hl : LT = PX ++ [cClient] := HCA.out.trans (by simp)
    rw [hl, List.length_append, List.map_append]
    exact hb4
  · have e0 : ((tk : Int) == 0) = false := by rw [beq_eq_false_iff_ne]; exact h0
    by_cases h3 : tk = 3
    · subst h3
      go_enter Tryz.func71, Tryz.ntmps71
      go_wp2_with (go_at_call 78; refine (HLAB.out _).mono ?_; rintro e w1 ⟨v1, rfl, hbuf⟩; refine Hid.out ?_)
      refine Lib.hid ?_
      have hC1 := HCS.out.below hbuf.below
      have k0 := hC1.get 0 (.int .i64 3)
      have k1 := hC1.get 1 (.string TN)
      have k2 := hC1.get 2 (.string TA)
      have k3 := hC1.get 3 (.int .i64 tb)
      have HL1 := Lib.hid (HL0.out.below hbuf.below (Nat.le_refl _))
      have HB1 := Lib.hid (HB0.out.trans (hbuf.below.mono HB0.out.size))
      have hob := (OB.of_buf hbuf).out HB0.out.size HB0.out
      obtain ⟨A1, c1, rfl, hb1, hb2, hb3⟩ := hbuf.slice
      have HOB := Lib.hid hob
      have HSL := Lib.hid hbuf.sl
      have HN1 := Lib.hid hb3
      clear hC1 hbuf hob hb3 HCS HB0 HL0
      go_wp2_with (go_at_call 101; refine (HPX.out _ HL1.out).mono ?_; rintro e w2 ⟨v2, rfl, hob2⟩; refine Hid.out ?_)
      refine Lib.hid ?_
      have hob3 := hob2.out HB1.out.size HB1.out
      go_wp2_with (at_builtin; go_loud (refine wpList_append_ob rfl _ _ 63 63 rfl 9 i0 _ 16 Tryz.underlying63 hi hz0 hz1 hz2 rfl (hob3.alloc _) rfl rfl (src_one w2 Tryz.underlying63 _ _) ?c1 ?c2 ?_))
      case c1 => unfold maxLen; omega
      case c2 => omega
      intro v' w3 hb4 _ _ _
      go_wp2
      go_ret
      refine ⟨_, rfl, ?_⟩
      have hl : LT = PX ++ [cAnswer] := HCA.out.trans (by simp)
      rw [hl, List.length_append, List.map_append]
      exact hb4
    · have e3 : ((tk : Int) == 3) = false := by rw [beq_eq_false_iff_ne]; exact h3
      by_cases h6 : tk = 6
      · subst h6
        go_enter Tryz.func71, Tryz.ntmps71
        go_wp2_with (go_at_call 78; refine (HLAB.out _).mono ?_; rintro e w1 ⟨v1, rfl, hbuf⟩; refine Hid.out ?_)
        refine Lib.hid ?_
        have hC1 := HCS.out.below hbuf.below
        have k0 := hC1.get 0 (.int .i64 6)
        have k1 := hC1.get 1 (.string TN)
        have k2 := hC1.get 2 (.string TA)
        have k3 := hC1.get 3 (.int .i64 tb)
        have HL1 := Lib.hid (HL0.out.below hbuf.below (Nat.le_refl _))
        have HB1 := Lib.hid (HB0.out.trans (hbuf.below.mono HB0.out.size))
        have hob := (OB.of_buf hbuf).out HB0.out.size HB0.out
        obtain ⟨A1, c1, rfl, hb1, hb2, hb3⟩ := hbuf.slice
        have HOB := Lib.hid hob
        have HSL := Lib.hid hbuf.sl
        have HN1 := Lib.hid hb3
        clear hC1 hbuf hob hb3 HCS HB0 HL0
        go_wp2_with (go_at_call 101; refine (HPX.out _ HL1.out).mono ?_; rintro e w2 ⟨v2, rfl, hob2⟩; refine Hid.out ?_)
        refine Lib.hid ?_
        have hob3 := hob2.out HB1.out.size HB1.out
        go_wp2_with (at_builtin; go_loud (refine wpList_append_ob rfl _ _ 63 63 rfl 9 i0 _ 16 Tryz.underlying63 hi hz0 hz1 hz2 rfl (hob3.alloc _) rfl rfl (src_one w2 Tryz.underlying63 _ _) ?c1 ?c2 ?_))
        case c1 => unfold maxLen; omega
        case c2 => omega
        intro v' w3 hb4 _ _ _
        go_wp2
        go_ret
        refine ⟨_, rfl, ?_⟩
        have hl : LT = PX ++ [cNsip] := HCA.out.trans (by simp)
        rw [hl, List.length_append, List.map_append]
        exact hb4
      · have e6 : ((tk : Int) == 6) = false := by rw [beq_eq_false_iff_ne]; exact h6
        by_cases h1 : tk = 1
        · subst h1
          go_enter Tryz.func71, Tryz.ntmps71
          go_wp2_with (go_at_call 78; refine (HLAB.out _).mono ?_; rintro e w1 ⟨v1, rfl, hbuf⟩; refine Hid.out ?_)
          refine Lib.hid ?_
          have hC1 := HCS.out.below hbuf.below
          have k0 := hC1.get 0 (.int .i64 1)
          have k1 := hC1.get 1 (.string TN)
          have k2 := hC1.get 2 (.string TA)
          have k3 := hC1.get 3 (.int .i64 tb)
          have HL1 := Lib.hid (HL0.out.below hbuf.below (Nat.le_refl _))
          have HB1 := Lib.hid (HB0.out.trans (hbuf.below.mono HB0.out.size))
          have hob := (OB.of_buf hbuf).out HB0.out.size HB0.out
          obtain ⟨A1, c1, rfl, hb1, hb2, hb3⟩ := hbuf.slice
          have HOB := Lib.hid hob
          have HSL := Lib.hid hbuf.sl
          have HN1 := Lib.hid hb3
          clear hC1 hbuf hob hb3 HCS HB0 HL0
          go_wp2_with fail
          go_ret
          refine ⟨_, rfl, ?_⟩
          have hl : LT = X := HCA.out.trans (by simp)
          rw [hl]
          exact HOB.out
        · have e1 : ((tk : Int) == 1) = false := by rw [beq_eq_false_iff_ne]; exact h1
          by_cases h2 : tk = 2
          · subst h2
            go_enter Tryz.func71, Tryz.ntmps71
            go_wp2_with (go_at_call 78; refine (HLAB.out _).mono ?_; rintro e w1 ⟨v1, rfl, hbuf⟩; refine Hid.out ?_)
            refine Lib.hid ?_
            have hC1 := HCS.out.below hbuf.below
            have k0 := hC1.get 0 (.int .i64 2)
            have k1 := hC1.get 1 (.string TN)
            have k2 := hC1.get 2 (.string TA)
            have k3 := hC1.get 3 (.int .i64 tb)
            have HL1 := Lib.hid (HL0.out.below hbuf.below (Nat.le_refl _))
            have HB1 := Lib.hid (HB0.out.trans (hbuf.below.mono HB0.out.size))
            have hob := (OB.of_buf hbuf).out HB0.out.size HB0.out
            obtain ⟨A1, c1, rfl, hb1, hb2, hb3⟩ := hbuf.slice
            have HOB := Lib.hid hob
            have HSL := Lib.hid hbuf.sl
            have HN1 := Lib.hid hb3
            clear hC1 hbuf hob hb3 HCS HB0 HL0
            obtain ⟨W2, hW2⟩ : ∃ W2, W2 = w1.alloc (.cells #[.string ⟨#[42]⟩] 9) := ⟨_, rfl⟩
            obtain ⟨W3, hW3⟩ : ∃ W3, W3 = W2.alloc (.cells #[.slice (some ⟨w1.heap.size, 0, none⟩) 1 1, .slice A1 X.length c1] 63) := ⟨_, rfl⟩
            have hb12 : Below w1.heap.size w1 W2 := by rw [hW2]; exact (Below.refl _ _).alloc (Nat.le_refl _) _
            have hb23 : Below W2.heap.size W2 W3 := by rw [hW3]; exact (Below.refl _ _).alloc (Nat.le_refl _) _
            have hs2 : W2.heap.size = w1.heap.size + 1 := by rw [hW2]; simp
            have hs3 : W3.heap.size = w1.heap.size + 2 := by rw [hW3]; simp [hs2]
            have hstar : Sl W2 W2.heap.size 1 (some ⟨w1.heap.size, 0, none⟩) 1 ([star].map sv) := by rw [hW2]; exact Sl.fresh w1 _ _ 1 _ rfl rfl
            have hrows : Sl W3 W3.heap.size 1 (some ⟨W2.heap.size, 0, none⟩) 2 (([(some ⟨w1.heap.size, 0, none⟩, 1, 1, [star]), (A1, X.length, c1, X)] : List RowS).map rowSV) := by rw [hW3]; exact Sl.fresh W2 _ _ 2 _ rfl rfl
            have hok : ∀ r ∈ ([(some ⟨w1.heap.size, 0, none⟩, 1, 1, [star]), (A1, X.length, c1, X)] : List RowS), RowSOk W3 r := by
              intro r hr
              simp only [List.mem_cons, List.not_mem_nil, or_false] at hr
              rcases hr with rfl | rfl
              · exact ⟨(hstar.below hb23).more hb23.size, (fun h => by cases h), rfl⟩
              · exact ⟨((HSL.out.below hb12).more hb12.size |>.below hb23).more hb23.size, fun h => (HN1.out h).1, rfl⟩
            have hcc := concatS_any (some ⟨W2.heap.size, 0, none⟩) 2 2 _ W3 hrows (by omega) hok (by simp [allS]; omega)
            rw [show allS ([(some ⟨w1.heap.size, 0, none⟩, 1, 1, [star]), (A1, X.length, c1, X)] : List RowS) = star :: X by simp [allS], hs2] at hcc
            have HCC := Lib.hid hcc
            have HB3 := Lib.hid (HB1.out.trans ((hb12.mono HB1.out.size).trans (hb23.mono (by have := HB1.out.size; omega))))
            have HW2 := Lib.hid hW2
            have HW3 := Lib.hid hW3
            clear hb12 hb23 hstar hrows hok hcc hW2 hW3
            go_upto_region 12 with fail
            go_wp2_with (go_at_call 102; rw [← HW2.out, ← HW3.out]; refine HCC.out.mono ?_; rintro e w4 ⟨v4, rfl, hob4⟩)
            go_ret
            refine ⟨_, rfl, ?_⟩
            have hl : LT = star :: X := HCA.out.trans (by simp)
            rw [hl]
            exact hob4.out HB3.out.size HB3.out
          · have e2 : ((tk : Int) == 2) = false := by rw [beq_eq_false_iff_ne]; exact h2
            by_cases h4 : tk = 4
            · subst h4
              go_enter Tryz.func71, Tryz.ntmps71
              go_wp2_with (go_at_call 78; refine (HLAB.out _).mono ?_; rintro e w1 ⟨v1, rfl, hbuf⟩; refine Hid.out ?_)
              refine Lib.hid ?_
              have hC1 := HCS.out.below hbuf.below
              have k0 := hC1.get 0 (.int .i64 4)
              have k1 := hC1.get 1 (.string TN)
              have k2 := hC1.get 2 (.string TA)
              have k3 := hC1.get 3 (.int .i64 tb)
              have HL1 := Lib.hid (HL0.out.below hbuf.below (Nat.le_refl _))
              have HB1 := Lib.hid (HB0.out.trans (hbuf.below.mono HB0.out.size))
              have hob := (OB.of_buf hbuf).out HB0.out.size HB0.out
              obtain ⟨A1, c1, rfl, hb1, hb2, hb3⟩ := hbuf.slice
              have HOB := Lib.hid hob
              have HSL := Lib.hid hbuf.sl
              have HN1 := Lib.hid hb3
              clear hC1 hbuf hob hb3 HCS HB0 HL0
              go_wp2_with (at_builtin; go_loud (refine wpList_append_ob rfl _ _ 63 63 rfl 9 i0 _ 16 Tryz.underlying63 hi hz0 hz1 hz2 rfl (HOB.out.alloc _) rfl rfl (src_one w1 Tryz.underlying63 _ _) ?c1 ?c2 ?_))
              case c1 => unfold maxLen; omega
              case c2 => omega
              intro v' w3 hb4 _ _ _
              go_wp2
              go_ret
              refine ⟨_, rfl, ?_⟩
              have hl : LT = X ++ [cNsname] := HCA.out.trans (by simp)
              rw [hl, List.length_append, List.map_append]
              exact hb4
            · have e4 : ((tk : Int) == 4) = false := by rw [beq_eq_false_iff_ne]; exact h4
              by_cases h5 : tk = 5
              · subst h5
                go_enter Tryz.func71, Tryz.ntmps71
                go_wp2_with (go_at_call 78; refine (HLAB.out _).mono ?_; rintro e w1 ⟨v1, rfl, hbuf⟩; refine Hid.out ?_)
                refine Lib.hid ?_
                have hC1 := HCS.out.below hbuf.below
                have k0 := hC1.get 0 (.int .i64 5)
                have k1 := hC1.get 1 (.string TN)
                have k2 := hC1.get 2 (.string TA)
                have k3 := hC1.get 3 (.int .i64 tb)
                have HL1 := Lib.hid (HL0.out.below hbuf.below (Nat.le_refl _))
                have HB1 := Lib.hid (HB0.out.trans (hbuf.below.mono HB0.out.size))
                have hob := (OB.of_buf hbuf).out HB0.out.size HB0.out
                obtain ⟨A1, c1, rfl, hb1, hb2, hb3⟩ := hbuf.slice
                have HOB := Lib.hid hob
                have HSL := Lib.hid hbuf.sl
                have HN1 := Lib.hid hb3
                clear hC1 hbuf hob hb3 HCS HB0 HL0
                obtain ⟨W2, hW2⟩ : ∃ W2, W2 = w1.alloc (.cells #[.string ⟨#[42]⟩] 9) := ⟨_, rfl⟩
                obtain ⟨W4, hW4⟩ : ∃ W4, W4 = W2.alloc (.cells #[.string ⟨#[114, 112, 122, 45, 110, 115, 100, 110, 97, 109, 101]⟩] 9) := ⟨_, rfl⟩
                obtain ⟨W3, hW3⟩ : ∃ W3, W3 = W4.alloc (.cells #[.slice (some ⟨w1.heap.size, 0, none⟩) 1 1, .slice A1 X.length c1, .slice (some ⟨w1.heap.size + 1, 0, none⟩) 1 1] 63) := ⟨_, rfl⟩
                have hb12 : Below w1.heap.size w1 W2 := by rw [hW2]; exact (Below.refl _ _).alloc (Nat.le_refl _) _
                have hb24 : Below W2.heap.size W2 W4 := by rw [hW4]; exact (Below.refl _ _).alloc (Nat.le_refl _) _
                have hb43 : Below W4.heap.size W4 W3 := by rw [hW3]; exact (Below.refl _ _).alloc (Nat.le_refl _) _
                have hs2 : W2.heap.size = w1.heap.size + 1 := by rw [hW2]; simp
                have hs4 : W4.heap.size = w1.heap.size + 2 := by rw [hW4]; simp [hs2]
                have hstar : Sl W2 W2.heap.size 1 (some ⟨w1.heap.size, 0, none⟩) 1 ([star].map sv) := by rw [hW2]; exact Sl.fresh w1 _ _ 1 _ rfl rfl
                have hns : Sl W4 W4.heap.size 1 (some ⟨w1.heap.size + 1, 0, none⟩) 1 ([cNsname].map sv) := by rw [hW4, ← hs2]; exact Sl.fresh W2 _ _ 1 _ rfl rfl
                have hrows : Sl W3 W3.heap.size 1 (some ⟨W4.heap.size, 0, none⟩) 3 (([(some ⟨w1.heap.size, 0, none⟩, 1, 1, [star]), (A1, X.length, c1, X), (some ⟨w1.heap.size + 1, 0, none⟩, 1, 1, [cNsname])] : List RowS).map rowSV) := by rw [hW3]; exact Sl.fresh W4 _ _ 3 _ rfl rfl
                have hok : ∀ r ∈ ([(some ⟨w1.heap.size, 0, none⟩, 1, 1, [star]), (A1, X.length, c1, X), (some ⟨w1.heap.size + 1, 0, none⟩, 1, 1, [cNsname])] : List RowS), RowSOk W3 r := by
                  intro r hr
                  simp only [List.mem_cons, List.not_mem_nil, or_false] at hr
                  rcases hr with rfl | rfl | rfl
                  · exact ⟨((hstar.below hb24).more hb24.size |>.below hb43).more hb43.size, (fun h => by cases h), rfl⟩
                  · exact ⟨(((HSL.out.below hb12).more hb12.size |>.below hb24).more hb24.size |>.below hb43).more hb43.size, fun h => (HN1.out h).1, rfl⟩
                  · exact ⟨(hns.below hb43).more hb43.size, (fun h => by cases h), rfl⟩
                have hcc := concatS_any (some ⟨W4.heap.size, 0, none⟩) 3 3 _ W3 hrows (by omega) hok (by simp [allS]; omega)
                rw [show allS ([(some ⟨w1.heap.size, 0, none⟩, 1, 1, [star]), (A1, X.length, c1, X), (some ⟨w1.heap.size + 1, 0, none⟩, 1, 1, [cNsname])] : List RowS) = star :: (X ++ [cNsname]) by simp [allS], hs4] at hcc
                have HCC := Lib.hid hcc
                have HB3 := Lib.hid (HB1.out.trans ((hb12.mono HB1.out.size).trans ((hb24.mono (by have := HB1.out.size; omega)).trans (hb43.mono (by have := HB1.out.size; omega)))))
                have HW2 := Lib.hid hW2
                have HW3 := Lib.hid hW3
                have HW4 := Lib.hid hW4
                clear hb12 hb24 hb43 hstar hns hrows hok hcc hW2 hW3 hW4
                go_upto_region 16 with fail
                go_wp2_with (go_at_call 102; rw [← HW2.out, ← HW4.out, ← HW3.out]; refine HCC.out.mono ?_; rintro e w4 ⟨v4, rfl, hob4⟩)
                go_ret
                refine ⟨_, rfl, ?_⟩
                have hl : LT = star :: (X ++ [cNsname]) := HCA.out.trans (by simp)
                rw [hl]
                exact hob4.out HB3.out.size HB3.out
              · have e5 : ((tk : Int) == 5) = false := by rw [beq_eq_false_iff_ne]; exact h5
                have hl : LT = [] := HCA.out.trans (by simp [h0, h3, h6, h1, h2, h4, h5])
                clear HCA
                rw [hl]
                go_enter Tryz.func71, Tryz.ntmps71
                go_wp2_with (go_at_call 78; refine (HLAB.out _).mono ?_; rintro e w1 ⟨v1, rfl, hbuf⟩; refine Hid.out ?_)
                refine Lib.hid ?_
                have hC1 := HCS.out.below hbuf.below
                have k0 := hC1.get 0 (.int .i64 tk)
                have k1 := hC1.get 1 (.string TN)
                have k2 := hC1.get 2 (.string TA)
                have k3 := hC1.get 3 (.int .i64 tb)
                have HL1 := Lib.hid (HL0.out.below hbuf.below (Nat.le_refl _))
                have HB1 := Lib.hid (HB0.out.trans (hbuf.below.mono HB0.out.size))
                have hob := (OB.of_buf hbuf).out HB0.out.size HB0.out
                obtain ⟨A1, c1, rfl, hb1, hb2, hb3⟩ := hbuf.slice
                have HOB := Lib.hid hob
                have HSL := Lib.hid hbuf.sl
                have HN1 := Lib.hid hb3
                clear hC1 hbuf hob hb3 HCS HB0 HL0
                go_wp2_with fail
                go_ret
                exact ⟨_, rfl, OB.nil HB1.out HB1.out.size⟩
end Go.Proofs.YtkdknfedieeenaaGreatDoor
