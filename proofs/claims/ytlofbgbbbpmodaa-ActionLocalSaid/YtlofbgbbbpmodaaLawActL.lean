/- The walk of ActionLocal. -/
import Derived.Test.YtlofbgbbbpmodaaActO
import Derived.Test.YtlofbgbbbpmodaaLawActA
import Derived.Test.YtlofbgbbbpmodaaObw
import Derived.Outline
namespace Go.Proofs.Ytlofbgbbbpmodaa
open Go.RowKit
set_option linter.unusedVariables false
set_option linter.unusedSimpArgs false
set_option maxRecDepth 20000
theorem OBM.wand {sz B n : Nat} {W w : World} {v : Value} {l l' : List Value} (h : OBM sz B W v n l w) (e : l = l') : OBM sz B W v n l' w := by rw [← e]; exact h
/-- The records so far that a name may tell as they are. -/
def goodR (rs : List RecT) (k : Nat) : List RecT := (rs.take k).filter fun r => !badT r
theorem goodR_le (rs : List RecT) (k : Nat) : (goodR rs k).length ≤ rs.length := by
  unfold goodR
  have h1 := List.length_filter_le (fun r => !badT r) (rs.take k)
  have h2 := List.length_take_le k rs
  simp at h1
  omega
theorem goodR_yes {rs : List RecT} {k : Nat} {r : RecT} (hr : rs[k]? = some r) (hb : badT r = false) : goodR rs (k + 1) = goodR rs k ++ [r] := by
  unfold goodR
  rw [List.take_add_one, hr]
  simp [List.filter_append, hb]
theorem goodR_no {rs : List RecT} {k : Nat} {r : RecT} (hr : rs[k]? = some r) (hb : badT r = true) : goodR rs (k + 1) = goodR rs k := by
  unfold goodR
  rw [List.take_add_one, hr]
  simp [List.filter_append, hb]
theorem goodR_none (rs : List RecT) (k : Nat) : (goodR rs k).any badT = false := by
  cases e : (goodR rs k).any badT with
  | false => rfl
  | true =>
    obtain ⟨q, hq, hb⟩ := List.any_eq_true.1 e
    unfold goodR at hq
    have := (List.mem_filter.1 hq).2
    rw [hb] at this; cases this
theorem src_one {w : World} {t ts : TypeId} (hts : Try.prog.underlying ts = some (.slice t)) (r : RecT) :
    Src Try.prog 4 ts (.slice (some ⟨w.heap.size, 0, none⟩) 1 1) 1 (recCells r) (w.alloc (.cells #[.string r.1, .int .u16 r.2.1, .int .u32 r.2.2.1, .string r.2.2.2] t)) := by
  refine Src.ofSlice _ hts _ 1 1 _ rfl ?_ ?_
  · exact news_at w #[.string r.1, .int .u16 r.2.1, .int .u32 r.2.2.1, .string r.2.2.2] _
  · intro u hu
    unfold recCells at hu
    simp at hu
    rcases hu with rfl | rfl | rfl | rfl <;> rfl
attribute [local simp] putsF isV wordOf Deps Region.binds Region.wanted Act.put wantedX isB
set_option maxHeartbeats 6400000 in
theorem actionLocal_walk (w : World) (A : Option Addr) (n c : Nat) (ds : List ActT) (hV : Acts5 w A n c ds) (kd : Int) (hkw : (Lit.int .u8 kd).wf = true) :
    Calls Try.prog 3 #[.slice A n c, .int .u8 kd] w fun e w' => e = .returned (.bool true) ∧ Below w.heap.size w w' := by
  have hkd := u8_wf hkw
  obtain ⟨kn, rfl⟩ : ∃ kn : Nat, kd = kn := ⟨kd.toNat, by omega⟩
  obtain ⟨J, T, hJ, hJ3, hT, hTT⟩ : ∃ (J : Nat) (T : Int), (kn : Int) % 3 = (J : Int) ∧ J < 3 ∧ [Value.int .u16 5, .int .u16 6, .int .u16 2][J]? = some (.int .u16 T) ∧ (T = 5 ∨ T = 6 ∨ T = 2) := by
    have h3 : kn % 3 = 0 ∨ kn % 3 = 1 ∨ kn % 3 = 2 := by omega
    rcases h3 with h | h | h
    · exact ⟨0, 5, by omega, by decide, rfl, .inl rfl⟩
    · exact ⟨1, 6, by omega, by decide, rfl, .inr (.inl rfl)⟩
    · exact ⟨2, 2, by omega, by decide, rfl, .inr (.inr rfl)⟩
  have HJ := Lib.hid hJ
  have HT := Lib.hid hT
  have HTT := Lib.hid hTT
  clear hJ hT hTT
  obtain ⟨i0, hi, hz0, hz1, hz2⟩ := info_parts4 rec_info
  have HV := Lib.hid hV
  clear hV hkw
  go_enter Try.func3, Try.ntmps3
  go_wp2_with fail
  refine (awake14_any _).mono ?_
  rintro e w1 ⟨rfl, hb1⟩
  have HB1 := Lib.hid hb1
  clear hb1
  go_wp2_with fail
  refine (records_any A n c 8 ds w1 (HV.out.at_.below HB1.out) HV.out.most (by decide)).mono ?_
  rintro e w2 ⟨v1, rfl, ho1⟩
  obtain ⟨rs, hrs⟩ : ∃ rs, rs = recsOf ds 8 := ⟨_, rfl⟩
  rw [← hrs] at ho1
  obtain ⟨N, hN⟩ : ∃ N, rs.length = N := ⟨_, rfl⟩
  have hN8 : N ≤ 8 := by rw [← hN, hrs, recsOf_len]; omega
  rw [hN] at ho1
  obtain ⟨A1, c1, rfl, hnc, hcm, hA10⟩ := ho1.slice
  have HO1 := Lib.hid ho1
  have HN := Lib.hid hN
  have HB2 := Lib.hid (below_trans HB1.out HB1.out.size ho1.bel)
  clear ho1 hrs hN hA10
  go_wp2_with fail
  go_loopw [5, 17] (fun v i wr => ∃ k : Nat, k ≤ N ∧ i = .int .i64 k ∧ Hid (OBM 4 w2.heap.size w2 v (goodR rs k).length (flatR (goodR rs k)) wr)) (fun _ i _ => N - (intOf i).toNat)
  case atStart => exact ⟨0, Nat.zero_le _, rfl, Lib.hid (by have := OBM.start (sz := 4) w2; simpa [goodR, flatR] using this)⟩
  case round =>
    obtain ⟨k, hk, rfl, HB⟩ := hrel
    by_cases hlt : k < N
    · have hlt' : (k : Int) < N := by omega
      obtain ⟨r, hr⟩ : ∃ r, rs[k]? = some r := ⟨_, List.getElem?_eq_getElem (by rw [HN.out]; exact hlt)⟩
      obtain ⟨b, off, rfl, hb, z0, z1, z2, z3⟩ := ((HO1.out.recs HN.out).below HB.out.bel) k _ hr
      have HR := Lib.hid hr
      have HL := Lib.hid (goodR_le rs k)
      clear hr
      cases e5 : (r.2.1 == 5) with
      | true =>
        have HBad := Lib.hid (show badT r = true by unfold badT; rw [e5]; simp)
        have nq : (r.2.1 != 5) = false := by unfold bne; rw [e5]; rfl
        clear e5
        go_wp2_with fail
        go_round
        case rel => exact ⟨k + 1, by omega, by go_num, Lib.hid (by rw [goodR_no HR.out HBad.out]; exact HB.out.alloc _)⟩
        case measure => simp [intOf]; omega
      | false =>
        have n5' : (r.2.1 != 5) = true := by unfold bne; rw [e5]; rfl
        cases e6 : (r.2.1 == 6) with
        | true =>
          have HBad := Lib.hid (show badT r = true by unfold badT; rw [e6]; simp)
          have nq : (r.2.1 != 6) = false := by unfold bne; rw [e6]; rfl
          clear e6
          go_wp2_with fail
          go_round
          case rel => exact ⟨k + 1, by omega, by go_num, Lib.hid (by rw [goodR_no HR.out HBad.out]; exact HB.out.alloc _)⟩
          case measure => simp [intOf]; omega
        | false =>
          have n6' : (r.2.1 != 6) = true := by unfold bne; rw [e6]; rfl
          cases e2 : (r.2.1 == 2) with
          | true =>
            have HBad := Lib.hid (show badT r = true by unfold badT; rw [e2]; simp)
            have nq : (r.2.1 != 2) = false := by unfold bne; rw [e2]; rfl
            clear e2
            go_wp2_with fail
            go_round
            case rel => exact ⟨k + 1, by omega, by go_num, Lib.hid (by rw [goodR_no HR.out HBad.out]; exact HB.out.alloc _)⟩
            case measure => simp [intOf]; omega
          | false =>
            have HBad := Lib.hid (show badT r = false by unfold badT; rw [e2, e5, e6]; rfl)
            have n5 : (r.2.1 != 5) = true := by unfold bne; rw [e5]; rfl
            have n6 : (r.2.1 != 6) = true := by unfold bne; rw [e6]; rfl
            have n2 : (r.2.1 != 2) = true := by unfold bne; rw [e2]; rfl
            clear e5 e6 e2
            have ho := Lib.hid ((HB.out.alloc (.cells #[.string r.1, .int .u16 r.2.1, .int .u32 r.2.2.1, .string r.2.2.2] 31)).alloc (.cells #[.string r.1, .int .u16 r.2.1, .int .u32 r.2.2.1, .string r.2.2.2] 31))
            have hS := Lib.hid (src_one (w := wr.alloc (.cells #[.string r.1, .int .u16 r.2.1, .int .u32 r.2.2.1, .string r.2.2.2] 31)) Try.underlying24 r)
            have hz : (wr.alloc (.cells #[.string r.1, .int .u16 r.2.1, .int .u32 r.2.2.1, .string r.2.2.2] 31)).heap.size = wr.heap.size + 1 := by simp
            rw [hz] at hS
            clear hz
            go_wp2_with (at_builtin; go_loud (refine wpList_append_obm rfl _ _ 24 24 rfl 31 i0 _ 40 Try.underlying24 hi hz0 hz1 hz2 rfl ho.out rfl rfl hS.out rfl (by have := HL.out; have := HN.out; unfold maxLen; omega) (by have := HL.out; have := HN.out; omega) ?_))
            intro v' w' q1 q2 q3 q4
            clear q2 q3 q4
            have Q1 := Lib.hid q1
            clear q1
            go_wp2_with fail
            go_round
            case rel => exact ⟨k + 1, by omega, by go_num, Lib.hid (by rw [goodR_yes HR.out HBad.out, flatR_snoc, List.length_append]; exact Q1.out)⟩
            case measure => simp [intOf]; omega
    · have hlt' : ¬ (k : Int) < N := by omega
      obtain ⟨gs, hgs⟩ : ∃ gs, goodR rs k = gs := ⟨_, rfl⟩
      rw [hgs] at HB
      have hG : gs.any badT = false ∧ gs.length ≤ 8 := ⟨by rw [← hgs]; exact goodR_none rs k, by rw [← hgs]; have := goodR_le rs k; have := HN.out; omega⟩
      obtain ⟨M, hM⟩ : ∃ M, gs.length = M := ⟨_, rfl⟩
      have hM8 : M ≤ 8 := by rw [← hM]; exact hG.2
      have HG := Lib.hid hG.1
      obtain ⟨A', c', rfl, hnc', hcm', hA'⟩ := HB.out.slice
      have HB3 := Lib.hid (below_trans HB2.out HB2.out.size HB.out.bel)
      have HR4 : Hid (Rows4 wr A' c' gs) := Lib.hid ⟨HB.out.sl, hA', by omega⟩
      rw [hM] at HB hnc' ⊢
      have HM := Lib.hid hM
      have HH := HB
      clear hgs hG HB hA' hM
      by_cases hM0 : M = 0
      · subst hM0
        have h0 : ((0 : Nat) : Int) = 0 := rfl
        go_wp2_with fail
        refine (of_none c' A' _).mono ?_
        unfold zeroA
        rintro e w4 ⟨rfl, hb4⟩
        have HB4 := Lib.hid (below_trans HB3.out HB3.out.size hb4)
        clear hb4
        go_wp2_with fail
        go_ret
        exact ⟨rfl, HB4.out.alloc HB4.out.size _⟩
      · have hMp : 0 < M := by omega
        have hMi : ((M : Int) == 0) = false := by simp; omega
        have OM := Lib.hid (of_more A' c' gs wr HR4.out (by rintro rfl; have := HM.out; simp at this; omega) (by
          rintro r rfl h5
          have := HG.out
          simp [badT, h5] at this))
        rw [HM.out] at OM
        go_wp2_with fail
        refine OM.out.mono ?_
        rintro e w4 (⟨hbad, -⟩ | ⟨-, v2, rfl, ho2⟩)
        · rw [HG.out] at hbad; cases hbad
        obtain ⟨A2, c2, rfl, -, -, -⟩ := ho2.slice
        rw [HM.out] at ho2
        have HO2 := Lib.hid ho2
        have HO1' := Lib.hid (HH.out.keep ho2.bel (Nat.le_refl _))
        have HB4 := Lib.hid (below_trans HB3.out HB3.out.size ho2.bel)
        clear ho2
        obtain ⟨R, hR⟩ : ∃ R : RecT, R = (⟨#[]⟩, T, 0, ⟨#[]⟩) := ⟨_, rfl⟩
        have hRb : badT R = true := by rw [hR]; rcases HTT.out with h | h | h <;> simp [badT, h]
        have hany : (gs ++ [R]).any badT = true := by rw [List.any_append]; simp [hRb]
        have hlen1 : (gs ++ [R]).length = M + 1 := by rw [List.length_append, HM.out]; rfl
        have hfl : flatR gs ++ recCells R = flatR (gs ++ [R]) := (flatR_snoc gs R).symm
        -- the first record's first cell
        obtain ⟨g0, hg0⟩ : ∃ r, gs[0]? = some r := ⟨_, List.getElem?_eq_getElem (by rw [HM.out]; exact hMp)⟩
        have HZ : Hid ((flatR gs)[0]? = some (.string g0.1)) := Lib.hid (by have := (flatR_get gs 0 g0 hg0).1; simpa using this)
        have HRR := Lib.hid hR
        have HRb := Lib.hid hRb
        have HAny := Lib.hid hany
        have HL1 := Lib.hid hlen1
        have HFL := Lib.hid hfl
        clear hRb hany hlen1 hfl hg0
        rw [HM.out]
        go_upto_region 13 with fail
        obtain ⟨W, hW⟩ : ∃ W, W = w4.alloc (.cells #[.int .i64 8, .string ⟨#[]⟩, .bool false, .slice A2 M c2] 34) := ⟨_, rfl⟩
        rw [← hW]
        have hbW : Below w4.heap.size w4 W := by rw [hW]; exact (Below.refl _ _).alloc (Nat.le_refl _) _
        have HGS := Lib.hid ((HO1'.out.keep hbW (Nat.le_refl _)))
        have HCA : Hid (Cs W w4.heap.size [.int .i64 8, .string ⟨#[]⟩, .bool false, .slice A2 M c2]) := Lib.hid (by rw [hW]; exact Cs.new _ _ _ _)
        have HBW := Lib.hid hbW
        clear hW hbW
        refine wp_region_exp data_follows (fun x => by simp [putsF, Act.put]; rfl) (fun v => Below W.heap.size W v)
          [isX (.slice A' M c'), until_ 9 (ownW 4 W.heap.size W M (flatR gs)), until_ 5 (litW 3 [.int .u16 5, .int .u16 6, .int .u16 2]), isX (.int .u8 (kn : Nat)), isX (.int .u8 (J : Nat)), until_ 6 (atW J [.int .u16 5, .int .u16 6, .int .u16 2]), isX (.int .u16 T),
           isX (.agg #[.string ⟨#[]⟩, .int .u16 T, .int .u32 0, .string ⟨#[]⟩]), until_ 9 (litW 1 (recCells R)), until_ 10 (ownW 4 W.heap.size W (M + 1) (flatR (gs ++ [R]))), isX (.tuple #[zeroA, .bool false]), isX (.tuple #[zeroA, .bool false]), isX zeroA, isX (.bool false),
           always (boxW W.heap.size [.int .i64 0, .string ⟨#[]⟩, .bool false, .slice none 0 0]), fun _ _ _ => True, isX (.bool false)]
          [9, 15] (by kernel_rfl) (by kernel_rfl) (by kernel_rfl) rfl ?_ (Below.refl _ _).drew ?_ ?_ ?_
        · repeat (first | exact trivial | refine ⟨by first | exact isX_stays _ | exact until_stays (ownW_stays _ _ _ _ _) | exact until_stays (litW_stays _ _) | exact until_stays (atW_stays _ _) | exact always_stays (boxW_stays _ _) | exact fun _ _ _ _ _ _ _ _ => trivial, ?_⟩)
        · refine ⟨?_, ?_, ?_, ?_, ?_, ?_, ?_, ?_, ?_, skipped rfl, ?_, ?_, ?_, ?_, ?_, skipped rfl, ?_, trivial⟩
          all_goals
            intro _ d x wr2 hR hdi hsrc hd
            refine ⟨fun _ => ?_, fun hX => by simp at hX⟩
            simp [wordX, isX] at hd ⊢
          · go_simp; exact nextX _ rfl rfl hR (Below.refl _ _)
          · refine oper_append_obm _ _ _ _ rfl 31 i0 _ 40 Try.underlying24 hi hz0 hz1 hz2 rfl (OBM.start (sz := 4) wr2) rfl (by exact hd) ((HGS.out.keep hR (Nat.le_refl _)).sl.srcM Try.underlying24 ?_ (flatR_one _)) (HGS.out.len) (by unfold maxLen; omega) (by omega) ?_
            · rintro rfl
              rcases HGS.out.own with ⟨hv, h0⟩ | ⟨g, cap, hv, _⟩
              · exact h0
              · injection hv with hv; cases hv
            · intro v' w' q1 q2 q3 q4
              have q1' : OBM 4 W.heap.size W v' M (flatR gs) w' := by have := q1.out hR.size hR; simpa using this
              exact nextX v' rfl (until_of q1') q1'.bel q1.bel
          · go_simp; exact nextX _ rfl (until_of (litW_new 3 _ _ _ _)) (hR.alloc hR.size _) ((Below.refl _ _).alloc (Nat.le_refl _) _)
          · go_simp; exact nextX _ rfl rfl hR (Below.refl _ _)
          · have hj : (kn : Int).tmod 3 = (J : Int) := by rw [Int.tmod_eq_emod_of_nonneg (by omega)]; exact HJ.out
            go_simp; exact nextX _ rfl rfl hR (Below.refl _ _)
          · obtain ⟨hd2, hd4⟩ := hd
            obtain ⟨g, hx, hc⟩ := hd2 hdi
            have hJi : (J : Int) < 3 := by omega
            rw [hx]
            go_simp; exact nextX _ rfl (until_of ⟨g, rfl, hc⟩) hR (Below.refl _ _)
          · obtain ⟨g, hx, hc⟩ := hd hdi
            rw [hx]
            have hcell := hc.get J _ HT.out
            go_simp; exact nextX _ rfl rfl hR (Below.refl _ _)
          · go_simp; exact nextX _ rfl rfl hR (Below.refl _ _)
          · go_simp; exact nextX _ rfl (until_of (litW_new 1 _ _ _ _ (by first | rfl | (rw [HRR.out]; rfl)))) (hR.alloc hR.size _) ((Below.refl _ _).alloc (Nat.le_refl _) _)
          · have ho9 := hd hdi
            unfold ownW at ho9
            obtain ⟨A9, c9, hx, _, _, hn9⟩ := ho9.slice
            rw [hx] at ho9
            have hr9 : Rows4 wr2 A9 c9 (gs ++ [R]) := ⟨by rw [HL1.out]; exact ho9.sl, by rw [HL1.out]; exact hn9, by rw [HL1.out]; omega⟩
            have OM9 := of_more A9 c9 (gs ++ [R]) wr2 hr9 (by simp) (by
              intro r hr
              have := congrArg List.length hr
              rw [HL1.out] at this
              simp at this
              omega)
            rw [HL1.out] at OM9
            rw [hx]
            go_simp
            go_at_call 8
            refine OM9.mono ?_
            rintro e w5 (⟨-, rfl, hb5⟩ | ⟨hbad, -⟩)
            · exact nextX _ rfl rfl (below_trans hR hR.size hb5) hb5
            · rw [HAny.out] at hbad; cases hbad
          · go_simp; exact nextX _ rfl rfl hR (Below.refl _ _)
          · unfold zeroA at hd
            go_simp; exact nextX _ rfl (by unfold zeroA; rfl) hR (Below.refl _ _)
          · unfold zeroA at hd
            go_simp; exact nextX _ rfl rfl hR (Below.refl _ _)
          · go_simp; exact nextX _ rfl ⟨_, rfl, hR.size, Cs.new _ _ _ _⟩ (hR.alloc hR.size _) ((Below.refl _ _).alloc (Nat.le_refl _) _)
          · go_simp; exact nextX _ rfl rfl hR (Below.refl _ _)
        · refine ⟨unskipped rfl, unskipped rfl, unskipped rfl, unskipped rfl, unskipped rfl, unskipped rfl, unskipped rfl, unskipped rfl, unskipped rfl, ?_, unskipped rfl, unskipped rfl, unskipped rfl, unskipped rfl, unskipped rfl, ?_, unskipped rfl, trivial⟩
          · intro _ d x wr2 hR hdi hcl hsrc hd
            refine ⟨fun _ => ?_, fun hX => by simp at hX⟩
            have d5 : d 5 = true := hsrc.reach (K := 9) hcl rfl 20 5 (by decide) (by kernel_rfl)
            have d6 : d 6 = true := hsrc.reach (K := 9) hcl rfl 20 6 (by decide) (by kernel_rfl)
            have d1 : d 1 = true := hsrc.reach (K := 9) hcl rfl 20 1 (by decide) (by kernel_rfl)
            have d8 : d 8 = true := hsrc.reach (K := 9) hcl rfl 20 8 (by decide) (by kernel_rfl)
            simp only [DoneX] at hd
            have ho1 := hd.2.1 d1 hdi
            obtain ⟨g, hx8, hc8⟩ := hd.2.2.2.2.2.2.2.2.1 d8 hdi
            unfold ownW at ho1
            dsimp only
            rw [hx8]
            refine oper_append_obm _ _ _ _ rfl 31 i0 _ 40 Try.underlying24 hi hz0 hz1 hz2 rfl ho1 rfl rfl
              (Src.ofSlice _ Try.underlying24 ⟨g, 0, none⟩ 1 1 (recCells R) rfl (fun j u hu => by rw [Addr.add_lit, Nat.zero_add]; exact hc8.get j u hu) (by intro u hu; unfold recCells at hu; simp at hu; rcases hu with rfl | rfl | rfl | rfl <;> rfl)) rfl (by unfold maxLen; omega) (by omega) ?_
            intro v' w' q1 q2 q3 q4
            rw [HFL.out] at q1
            refine nextK v' rfl (until_of q1) q1.bel ?_
            refine ⟨fun _ _ h => h, fun _ _ _ => until_self, fun _ _ _ => until_done d5, fun _ _ h => h, fun _ _ h => h, fun _ _ _ => until_done d6, fun _ _ h => h, fun _ _ h => h, fun _ _ _ => until_self, fun h => absurd rfl h, fun _ _ h => h, fun _ _ h => h, fun _ _ h => h, fun _ _ h => h, ?_, fun _ _ _ => trivial, fun _ _ h => h, trivial⟩
            rintro - - ⟨g4, hx4, hB4, hc4⟩
            refine ⟨g4, hx4, hB4, hc4.block (q3 g4 hc4.lt ?_) q2⟩
            intro he
            rcases ho1.own with ⟨_, h0⟩ | ⟨g', cap, hv, _, _, _, _, _, hc⟩
            · omega
            · rw [hv] at he
              have he' : g4 = g' := by injection he
              have h1 := hc 0 _ HZ.out
              have h2 := hc4.get 0 _
              rw [he'] at h2
              rw [h2] at h1
              cases h1
          · intro _ d x wr2 hR hdi hcl hsrc hd
            refine ⟨fun _ => ?_, fun hX => by simp at hX⟩
            have d5 : d 5 = true := hsrc.reach (K := 15) hcl rfl 20 5 (by decide) (by kernel_rfl)
            have d6 : d 6 = true := hsrc.reach (K := 15) hcl rfl 20 6 (by decide) (by kernel_rfl)
            have d9 : d 9 = true := hsrc.reach (K := 15) hcl rfl 20 9 (by decide) (by kernel_rfl)
            have d10 : d 10 = true := hsrc.reach (K := 15) hcl rfl 20 10 (by decide) (by kernel_rfl)
            have d12 : d 12 = true := hsrc.reach (K := 15) hcl rfl 20 12 (by decide) (by kernel_rfl)
            have d14 : d 14 = true := hsrc.reach (K := 15) hcl rfl 20 14 (by decide) (by kernel_rfl)
            simp only [DoneX] at hd
            obtain ⟨-, -, -, -, -, -, -, -, -, -, -, -, h12, -, h14, -⟩ := hd
            have h12 := h12 d12
            obtain ⟨g4, hx4, hB4, hc4⟩ := h14 d14
            have h12 : x 12 = zeroA := h12
            unfold zeroA at h12
            dsimp only
            rw [hx4, h12]
            have q := (((hc4.set' 0 (.int .i64 0) (by decide)).set' 1 (.string ⟨#[]⟩) (by simp)).set' 2 (.bool false) (by simp)).set' 3 (.slice none 0 0) (by simp)
            have k0 := hc4.get 0 _
            have k1 := hc4.get 1 _
            have k2 := hc4.get 2 _
            have k3 := hc4.get 3 _
            have f0 := hc4.froz 0
            have f1 := hc4.froz 1
            have f2 := hc4.froz 2
            have f3 := hc4.froz 3
            go_simp
            refine nextK undef rfl trivial ?_ ?_
            · iterate 4 (refine Below.setCell ?_ hB4 _)
              exact hR
            · refine ⟨fun _ _ h => h, fun _ _ _ => until_done d9, fun _ _ _ => until_done d5, fun _ _ h => h, fun _ _ h => h, fun _ _ _ => until_done d6, fun _ _ h => h, fun _ _ h => h, fun _ _ _ => until_done d9, fun _ _ _ => until_done d10, fun _ _ h => h, fun _ _ h => h, fun _ _ h => h, fun _ _ h => h, ?_, fun h => absurd rfl h, fun _ _ h => h, trivial⟩
              intro _ _ _
              exact ⟨g4, hx4, hB4, q⟩
        · intro x w5 hR hx
          obtain ⟨-, -, -, -, -, -, -, -, -, -, -, -, -, -, ⟨g4, hx4, hB4, hc4⟩, -, h16, -⟩ := hx
          have h16 : x 16 = .bool false := h16
          rw [hx4, h16]
          have hCA := HCA.out.below hR
          have k0 := hCA.get 0 _
          have k1 := hCA.get 1 _
          have k2 := hCA.get 2 _
          have k3 := hCA.get 3 _
          have z0 := hc4.get 0 _
          have z1 := hc4.get 1 _
          have z2 := hc4.get 2 _
          have z3 := hc4.get 3 _
          have SR := same_recs A2 A' c2 c' gs gs w5 ((((HO2.out.recs HM.out).below HBW.out)).below hR) (((HGS.out.keep hR (Nat.le_refl _))).recs HM.out) (by rw [HM.out]; unfold maxLen; omega) (by rw [HM.out]; unfold maxLen; omega)
          rw [HM.out] at SR
          have HB5 := Lib.hid (below_trans (below_trans HB4.out HB4.out.size HBW.out) (below_trans HB4.out HB4.out.size HBW.out).size hR)
          simp only [decide_true] at SR
          have HSR := Lib.hid SR
          clear SR hx4 h16 hB4 hCA hR
          go_wp2_with fail
          refine HSR.out.mono ?_
          rintro e w6 ⟨rfl, hb6⟩
          have z0 := (hc4.below hb6).get 0 _
          have z1 := (hc4.below hb6).get 1 _
          have z2 := (hc4.below hb6).get 2 _
          have z3 := (hc4.below hb6).get 3 _
          have HB6 := Lib.hid (below_trans HB5.out HB5.out.size hb6)
          clear hb6 hc4
          have SS := Lib.hid (fun w => same_self 0 ⟨#[]⟩ false w)
          unfold act3 at SS
          go_wp2_with fail
          refine (SS.out _).mono ?_
          rintro e w7 ⟨rfl, hb7⟩
          have HB7 := Lib.hid (below_trans HB6.out HB6.out.size hb7)
          clear hb7
          go_wp2_with fail
          go_ret
          exact ⟨rfl, HB7.out⟩
end Go.Proofs.Ytlofbgbbbpmodaa
