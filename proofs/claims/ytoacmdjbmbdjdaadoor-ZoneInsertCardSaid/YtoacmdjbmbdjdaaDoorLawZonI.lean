/- The walk of ZoneInsert. -/
import Derived.Test.YtoacmdjbmbdjdaaDoorZonI
import Derived.Test.YtoacmdjbmbdjdaaDoorLaid
import Derived.Test.YtoacmdjbmbdjdaaDoorAs
import Derived.Test.YtoacmdjbmbdjdaaDoorReg7
namespace Go.Proofs.YtoacmdjbmbdjdaaDoor
open Go.RowKit
set_option linter.unusedVariables false
set_option linter.unusedSimpArgs false
set_option maxRecDepth 20000
attribute [local simp] putsF isV wordOf Deps Region.binds Region.wanted Act.put wantedX isB
theorem tail_cons {P : Program} {Q : Exit → Act → World → Prop} (o : Oper) (os : List Oper) (a : Act) (w : World) : tailWp P Q (o :: os) a w = Oper.wp P o a w (fun a' w' => ∃ v, a' = a.put o.dst v ∧ tailWp P Q os a' w') Q := rfl
theorem tail_nil {P : Program} {Q : Exit → Act → World → Prop} (a : Act) (w : World) : tailWp P Q [] a w = Q .normal a w := rfl
/-- A record is among others. -/
def hasE (rs : List RecT) (r : RecT) : Bool := rs.any fun x => eqB x r
theorem hasE_iff (rs : List RecT) (r : RecT) : hasE rs r = true ↔ r ∈ rs := by
  unfold hasE
  rw [List.any_eq_true]
  constructor
  · rintro ⟨q, hq, he⟩; rw [← (eqB_iff q r).1 he]; exact hq
  · intro h; exact ⟨r, h, (eqB_iff r r).2 rfl⟩
theorem hasE_false {rs : List RecT} {r : RecT} : hasE rs r = false ↔ r ∉ rs := by
  rw [← hasE_iff]; simp
theorem hasE_next {rs : List RecT} {s : RecT} {k : Nat} {r : RecT} (h : rs[k]? = some r) : hasE (rs.take (k + 1)) s = (hasE (rs.take k) s || eqB r s) := by
  unfold hasE; rw [List.take_add_one, h, List.any_append]; simp
theorem foldl_mem' : ∀ (rs out : List RecT) (q : RecT), q ∈ rs.foldl stepS out → q ∈ out ∨ q ∈ rs
  | [], out, q, h => .inl h
  | r :: rs, out, q, h => by
    rcases foldl_mem' rs (stepS out r) q h with h | h
    · rcases stepS_cases out r with ⟨h', _⟩ | h'
      · rw [h'] at h; exact .inl h
      · rw [h'] at h
        unfold insR at h
        rcases List.mem_append.1 h with h | h
        · exact .inl ((List.takeWhile_sublist _).mem h)
        · rcases List.mem_cons.1 h with h | h
          · exact .inr (by simp [h])
          · exact .inl ((List.dropWhile_sublist _).mem h)
    · exact .inr (by simp [h])
theorem sortedR_iff (rs : List RecT) (q : RecT) : q ∈ sortedR rs ↔ q ∈ rs :=
  ⟨fun h => by
    rcases foldl_mem' rs [] q h with h | h
    · cases h
    · exact h, sortedR_has⟩
theorem sortedR_snoc (rs : List RecT) (r : RecT) : sortedR (rs ++ [r]) = stepS (sortedR rs) r := by unfold sortedR; rw [List.foldl_append]; rfl
theorem lessR_nil (s : RecT) : lessR [] s = [] := rfl
theorem lessR_le (z : List RecT) (s : RecT) : (lessR z s).length ≤ z.length := by unfold lessR; exact List.length_filter_le _ _
theorem lessR_yes {z : List RecT} {s : RecT} {k : Nat} {r : RecT} (h : z[k]? = some r) (he : eqB r s = true) : lessR (z.take (k + 1)) s = lessR (z.take k) s := by rw [lessR_next h, he]; simp
theorem lessR_no {z : List RecT} {s : RecT} {k : Nat} {r : RecT} (h : z[k]? = some r) (he : eqB r s = false) : lessR (z.take (k + 1)) s = lessR (z.take k) s ++ [r] := by rw [lessR_next h, he]; simp
theorem delete_any (A : Option Addr) (n c : Nat) (rs : List RecT) (r : RecT) (w : World) (h : RowROk w (A, n, c, rs)) (hnc : n ≤ c) (hn : n ≤ 100000) (hri : Rising rs) :
    Calls Tryd.prog 12 #[.slice A n c, recV r] w fun e w' => ∃ A' n' c' f, e = .returned (.tuple #[.slice A' n' c', f]) ∧ Below w.heap.size w w' ∧ ((hasE rs r = true ∧ f = .nilIface ∧ n' = (lessR rs r).length ∧ OBM 4 w.heap.size w (.slice A' n' c') n' (flatR (lessR rs r)) w') ∨ (hasE rs r = false ∧ f = errV 6 ∧ n' = 0)) := by
  by_cases hr : r ∈ rs
  · refine (delete_some A n c rs r w h hnc hn hr hri).mono ?_
    rintro e w' ⟨v, rfl, ho⟩
    obtain ⟨A', c', rfl, -, -, -⟩ := ho.slice
    exact ⟨_, _, _, _, rfl, ho.bel, .inl ⟨(hasE_iff _ _).2 hr, rfl, rfl, ho⟩⟩
  · refine (delete_none A n c rs r w (h.sl.recs (Nat.le_refl _) h.len) h.len (by unfold maxLen; omega) hr).mono ?_
    rintro e w' ⟨rfl, hb⟩
    exact ⟨_, _, _, _, rfl, hb, .inr ⟨hasE_false.2 hr, rfl, rfl⟩⟩
set_option maxHeartbeats 12800000 in
theorem zoneInsert_core (w : World) (HE : Etype w) (A : Option Addr) (n c : Nat) (ds : List ActT) (hV : Acts5 w A n c ds) (a b : ActT) (ha : ActOk w a) (hb : ActOk w b) :
    Calls Tryd.prog 3 #[.slice A n c, actA a, actA b] w fun e w' => e = .returned (.bool true) ∧ Below w.heap.size w w' := by
  obtain ⟨i0, hi, hz0, hz1, hz2⟩ := info_parts4 rec_info
  have RC := Lib.hid (fun w h => record_any a w h)
  have RS := Lib.hid (fun w h => record_any b w h)
  obtain ⟨r, hr⟩ : ∃ r, recOf a = r := ⟨_, rfl⟩
  obtain ⟨s, hs⟩ : ∃ s, recOf b = s := ⟨_, rfl⟩
  rw [hr] at RC
  rw [hs] at RS
  clear hr hs
  have HV := Lib.hid hV
  have HOA := Lib.hid ha
  have HOB := Lib.hid hb
  have HET := Lib.hid HE
  obtain ⟨va, hva⟩ : ∃ v, actCells a = v := ⟨_, rfl⟩
  clear hva va
  obtain ⟨⟨P1, p1, q1, l1⟩, k1, t1, ⟨P2, p2, q2, l2⟩, s1⟩ := a
  obtain ⟨⟨P3, p3, q3, l3⟩, k2, t2, ⟨P4, p4, q4, l4⟩, s2⟩ := b
  obtain ⟨r0, r1, r2, r3⟩ := r
  obtain ⟨s0, s1', s2', s3⟩ := s
  unfold actA rowV recV at RC RS
  simp only at RC RS
  unfold actA rowV
  simp only
  clear hV ha hb HE
  go_enter Tryd.func3, Tryd.ntmps3
  obtain ⟨W, hW⟩ : ∃ W, W = (w.alloc (.cells #[.slice P1 p1 q1, .int .u8 k1, .int .u32 t1, .slice P2 p2 q2, .string s1] 26)).alloc (.cells #[.slice P3 p3 q3, .int .u8 k2, .int .u32 t2, .slice P4 p4 q4, .string s2] 26) := ⟨_, rfl⟩
  obtain ⟨g1, hg1⟩ : ∃ g, g = w.heap.size := ⟨_, rfl⟩
  obtain ⟨g2, hg2⟩ : ∃ g, g = w.heap.size + 1 := ⟨_, rfl⟩
  have hA : Cs W g1 [.slice P1 p1 q1, .int .u8 k1, .int .u32 t1, .slice P2 p2 q2, .string s1] := by rw [hW, hg1]; exact (Cs.new w _ _ _).alloc _
  have hB : Cs W g2 [.slice P3 p3 q3, .int .u8 k2, .int .u32 t2, .slice P4 p4 q4, .string s2] := by rw [hW, hg2]; exact (Cs.new _ _ _ _).at_ _ (by simp)
  have hbW : Below w.heap.size w W := by rw [hW]; exact ((Below.refl _ _).alloc (Nat.le_refl _) _).alloc (by simp) _
  have HW := Lib.hid hW
  have HG := Lib.hid (And.intro hg1 hg2)
  have H1w := Lib.hid hA
  have H2w := Lib.hid hB
  have HBW := Lib.hid hbW
  clear hW hg1 hg2 hA hB hbW
  go_wp2_with fail
  rw [← HW.out]
  refine (awake08_any W).mono ?_
  rintro e w1 ⟨rfl, hb1⟩
  have H1a := Lib.hid (H1w.out.below hb1)
  have H2a := Lib.hid (H2w.out.below hb1)
  have HB1 := Lib.hid (below_trans HBW.out HBW.out.size hb1)
  clear hb1 H1w H2w
  go_wp2_with fail
  refine (records_any A n c 40 ds w1 (HV.out.at_.below HB1.out) HV.out.most (by decide)).mono ?_
  rintro e w2 ⟨v1, rfl, ho1⟩
  obtain ⟨rs, hrs⟩ : ∃ rs, rs = recsOf ds 40 := ⟨_, rfl⟩
  rw [← hrs] at ho1
  obtain ⟨N, hN⟩ : ∃ N, rs.length = N := ⟨_, rfl⟩
  have hN8 : N ≤ 40 := by rw [← hN, hrs, recsOf_len]; omega
  obtain ⟨A1, c1, rfl, -, -, -⟩ := ho1.slice
  rw [hN] at ho1 ⊢
  have HO1 := Lib.hid ho1
  have H1b := Lib.hid (H1a.out.below ho1.bel)
  have H2b := Lib.hid (H2a.out.below ho1.bel)
  have HB2 := Lib.hid (below_trans HB1.out HB1.out.size ho1.bel)
  have HN := Lib.hid hN
  clear ho1 hrs hN HB1 H1a H2a
  go_wp2_with fail
  refine (sorted_any A1 N c1 rs w2 (HO1.out.recs HN.out) HN.out (by omega)).mono ?_
  rintro e w3 ⟨v2, rfl, ho2⟩
  obtain ⟨z, hz⟩ : ∃ z, sortedR rs = z := ⟨_, rfl⟩
  have hzl := sortedR_le rs
  have hzr := sortedR_rising rs
  have hzi := sortedR_iff rs
  have hzs := sortedR_snoc rs
  rw [hz] at ho2 hzl hzr
  rw [hz] at hzs
  obtain ⟨M, hM⟩ : ∃ M, z.length = M := ⟨_, rfl⟩
  have hM4 : M ≤ 40 := by have := HN.out; omega
  obtain ⟨A2, c2, rfl, hzc, hzm, hzn⟩ := ho2.slice
  have HR3 := Lib.hid (HO1.out.keep ho2.bel (Nat.le_refl _))
  have HB3 := Lib.hid (below_trans HB2.out HB2.out.size ho2.bel)
  have H1 := Lib.hid (H1b.out.below ho2.bel)
  have H2 := Lib.hid (H2b.out.below ho2.bel)
  rw [hM] at ho2 hzc hzn ⊢
  have HZ : Hid (RowROk w3 (A2, M, c2, z)) := Lib.hid ⟨ho2.sl, fun h => (hzn h).1, hM⟩
  have HZC := Lib.hid (And.intro hzn (And.intro hzc hzm))
  have HZR := Lib.hid hzr
  have HZI := Lib.hid (fun q => by have := hzi q; rwa [hz] at this : ∀ q, q ∈ z ↔ q ∈ rs)
  have HZS := Lib.hid hzs
  have HSZ := Lib.hid hz
  have HM := Lib.hid hM
  clear ho2 hz hzl hzr hzi hzs hM hzc hzm hzn HB2 HO1 H1b H2b
  go_upto_region 5 with fail
  rw [← HG.out.2, ← HG.out.1]
  refine wp_region_tail data_follows (fun x => by simp [putsF, Act.put]; rfl) (fun v => Below w3.heap.size w3 v)
    [isV (.agg #[.slice P1 p1 q1, .int .u8 k1, .int .u32 t1, .slice P2 p2 q2, .string s1]), isV (.agg #[.string r0, .int .u16 r1, .int .u32 r2, .string r3]), isV (.agg #[.slice P3 p3 q3, .int .u8 k2, .int .u32 t2, .slice P4 p4 q4, .string s2]), isV (.agg #[.string s0, .int .u16 s1', .int .u32 s2', .string s3]),
     boxW w3.heap.size [.string ⟨#[]⟩, .int .u16 0, .int .u32 0, .string ⟨#[]⟩], boxW w3.heap.size [.string ⟨#[]⟩, .int .u16 0, .int .u32 0, .string ⟨#[]⟩]]
    6 [4, 5] (by kernel_rfl) (by kernel_rfl) (by kernel_rfl) rfl (by kernel_rfl) (by kernel_rfl) ?_ (Below.refl _ _).drew ?_ ?_
  · repeat (first | exact trivial | refine ⟨by first | exact isV_stays _ | exact boxW_stays _ _, ?_⟩)
  · refine ⟨?_, ?_, ?_, ?_, ?_, ?_, skipped rfl, skipped rfl, trivial⟩
    all_goals
      intro _ x wx hR hd
      refine ⟨fun _ => ?_, fun hX => by simp at hX⟩
      simp at hd ⊢
    · have hc := H1.out.below hR
      have c0 := hc.get 0 _
      have c1 := hc.get 1 _
      have c2 := hc.get 2 _
      have c3 := hc.get 3 _
      have c4 := hc.get 4 _
      clear hc
      go_simp; exact nextL _ rfl rfl hR (Below.refl _ _)
    · go_simp
      go_at_call 7
      refine (RC.out wx (HOA.out.below (below_trans HB3.out HB3.out.size hR))).mono ?_
      rintro e w4 ⟨rfl, hb⟩
      exact nextL _ rfl rfl (below_trans hR hR.size hb) hb
    · have hc := H2.out.below hR
      have c0 := hc.get 0 _
      have c1 := hc.get 1 _
      have c2 := hc.get 2 _
      have c3 := hc.get 3 _
      have c4 := hc.get 4 _
      clear hc
      go_simp; exact nextL _ rfl rfl hR (Below.refl _ _)
    · go_simp
      go_at_call 7
      refine (RS.out wx (HOB.out.below (below_trans HB3.out HB3.out.size hR))).mono ?_
      rintro e w4 ⟨rfl, hb⟩
      exact nextL _ rfl rfl (below_trans hR hR.size hb) hb
    · go_simp; exact nextL_new _ rfl ⟨_, rfl, hR.size, Cs.new _ _ _ _⟩ (hR.alloc hR.size _)
    · go_simp; exact nextL_new _ rfl ⟨_, rfl, hR.size, Cs.new _ _ _ _⟩ (hR.alloc hR.size _)
  intro x w4 hR4 hx hap
  obtain ⟨-, x1, -, x3, ⟨g9, x4, hB9, hc9⟩, ⟨g10, x5, hB10, hc10⟩, -⟩ := hx
  have hne : g9 ≠ g10 := by
    have := hap 4 (by simp) 5 (by simp) (by decide)
    rw [x4, x5] at this
    intro e; subst e; exact this rfl
  have x1 : x 1 = .agg #[.string r0, .int .u16 r1, .int .u32 r2, .string r3] := x1
  have x3 : x 3 = .agg #[.string s0, .int .u16 s1', .int .u32 s2', .string s3] := x3
  rw [x1, x3, x4, x5]
  have m0 := hc9.get 0 _
  have m1 := hc9.get 1 _
  have m2 := hc9.get 2 _
  have m3 := hc9.get 3 _
  have f0 := hc9.froz 0
  have f1 := hc9.froz 1
  have f2 := hc9.froz 2
  have f3 := hc9.froz 3
  have hq9 := (((hc9.set' 0 (.string r0) (by decide)).set' 1 (.int .u16 r1) (by simp)).set' 2 (.int .u32 r2) (by simp)).set' 3 (.string r3) (by simp)
  have hq10 := (((hc10.other g9 0 (.string r0) hne).other g9 1 (.int .u16 r1) hne).other g9 2 (.int .u32 r2) hne).other g9 3 (.string r3) hne
  have hbq : Below w3.heap.size w3 ((((w4.setCell ⟨g9, 0, none⟩ (.string r0)).setCell ⟨g9, 1, none⟩ (.int .u16 r1)).setCell ⟨g9, 2, none⟩ (.int .u32 r2)).setCell ⟨g9, 3, none⟩ (.string r3)) := by
    iterate 4 (refine Below.setCell ?_ hB9 _)
    exact hR4
  change tailWp _ _ [_, _] _ _
  rw [tail_cons]
  go_simp
  rw [tail_cons]
  obtain ⟨w5, hw5⟩ : ∃ v, v = ((((w4.setCell ⟨g9, 0, none⟩ (.string r0)).setCell ⟨g9, 1, none⟩ (.int .u16 r1)).setCell ⟨g9, 2, none⟩ (.int .u32 r2)).setCell ⟨g9, 3, none⟩ (.string r3)) := ⟨_, rfl⟩
  rw [← hw5] at hq9 hq10 hbq ⊢
  clear m0 m1 m2 m3 f0 f1 f2 f3 hw5 hR4 hc9 hc10 hap x4 x5
  have hq9 : Cs w5 g9 [.string r0, .int .u16 r1, .int .u32 r2, .string r3] := hq9
  have m0 := hq10.get 0 _
  have m1 := hq10.get 1 _
  have m2 := hq10.get 2 _
  have m3 := hq10.get 3 _
  have f0 := hq10.froz 0
  have f1 := hq10.froz 1
  have f2 := hq10.froz 2
  have f3 := hq10.froz 3
  have hne' : g10 ≠ g9 := fun e => hne e.symm
  have hp10 := (((hq10.set' 0 (.string s0) (by decide)).set' 1 (.int .u16 s1') (by simp)).set' 2 (.int .u32 s2') (by simp)).set' 3 (.string s3) (by simp)
  have hp9 := (((hq9.other g10 0 (.string s0) hne').other g10 1 (.int .u16 s1') hne').other g10 2 (.int .u32 s2') hne').other g10 3 (.string s3) hne'
  have hbp : Below w3.heap.size w3 ((((w5.setCell ⟨g10, 0, none⟩ (.string s0)).setCell ⟨g10, 1, none⟩ (.int .u16 s1')).setCell ⟨g10, 2, none⟩ (.int .u32 s2')).setCell ⟨g10, 3, none⟩ (.string s3)) := by
    iterate 4 (refine Below.setCell ?_ hB10 _)
    exact hbq
  go_simp
  rw [tail_nil]
  obtain ⟨w6, hw6⟩ : ∃ v, v = ((((w5.setCell ⟨g10, 0, none⟩ (.string s0)).setCell ⟨g10, 1, none⟩ (.int .u16 s1')).setCell ⟨g10, 2, none⟩ (.int .u32 s2')).setCell ⟨g10, 3, none⟩ (.string s3)) := ⟨_, rfl⟩
  rw [← hw6] at hp9 hp10 hbp ⊢
  have hp10 : Cs w6 g10 [.string s0, .int .u16 s1', .int .u32 s2', .string s3] := hp10
  have HR9 := Lib.hid hp9
  have HS10 := Lib.hid hp10
  have HR6 := Lib.hid ((HR3.out.keep hbp (Nat.le_refl _)).recs HN.out)
  have HZ6 := Lib.hid (HZ.out.below hbp)
  have HB6 := Lib.hid (below_trans HB3.out HB3.out.size hbp)
  have HR6O := Lib.hid (HR3.out.keep hbp (Nat.le_refl _))
  clear m0 m1 m2 m3 f0 f1 f2 f3 hw6 hq9 hq10 hbq hp9 hp10 hbp hne hne' hB9 hB10 HR3 HZ HB3 H1 H2 HW HG HOA HOB HV RC RS x1 x3 HBW
  -- the first loop: is the record there?
  have hbeq := fun x w => rec_eql x (r0, r1, r2, r3) w
  unfold recV at hbeq
  simp only at hbeq
  go_wp2_with fail
  go_loopw [11, 34] (fun v i wr => ∃ k : Nat, k ≤ N ∧ i = .int .i64 k ∧ v = .bool (hasE (rs.take k) (r0, r1, r2, r3)) ∧ Hid (Below w6.heap.size w6 wr)) (fun _ i _ => N - (intOf i).toNat)
  case atStart => exact ⟨0, Nat.zero_le _, rfl, rfl, Lib.hid (Below.refl _ _)⟩
  case round =>
    obtain ⟨k, hk, rfl, rfl, HB⟩ := hrel
    by_cases hlt : k < N
    · have hlt' : (k : Int) < N := by omega
      obtain ⟨q, hq⟩ : ∃ q, rs[k]? = some q := ⟨_, List.getElem?_eq_getElem (by rw [HN.out]; exact hlt)⟩
      obtain ⟨bb, off, rfl, hbb, y0, y1, y2, y3⟩ := (HR6.out.below HB.out) k _ hq
      have HNX := Lib.hid (hasE_next (s := (r0, r1, r2, r3)) hq)
      have hbq := fun w => hbeq q w
      clear hbeq
      obtain ⟨e0, he0⟩ : ∃ e, eqB q (r0, r1, r2, r3) = e := ⟨_, rfl⟩
      obtain ⟨e1, he1⟩ : ∃ e, hasE (rs.take k) (r0, r1, r2, r3) = e := ⟨_, rfl⟩
      rw [he0] at HNX hbq
      rw [he1] at HNX ⊢
      clear he0 he1 hq
      cases e1 with
      | true =>
        go_wp2_with fail
        go_round
        case rel => exact ⟨k + 1, by omega, by go_num, by rw [HNX.out]; rfl, Lib.hid (HB.out.alloc HB.out.size _)⟩
        case measure => simp [intOf]; omega
      | false =>
        have hcA := (HR9.out.below HB.out).alloc (.cells #[.string q.1, .int .u16 q.2.1, .int .u32 q.2.2.1, .string q.2.2.2] 36)
        have p0 := hcA.get 0 _
        have p1 := hcA.get 1 _
        have p2 := hcA.get 2 _
        have p3 := hcA.get 3 _
        clear hcA
        go_wp2_with fail
        go_round
        case rel => exact ⟨k + 1, by omega, by go_num, by rw [HNX.out]; rfl, Lib.hid (HB.out.alloc HB.out.size _)⟩
        case measure => simp [intOf]; omega
    · have hlt' : ¬ (k : Int) < N := by omega
      have htk : rs.take k = rs := List.take_of_length_le (by rw [HN.out]; omega)
      rw [htk]
      have HR7 := Lib.hid (HR6O.out.keep HB.out (Nat.le_refl _))
      have HZ7 := Lib.hid (HZ6.out.below HB.out)
      have HC9 := Lib.hid (HR9.out.below HB.out)
      have HC10 := Lib.hid (HS10.out.below HB.out)
      have HB7 := Lib.hid (below_trans HB6.out HB6.out.size HB.out)
      clear htk HR6 HZ6 HR9 HS10 HB6 HB HR6O hbeq
      cases eh : hasE rs (r0, r1, r2, r3) with
      | true =>

        have hin : (r0, r1, r2, r3) ∈ z := (HZI.out _).2 ((hasE_iff _ _).1 eh)
        have INS := Lib.hid (fun w h => insert_old A2 M c2 z (r0, r1, r2, r3) w h HM.out (by unfold maxLen; omega) hin)
        have HAS := Lib.hid (fun w h => has_any A2 M c2 z (r0, r1, r2, r3) w h HM.out (by unfold maxLen; omega))
        rw [(hasB_iff _ _).2 hin] at HAS
        unfold recV errV at INS
        unfold recV at HAS
        simp only at INS HAS
        clear hin eh
        have p0 := HC9.out.get 0 _
        have p1 := HC9.out.get 1 _
        have p2 := HC9.out.get 2 _
        have p3 := HC9.out.get 3 _
        go_wp2_with fail
        refine (INS.out _ (HZ7.out.sl.recs (Nat.le_refl _) HM.out)).mono ?_
        rintro e w8 ⟨rfl, hb8⟩
        clear p0 p1 p2 p3
        have p0 := (HC9.out.below hb8).get 0 _
        have p1 := (HC9.out.below hb8).get 1 _
        have p2 := (HC9.out.below hb8).get 2 _
        have p3 := (HC9.out.below hb8).get 3 _
        have HB8 := Lib.hid hb8
        clear hb8
        go_wp2_with fail
        refine (HAS.out _ ((HZ7.out.below HB8.out).sl.recs (Nat.le_refl _) HM.out)).mono ?_
        rintro e w9 ⟨rfl, hb9⟩
        clear p0 p1 p2 p3
        have HB9 := Lib.hid (below_trans HB8.out HB8.out.size hb9)
        have NE := Lib.hid (number_errno 7 w9 (HET.out.keep (Nat.le_refl _) (below_trans HB7.out HB7.out.size HB9.out)))
        clear hb9
        go_wp2_with fail
        refine NE.out.mono ?_
        rintro e wa ⟨rfl, hba⟩
        have HBA := Lib.hid (below_trans HB9.out HB9.out.size hba)
        clear hba NE
        go_upto_region 15 with fail
        refine wp_region_goesG data_follows (fun x => by simp [putsF, Act.put]; rfl) wa.heap.size wa
          [isV (.bool true), isV (.bool false), isV (.bool false), isV undef, isV undef, isV undef, isV undef, isV undef, isV undef, isV undef, isV undef, isV undef, isV undef, isV undef, isV undef, isV undef, isV (.bool false)]
          (by kernel_rfl) (by kernel_rfl) (by kernel_rfl) rfl ?_ (Below.refl _ _) ?_ ?_
        · repeat (first | exact trivial | refine ⟨isV_stays _, ?_⟩)
        · refine ⟨?_, ?_, ?_, ?_, ?_, ?_, ?_, ?_, ?_, ?_, ?_, ?_, ?_, ?_, ?_, ?_, ?_, trivial⟩
          all_goals
            intro x wx hR hd
            simp at hd
            first
            | (refine ⟨fun hX => ?_, fun _ => rfl⟩; simp [hd] at hX; done)
            | (refine ⟨fun hX => ?_, fun _ => rfl⟩; simp [hd, undef] at hX; done)
            | (refine ⟨fun _ => ?_, fun hX => ?_⟩; rotate_left; (focus simp at hX); (try simp [hd]); go_simp; exact next_same _ rfl rfl hR)
        intro x wx hR hx
        simp [AllWords] at hx
        have h16 : x 16 = .bool false := by simp [hx]
        rw [h16]
        clear hx h16
        have HBX := Lib.hid (below_trans HBA.out HBA.out.size hR)
        clear hR
        have HRT := Lib.hid (HR7.out.keep HBX.out (Nat.le_refl _))
        have HZT := Lib.hid (HZ7.out.below HBX.out)
        have HCT := Lib.hid (HC10.out.below HBX.out)
        have HBT := Lib.hid (below_trans HB7.out HB7.out.size HBX.out)
        clear HR7 HZ7 HC9 HC10 HB7 HB8 HB9 HBA HBX INS HAS

        -- the record is taken out
        have DEL := Lib.hid (fun w h => delete_any A2 M c2 z (s0, s1', s2', s3) w h HZC.out.2.1 (by omega) HZR.out)
        unfold recV at DEL
        simp only at DEL
        have c0 := HCT.out.get 0 _
        have c1' := HCT.out.get 1 _
        have c2' := HCT.out.get 2 _
        have c3 := HCT.out.get 3 _
        go_wp2_with fail
        refine (DEL.out _ HZT.out).mono ?_
        rintro e wd ⟨AD, nD, cD, fD, rfl, hbD, hD⟩
        have HRD := Lib.hid (HRT.out.keep hbD (Nat.le_refl _))
        have HZD := Lib.hid (HZT.out.below hbD)
        have HCD := Lib.hid (HCT.out.below hbD)
        have HBD := Lib.hid (below_trans HBT.out HBT.out.size hbD)
        have HDD := Lib.hid hD
        clear c0 c1' c2' c3 hbD hD HRT HZT HCT HBT DEL
        have hbeq := fun x w => rec_eql x (s0, s1', s2', s3) w
        unfold recV at hbeq
        simp only at hbeq
        go_wp2_with fail
        go_loopw [18, 19, 96] (fun v is i wr => ∃ k : Nat, k ≤ M ∧ i = .int .i64 k ∧ is = .bool (hasE (z.take k) (s0, s1', s2', s3)) ∧ Hid (OBM 4 wd.heap.size wd v (lessR (z.take k) (s0, s1', s2', s3)).length (flatR (lessR (z.take k) (s0, s1', s2', s3))) wr)) (fun _ _ i _ => M - (intOf i).toNat)
        case atStart => exact ⟨0, Nat.zero_le _, rfl, rfl, Lib.hid (by simpa [lessR_nil, flatR] using OBM.start (sz := 4) wd)⟩
        case round =>
          obtain ⟨k, hk, rfl, rfl, HB⟩ := hrel
          by_cases hlt : k < M
          · have hlt' : (k : Int) < M := by omega
            obtain ⟨q, hq⟩ : ∃ q, z[k]? = some q := ⟨_, List.getElem?_eq_getElem (by rw [HM.out]; exact hlt)⟩
            obtain ⟨bb, off, rfl, hbb, y0, y1, y2, y3⟩ := ((HZD.out.below HB.out.bel).sl.recs (Nat.le_refl _) HM.out) k _ hq
            have HNX := Lib.hid (hasE_next (s := (s0, s1', s2', s3)) hq)
            have hbq := fun w => hbeq q w
            clear hbeq
            obtain ⟨e1, he1⟩ : ∃ e, hasE (z.take k) (s0, s1', s2', s3) = e := ⟨_, rfl⟩
            rw [he1] at HNX ⊢
            clear he1
            have hcA := (HCD.out.below HB.out.bel).alloc (.cells #[.string q.1, .int .u16 q.2.1, .int .u32 q.2.2.1, .string q.2.2.2] 36)
            have p0 := hcA.get 0 _
            have p1 := hcA.get 1 _
            have p2 := hcA.get 2 _
            have p3 := hcA.get 3 _
            clear hcA
            have HQ := Lib.hid hq
            clear hq
            cases e0 : eqB q (s0, s1', s2', s3) with
            | true =>
              rw [e0] at HNX hbq
              have HL := Lib.hid (lessR_yes HQ.out e0)
              clear e0
              go_wp2_with fail
              go_round
              case rel => exact ⟨k + 1, by omega, by go_num, by rw [HNX.out]; simp, Lib.hid (by rw [HL.out]; exact HB.out.alloc _)⟩
              case measure => simp [intOf]; omega
            | false =>
              rw [e0] at HNX hbq
              have HL := Lib.hid (lessR_no HQ.out e0)
              clear e0
              have HLE : Hid ((lessR (z.take k) (s0, s1', s2', s3)).length ≤ 40) := Lib.hid (by have := lessR_le (z.take k) (s0, s1', s2', s3); rw [List.length_take] at this; omega)
              have ho := Lib.hid ((HB.out.alloc (.cells #[.string q.1, .int .u16 q.2.1, .int .u32 q.2.2.1, .string q.2.2.2] 36)).alloc (.cells #[.string q.1, .int .u16 q.2.1, .int .u32 q.2.2.1, .string q.2.2.2] 36))
              have hS := Lib.hid (src_one' (w := wr.alloc (.cells #[.string q.1, .int .u16 q.2.1, .int .u32 q.2.2.1, .string q.2.2.2] 36)) Tryd.underlying28 q)
              have hz : (wr.alloc (.cells #[.string q.1, .int .u16 q.2.1, .int .u32 q.2.2.1, .string q.2.2.2] 36)).heap.size = wr.heap.size + 1 := by simp
              rw [hz] at hS
              clear hz
              go_wp2_with (at_builtin; go_loud (refine wpList_append_obm rfl _ _ 28 28 rfl 36 i0 _ 40 Tryd.underlying28 hi hz0 hz1 hz2 rfl ho.out rfl rfl hS.out rfl (by have := HLE.out; unfold maxLen; omega) (by have := HLE.out; omega) ?_))
              intro v' w' q1 q2 q3 q4
              clear q2 q3 q4
              have Q1 := Lib.hid q1
              clear q1
              go_wp2_with fail
              go_round
              case rel => exact ⟨k + 1, by omega, by go_num, by rw [HNX.out]; simp, Lib.hid (by rw [HL.out, flatR_snoc, List.length_append]; exact Q1.out)⟩
              case measure => simp [intOf]; omega
          · have hlt' : ¬ (k : Int) < M := by omega
            have htk : z.take k = z := List.take_of_length_le (by rw [HM.out]; omega)
            rw [htk] at HB ⊢
            have HZE := Lib.hid (HZD.out.below HB.out.bel)
            have HRE := Lib.hid (HRD.out.keep HB.out.bel (Nat.le_refl _))
            have HBE := Lib.hid (below_trans HBD.out HBD.out.size HB.out.bel)
            have hle := lessR_le z (s0, s1', s2', s3)
            rw [HM.out] at hle
            obtain ⟨L, hL⟩ : ∃ L, (lessR z (s0, s1', s2', s3)).length = L := ⟨_, rfl⟩
            have HLL := Lib.hid hL
            rw [hL] at HB hle
            rcases HDD.out with ⟨hh, rfl, hnd, hod⟩ | ⟨hh, rfl, rfl⟩
            · rw [hL] at hnd
              subst hnd
              have HDO := Lib.hid (hod.keep HB.out.bel (Nat.le_refl _))
              rw [hh]
              obtain ⟨AR, cR, rfl, -, -, -⟩ := HB.out.slice
              have HBO := HB
              clear hh hod htk HDD hL HB
              have SM := Lib.hid (same_recs AD AR cD cR (lessR z (s0, s1', s2', s3)) (lessR z (s0, s1', s2', s3)) wr (HDO.out.recs HLL.out) (HBO.out.recs HLL.out) (by rw [HLL.out]; unfold maxLen; omega) (by rw [HLL.out]; unfold maxLen; omega))
              rw [HLL.out] at SM
              simp only [decide_true] at SM
              go_wp2_with fail
              refine SM.out.mono ?_
              rintro e we ⟨rfl, hbe⟩
              have HRF := Lib.hid (HRE.out.keep hbe (Nat.le_refl _))
              have HZF := Lib.hid (HZE.out.below hbe)
              have HBF := Lib.hid (below_trans HBE.out HBE.out.size hbe)
              clear hbe
              go_wp2_with fail
              refine (sorted_any A1 N c1 rs we (HRF.out.recs HN.out) HN.out (by omega)).mono ?_
              rintro e wf ⟨vf, rfl, hof⟩
              rw [HSZ.out, HM.out] at hof
              obtain ⟨AF, cF, rfl, -, -, -⟩ := hof.slice
              have HOF := Lib.hid hof
              have HZG := Lib.hid (HZF.out.below hof.bel)
              have HBG := Lib.hid (below_trans HBF.out HBF.out.size hof.bel)
              clear hof
              have SZ := Lib.hid (same_recs A2 AF c2 cF z z wf (HZG.out.sl.recs (Nat.le_refl _) HM.out) (HOF.out.recs HM.out) (by rw [HM.out]; unfold maxLen; omega) (by rw [HM.out]; unfold maxLen; omega))
              rw [HM.out] at SZ
              simp only [decide_true] at SZ
              go_wp2_with fail
              refine SZ.out.mono ?_
              rintro e wg ⟨rfl, hbg⟩
              have HBH := Lib.hid (below_trans HBG.out HBG.out.size hbg)
              clear hbg
              go_wp2_with fail
              go_ret
              exact ⟨rfl, HBH.out⟩
            · rw [hh]
              have NE := Lib.hid (number_errno 6 wr (HET.out.keep (Nat.le_refl _) HBE.out))
              unfold errV
              have h0 : ((0 : Nat) : Int) = 0 := rfl
              clear hh htk HDD hL
              go_wp2_with fail
              refine NE.out.mono ?_
              rintro e we ⟨rfl, hbe⟩
              have HBF := Lib.hid (below_trans HBE.out HBE.out.size hbe)
              clear hbe
              go_wp2_with fail
              go_ret
              exact ⟨rfl, HBF.out⟩
      | false =>

        have hout : (r0, r1, r2, r3) ∉ z := fun h => hasE_false.1 eh ((HZI.out _).1 h)
        have INS := Lib.hid (fun w h => insert_new A2 M c2 z (r0, r1, r2, r3) w h HZC.out.1 HZC.out.2.1 HZC.out.2.2 (by omega) hout)
        have HAS := Lib.hid (fun w h => has_any A2 M c2 z (r0, r1, r2, r3) w h HM.out (by unfold maxLen; omega))
        rw [hasB_false.2 hout] at HAS
        have HSN : Hid (sortedR (rs ++ [(r0, r1, r2, r3)]) = insR z (r0, r1, r2, r3)) := Lib.hid (by rw [HZS.out, stepS_new hout])
        have HIL : Hid ((insR z (r0, r1, r2, r3)).length = M + 1) := Lib.hid (by rw [insR_len, HM.out])
        unfold recV at INS HAS
        simp only at INS HAS
        clear hout eh
        have p0 := HC9.out.get 0 _
        have p1 := HC9.out.get 1 _
        have p2 := HC9.out.get 2 _
        have p3 := HC9.out.get 3 _
        go_wp2_with fail
        refine (INS.out _ HZ7.out).mono ?_
        rintro e w8 ⟨v8, rfl, ho8⟩
        obtain ⟨A8, c8, rfl, -, -, -⟩ := ho8.slice
        clear p0 p1 p2 p3
        have p0 := (HC9.out.below ho8.bel).get 0 _
        have p1 := (HC9.out.below ho8.bel).get 1 _
        have p2 := (HC9.out.below ho8.bel).get 2 _
        have p3 := (HC9.out.below ho8.bel).get 3 _
        have HIO := Lib.hid ho8
        have HB8 := Lib.hid ho8.bel
        clear ho8
        go_wp2_with fail
        refine (HAS.out _ ((HZ7.out.below HB8.out).sl.recs (Nat.le_refl _) HM.out)).mono ?_
        rintro e w9 ⟨rfl, hb9⟩
        clear p0 p1 p2 p3
        have HIO9 := Lib.hid (HIO.out.keep hb9 (Nat.le_refl _))
        have HB9 := Lib.hid (below_trans HB8.out HB8.out.size hb9)
        clear hb9
        go_wp2_with fail
        refine (number_none w9).mono ?_
        rintro e wa ⟨rfl, hba⟩
        have HIOA := Lib.hid (HIO9.out.keep hba (Nat.le_refl _))
        have HBA := Lib.hid (below_trans HB9.out HB9.out.size hba)
        have HC9A := Lib.hid (HC9.out.below HBA.out)
        have HRA := Lib.hid (HR7.out.keep HBA.out (Nat.le_refl _))
        clear hba HIO HIO9 HB9 HB8
        go_upto_region 15 with fail
        refine wp_region_exp data_follows (fun x => by simp [putsF, Act.put]; rfl) (fun v => Below wa.heap.size wa v)
          [isX (.bool false), isX (.bool true), isX (.bool true), isX .nilIface, isX (.bool false), isX (.bool false), isX (.slice A8 (M + 1) c8), isX (.slice A1 N c1), until_ 11 (ownW 4 wa.heap.size wa N (flatR rs)), isX (.agg #[.string r0, .int .u16 r1, .int .u32 r2, .string r3]),
           until_ 11 (litW 1 [.string r0, .int .u16 r1, .int .u32 r2, .string r3]), always (ownW 4 wa.heap.size wa (N + 1) (flatR (rs ++ [(r0, r1, r2, r3)]))), always (ownW 4 wa.heap.size wa (M + 1) (flatR (insR z (r0, r1, r2, r3)))), isX (.bool true), isX (.bool false), isX (.bool false), isX (.bool false)]
          [11] (by kernel_rfl) (by kernel_rfl) (by kernel_rfl) rfl ?_ (Below.refl _ _).drew ?_ ?_ ?_
        · repeat (first | exact trivial | refine ⟨by first | exact isX_stays _ | exact until_stays (ownW_stays _ _ _ _ _) | exact until_stays (litW_stays _ _) | exact always_stays (ownW_stays _ _ _ _ _), ?_⟩)
        · refine ⟨?_, ?_, ?_, ?_, ?_, ?_, ?_, ?_, ?_, ?_, ?_, skipped rfl, ?_, ?_, ?_, ?_, ?_, trivial⟩
          all_goals
            intro _ d x wx hR hdi hsrc hd
            simp [wordX, isX] at hd
            refine ⟨fun _ => ?_, fun hX => ?_⟩
            rotate_left
            · simp [hd] at hX
          · simp at hd ⊢; go_simp; exact nextX _ rfl rfl hR (Below.refl _ _)
          · simp at hd ⊢; go_simp; exact nextX _ rfl rfl hR (Below.refl _ _)
          · simp at hd ⊢; go_simp; exact nextX _ rfl rfl hR (Below.refl _ _)
          · simp at hd ⊢; go_simp; exact nextX _ rfl rfl hR (Below.refl _ _)
          · obtain ⟨hd0, hd1⟩ := hd; go_simp; exact nextX _ rfl rfl hR (Below.refl _ _)
          · obtain ⟨hd0, hd1⟩ := hd; go_simp; exact nextX _ rfl rfl hR (Below.refl _ _)
          · simp at hd ⊢; go_simp; exact nextX _ rfl rfl hR (Below.refl _ _)
          · simp at hd ⊢; go_simp; exact nextX _ rfl rfl hR (Below.refl _ _)
          · obtain ⟨hd0, hd1⟩ := hd
            refine oper_append_obm _ _ _ _ rfl 36 i0 _ 40 Tryd.underlying28 hi hz0 hz1 hz2 rfl (OBM.start (sz := 4) wx) rfl (by exact hd0) ((HRA.out.keep hR (Nat.le_refl _)).sl.srcM Tryd.underlying28 ?_ (flatR_one _)) (HRA.out.len) (by unfold maxLen; omega) (by omega) ?_
            · rintro rfl
              rcases HRA.out.own with ⟨hv, h0⟩ | ⟨g, cap, hv, _⟩
              · exact h0
              · injection hv with hv; cases hv
            · intro v' w' q1 q2 q3 q4
              have q1' : OBM 4 wa.heap.size wa v' N (flatR rs) w' := by have := q1.out hR.size hR; simpa using this
              exact nextX v' rfl (until_of q1') q1'.bel q1.bel
          · have hc := HC9A.out.below hR
            have u0 := hc.get 0 _
            have u1 := hc.get 1 _
            have u2 := hc.get 2 _
            have u3 := hc.get 3 _
            clear hc
            simp at hd ⊢; go_simp; exact nextX _ rfl rfl hR (Below.refl _ _)
          · obtain ⟨hd0, hd1⟩ := hd
            go_simp; exact nextX _ rfl (until_of (litW_new 1 _ _ _ _)) (hR.alloc hR.size _) ((Below.refl _ _).alloc (Nat.le_refl _) _)
          · obtain ⟨hd0, hd1⟩ := hd
            have ho := hd0
            unfold always ownW at ho
            obtain ⟨AX, cX, hx, _, _, hnX⟩ := ho.slice
            rw [hx] at ho
            dsimp only
            rw [hx]
            have hlen : (rs ++ [(r0, r1, r2, r3)]).length = N + 1 := by rw [List.length_append, HN.out]; rfl
            go_simp
            go_at_call 6
            refine (sorted_any AX (N + 1) cX _ wx (ho.recs hlen) hlen (by omega)).mono ?_
            rintro e wy ⟨vy, rfl, hoy⟩
            rw [HSN.out, HIL.out] at hoy
            exact nextX _ rfl (by exact hoy.out hR.size hR) (below_trans hR hR.size hoy.bel) hoy.bel
          · obtain ⟨hd0, hd1, hd2⟩ := hd
            have ho := hd1
            unfold always ownW at ho
            obtain ⟨AX, cX, hx, _, _, hnX⟩ := ho.slice
            rw [hx] at ho
            have hd0 : x 6 = .slice A8 (M + 1) c8 := hd0
            dsimp only
            rw [hx, hd0]
            have hI := (HIOA.out.keep hR (Nat.le_refl _)).recs HIL.out
            have SM := same_recs A8 AX c8 cX _ _ wx hI (ho.recs HIL.out) (by rw [HIL.out]; unfold maxLen; omega) (by rw [HIL.out]; unfold maxLen; omega)
            rw [HIL.out] at SM
            simp only [decide_true] at SM
            go_simp
            go_at_call 11
            refine SM.mono ?_
            rintro e wy ⟨rfl, hby⟩
            exact nextX _ rfl rfl (below_trans hR hR.size hby) hby
          · obtain ⟨hd0, hd1⟩ := hd; go_simp; exact nextX _ rfl rfl hR (Below.refl _ _)
          · obtain ⟨hd0, hd1, hd2⟩ := hd; go_simp; exact nextX _ rfl rfl hR (Below.refl _ _)
          · obtain ⟨hd0, hd1⟩ := hd; go_simp; exact nextX _ rfl rfl hR (Below.refl _ _)
        · refine ⟨unskipped rfl, unskipped rfl, unskipped rfl, unskipped rfl, unskipped rfl, unskipped rfl, unskipped rfl, unskipped rfl, unskipped rfl, unskipped rfl, unskipped rfl, ?_, unskipped rfl, unskipped rfl, unskipped rfl, unskipped rfl, unskipped rfl, trivial⟩
          intro _ d x wx hR hdi hcl hsrc hd
          have d5 : d 5 = true := hsrc.reach (K := 11) hcl rfl 20 5 (by decide) (by kernel_rfl)
          have d8 : d 8 = true := hsrc.reach (K := 11) hcl rfl 20 8 (by decide) (by kernel_rfl)
          have d10 : d 10 = true := hsrc.reach (K := 11) hcl rfl 20 10 (by decide) (by kernel_rfl)
          simp only [DoneX] at hd
          have h5 : x 5 = .bool false := hd.2.2.2.2.2.1 d5
          have ho8 := hd.2.2.2.2.2.2.2.2.1 d8 hdi
          obtain ⟨g, hx10, hc10⟩ := hd.2.2.2.2.2.2.2.2.2.2.1 d10 hdi
          unfold ownW at ho8
          refine ⟨fun _ => ?_, fun hX => by simp [h5] at hX⟩
          dsimp only
          rw [hx10]
          refine oper_append_obm _ _ _ _ rfl 36 i0 _ 40 Tryd.underlying28 hi hz0 hz1 hz2 rfl ho8 rfl rfl
            (Src.ofSlice _ Tryd.underlying28 ⟨g, 0, none⟩ 1 1 (recCells (r0, r1, r2, r3)) rfl (fun j u hu => by rw [Addr.add_lit, Nat.zero_add]; exact hc10.get j u hu) (by intro u hu; unfold recCells at hu; simp at hu; rcases hu with rfl | rfl | rfl | rfl <;> rfl)) rfl (by unfold maxLen; omega) (by omega) ?_
          intro v' w' q1 q2 q3 q4
          rw [← flatR_snoc] at q1
          refine nextK v' rfl q1 q1.bel ?_
          refine ⟨fun _ _ h => h, fun _ _ h => h, fun _ _ h => h, fun _ _ h => h, fun _ _ h => h, fun _ _ h => h, fun _ _ h => h, fun _ _ h => h, fun _ _ _ => until_self, fun _ _ h => h, fun _ _ _ => until_self, fun h => absurd rfl h, ?_, fun _ _ h => h, fun _ _ h => h, fun _ _ h => h, fun _ _ h => h, trivial⟩
          intro _ h12 _
          have := hcl.reach 20 11 12 (by kernel_rfl) h12
          rw [hdi] at this
          cases this
        intro x wx hR hx
        obtain ⟨-, -, -, -, -, -, -, -, -, -, -, -, -, -, -, -, h16, -⟩ := hx
        have h16 : x 16 = .bool false := h16
        rw [h16]
        clear h16
        have HBX := Lib.hid (below_trans HBA.out HBA.out.size hR)
        clear hR
        have HRT := Lib.hid (HR7.out.keep HBX.out (Nat.le_refl _))
        have HZT := Lib.hid (HZ7.out.below HBX.out)
        have HCT := Lib.hid (HC10.out.below HBX.out)
        have HBT := Lib.hid (below_trans HB7.out HB7.out.size HBX.out)
        clear HR7 HZ7 HC9 HC10 HB7 HBA HBX INS HAS HIOA HRA HC9A HSN HIL

        -- the record is taken out
        have DEL := Lib.hid (fun w h => delete_any A2 M c2 z (s0, s1', s2', s3) w h HZC.out.2.1 (by omega) HZR.out)
        unfold recV at DEL
        simp only at DEL
        have c0 := HCT.out.get 0 _
        have c1' := HCT.out.get 1 _
        have c2' := HCT.out.get 2 _
        have c3 := HCT.out.get 3 _
        go_wp2_with fail
        refine (DEL.out _ HZT.out).mono ?_
        rintro e wd ⟨AD, nD, cD, fD, rfl, hbD, hD⟩
        have HRD := Lib.hid (HRT.out.keep hbD (Nat.le_refl _))
        have HZD := Lib.hid (HZT.out.below hbD)
        have HCD := Lib.hid (HCT.out.below hbD)
        have HBD := Lib.hid (below_trans HBT.out HBT.out.size hbD)
        have HDD := Lib.hid hD
        clear c0 c1' c2' c3 hbD hD HRT HZT HCT HBT DEL
        have hbeq := fun x w => rec_eql x (s0, s1', s2', s3) w
        unfold recV at hbeq
        simp only at hbeq
        go_wp2_with fail
        go_loopw [18, 19, 96] (fun v is i wr => ∃ k : Nat, k ≤ M ∧ i = .int .i64 k ∧ is = .bool (hasE (z.take k) (s0, s1', s2', s3)) ∧ Hid (OBM 4 wd.heap.size wd v (lessR (z.take k) (s0, s1', s2', s3)).length (flatR (lessR (z.take k) (s0, s1', s2', s3))) wr)) (fun _ _ i _ => M - (intOf i).toNat)
        case atStart => exact ⟨0, Nat.zero_le _, rfl, rfl, Lib.hid (by simpa [lessR_nil, flatR] using OBM.start (sz := 4) wd)⟩
        case round =>
          obtain ⟨k, hk, rfl, rfl, HB⟩ := hrel
          by_cases hlt : k < M
          · have hlt' : (k : Int) < M := by omega
            obtain ⟨q, hq⟩ : ∃ q, z[k]? = some q := ⟨_, List.getElem?_eq_getElem (by rw [HM.out]; exact hlt)⟩
            obtain ⟨bb, off, rfl, hbb, y0, y1, y2, y3⟩ := ((HZD.out.below HB.out.bel).sl.recs (Nat.le_refl _) HM.out) k _ hq
            have HNX := Lib.hid (hasE_next (s := (s0, s1', s2', s3)) hq)
            have hbq := fun w => hbeq q w
            clear hbeq
            obtain ⟨e1, he1⟩ : ∃ e, hasE (z.take k) (s0, s1', s2', s3) = e := ⟨_, rfl⟩
            rw [he1] at HNX ⊢
            clear he1
            have hcA := (HCD.out.below HB.out.bel).alloc (.cells #[.string q.1, .int .u16 q.2.1, .int .u32 q.2.2.1, .string q.2.2.2] 36)
            have p0 := hcA.get 0 _
            have p1 := hcA.get 1 _
            have p2 := hcA.get 2 _
            have p3 := hcA.get 3 _
            clear hcA
            have HQ := Lib.hid hq
            clear hq
            cases e0 : eqB q (s0, s1', s2', s3) with
            | true =>
              rw [e0] at HNX hbq
              have HL := Lib.hid (lessR_yes HQ.out e0)
              clear e0
              go_wp2_with fail
              go_round
              case rel => exact ⟨k + 1, by omega, by go_num, by rw [HNX.out]; simp, Lib.hid (by rw [HL.out]; exact HB.out.alloc _)⟩
              case measure => simp [intOf]; omega
            | false =>
              rw [e0] at HNX hbq
              have HL := Lib.hid (lessR_no HQ.out e0)
              clear e0
              have HLE : Hid ((lessR (z.take k) (s0, s1', s2', s3)).length ≤ 40) := Lib.hid (by have := lessR_le (z.take k) (s0, s1', s2', s3); rw [List.length_take] at this; omega)
              have ho := Lib.hid ((HB.out.alloc (.cells #[.string q.1, .int .u16 q.2.1, .int .u32 q.2.2.1, .string q.2.2.2] 36)).alloc (.cells #[.string q.1, .int .u16 q.2.1, .int .u32 q.2.2.1, .string q.2.2.2] 36))
              have hS := Lib.hid (src_one' (w := wr.alloc (.cells #[.string q.1, .int .u16 q.2.1, .int .u32 q.2.2.1, .string q.2.2.2] 36)) Tryd.underlying28 q)
              have hz : (wr.alloc (.cells #[.string q.1, .int .u16 q.2.1, .int .u32 q.2.2.1, .string q.2.2.2] 36)).heap.size = wr.heap.size + 1 := by simp
              rw [hz] at hS
              clear hz
              go_wp2_with (at_builtin; go_loud (refine wpList_append_obm rfl _ _ 28 28 rfl 36 i0 _ 40 Tryd.underlying28 hi hz0 hz1 hz2 rfl ho.out rfl rfl hS.out rfl (by have := HLE.out; unfold maxLen; omega) (by have := HLE.out; omega) ?_))
              intro v' w' q1 q2 q3 q4
              clear q2 q3 q4
              have Q1 := Lib.hid q1
              clear q1
              go_wp2_with fail
              go_round
              case rel => exact ⟨k + 1, by omega, by go_num, by rw [HNX.out]; simp, Lib.hid (by rw [HL.out, flatR_snoc, List.length_append]; exact Q1.out)⟩
              case measure => simp [intOf]; omega
          · have hlt' : ¬ (k : Int) < M := by omega
            have htk : z.take k = z := List.take_of_length_le (by rw [HM.out]; omega)
            rw [htk] at HB ⊢
            have HZE := Lib.hid (HZD.out.below HB.out.bel)
            have HRE := Lib.hid (HRD.out.keep HB.out.bel (Nat.le_refl _))
            have HBE := Lib.hid (below_trans HBD.out HBD.out.size HB.out.bel)
            have hle := lessR_le z (s0, s1', s2', s3)
            rw [HM.out] at hle
            obtain ⟨L, hL⟩ : ∃ L, (lessR z (s0, s1', s2', s3)).length = L := ⟨_, rfl⟩
            have HLL := Lib.hid hL
            rw [hL] at HB hle
            rcases HDD.out with ⟨hh, rfl, hnd, hod⟩ | ⟨hh, rfl, rfl⟩
            · rw [hL] at hnd
              subst hnd
              have HDO := Lib.hid (hod.keep HB.out.bel (Nat.le_refl _))
              rw [hh]
              obtain ⟨AR, cR, rfl, -, -, -⟩ := HB.out.slice
              have HBO := HB
              clear hh hod htk HDD hL HB
              have SM := Lib.hid (same_recs AD AR cD cR (lessR z (s0, s1', s2', s3)) (lessR z (s0, s1', s2', s3)) wr (HDO.out.recs HLL.out) (HBO.out.recs HLL.out) (by rw [HLL.out]; unfold maxLen; omega) (by rw [HLL.out]; unfold maxLen; omega))
              rw [HLL.out] at SM
              simp only [decide_true] at SM
              go_wp2_with fail
              refine SM.out.mono ?_
              rintro e we ⟨rfl, hbe⟩
              have HRF := Lib.hid (HRE.out.keep hbe (Nat.le_refl _))
              have HZF := Lib.hid (HZE.out.below hbe)
              have HBF := Lib.hid (below_trans HBE.out HBE.out.size hbe)
              clear hbe
              go_wp2_with fail
              refine (sorted_any A1 N c1 rs we (HRF.out.recs HN.out) HN.out (by omega)).mono ?_
              rintro e wf ⟨vf, rfl, hof⟩
              rw [HSZ.out, HM.out] at hof
              obtain ⟨AF, cF, rfl, -, -, -⟩ := hof.slice
              have HOF := Lib.hid hof
              have HZG := Lib.hid (HZF.out.below hof.bel)
              have HBG := Lib.hid (below_trans HBF.out HBF.out.size hof.bel)
              clear hof
              have SZ := Lib.hid (same_recs A2 AF c2 cF z z wf (HZG.out.sl.recs (Nat.le_refl _) HM.out) (HOF.out.recs HM.out) (by rw [HM.out]; unfold maxLen; omega) (by rw [HM.out]; unfold maxLen; omega))
              rw [HM.out] at SZ
              simp only [decide_true] at SZ
              go_wp2_with fail
              refine SZ.out.mono ?_
              rintro e wg ⟨rfl, hbg⟩
              have HBH := Lib.hid (below_trans HBG.out HBG.out.size hbg)
              clear hbg
              go_wp2_with fail
              go_ret
              exact ⟨rfl, HBH.out⟩
            · rw [hh]
              have NE := Lib.hid (number_errno 6 wr (HET.out.keep (Nat.le_refl _) HBE.out))
              unfold errV
              have h0 : ((0 : Nat) : Int) = 0 := rfl
              clear hh htk HDD hL
              go_wp2_with fail
              refine NE.out.mono ?_
              rintro e we ⟨rfl, hbe⟩
              have HBF := Lib.hid (below_trans HBE.out HBE.out.size hbe)
              clear hbe
              go_wp2_with fail
              go_ret
              exact ⟨rfl, HBF.out⟩
theorem act_of (w : World) (A1 : Option Addr) (n1 c1 : Nat) (z1 : List Int) (S1 : SlView w A1 n1 c1 (z1.map (Value.int .u8))) (hl1 : z1.length = n1) (hz1 : ∀ z ∈ z1, (Lit.int .u8 z).wf = true) (hc1 : c1 ≤ 140737488351232) (k : Int) (hk : (Lit.int .u8 k).wf = true) (t : Int) (ht : (Lit.int .u32 t).wf = true)
    (A2 : Option Addr) (n2 c2 : Nat) (z2 : List Int) (S2 : SlView w A2 n2 c2 (z2.map (Value.int .u8))) (hl2 : z2.length = n2) (hz2 : ∀ z ∈ z2, (Lit.int .u8 z).wf = true) (hc2 : c2 ≤ 140737488351232) (s : ByteArray) (hs : s.size ≤ 140737488351232) :
    ∃ a : ActT, actA a = .agg #[.slice A1 n1 c1, .int .u8 k, .int .u32 t, .slice A2 n2 c2, .string s] ∧ ActOk w a := by
  obtain ⟨l1, e1⟩ := bytes_of z1 hz1
  obtain ⟨l2, e2⟩ := bytes_of z2 hz2
  have h1 := S1.le
  have h2 := S2.le
  refine ⟨((A1, n1, c1, l1), k, t, (A2, n2, c2, l2), s), rfl, ⟨?_, ?_, u8_wf hk, u32_wf ht, ?_, ?_, ?_⟩⟩
  · have := S1.sl; rw [e1] at this; exact this
  · unfold maxLen; dsimp only; omega
  · have := S2.sl; rw [e2] at this; exact this
  · unfold maxLen; dsimp only; omega
  · unfold maxLen; dsimp only; omega
theorem zoneInsert_walk (w : World) (HE : Etype w) (A : Option Addr) (n c : Nat) (ds : List ActT) (hV : Acts5 w A n c ds)
    (A1 : Option Addr) (n1 c1 : Nat) (z1 : List Int) (S1 : SlView w A1 n1 c1 (z1.map (Value.int .u8))) (hl1 : z1.length = n1) (hz1 : ∀ z ∈ z1, (Lit.int .u8 z).wf = true) (hc1 : c1 ≤ 140737488351232) (k : Int) (hk : (Lit.int .u8 k).wf = true) (t : Int) (ht : (Lit.int .u32 t).wf = true)
    (A2 : Option Addr) (n2 c2 : Nat) (z2 : List Int) (S2 : SlView w A2 n2 c2 (z2.map (Value.int .u8))) (hl2 : z2.length = n2) (hz2 : ∀ z ∈ z2, (Lit.int .u8 z).wf = true) (hc2 : c2 ≤ 140737488351232) (s : ByteArray) (hs : s.size ≤ 140737488351232)
    (A3 : Option Addr) (n3 c3 : Nat) (z3 : List Int) (S3 : SlView w A3 n3 c3 (z3.map (Value.int .u8))) (hl3 : z3.length = n3) (hz3 : ∀ z ∈ z3, (Lit.int .u8 z).wf = true) (hc3 : c3 ≤ 140737488351232) (k' : Int) (hk' : (Lit.int .u8 k').wf = true) (t' : Int) (ht' : (Lit.int .u32 t').wf = true)
    (A4 : Option Addr) (n4 c4 : Nat) (z4 : List Int) (S4 : SlView w A4 n4 c4 (z4.map (Value.int .u8))) (hl4 : z4.length = n4) (hz4 : ∀ z ∈ z4, (Lit.int .u8 z).wf = true) (hc4 : c4 ≤ 140737488351232) (s' : ByteArray) (hs' : s'.size ≤ 140737488351232) :
    Calls Tryd.prog 3 #[.slice A n c, .agg #[.slice A1 n1 c1, .int .u8 k, .int .u32 t, .slice A2 n2 c2, .string s], .agg #[.slice A3 n3 c3, .int .u8 k', .int .u32 t', .slice A4 n4 c4, .string s']] w fun e w' => e = .returned (.bool true) ∧ Below w.heap.size w w' := by
  obtain ⟨a, ea, ha⟩ := act_of w A1 n1 c1 z1 S1 hl1 hz1 hc1 k hk t ht A2 n2 c2 z2 S2 hl2 hz2 hc2 s hs
  obtain ⟨b, eb, hb⟩ := act_of w A3 n3 c3 z3 S3 hl3 hz3 hc3 k' hk' t' ht' A4 n4 c4 z4 S4 hl4 hz4 hc4 s' hs'
  rw [← ea, ← eb]
  exact zoneInsert_core w HE A n c ds hV a b ha hb
end Go.Proofs.YtoacmdjbmbdjdaaDoor
