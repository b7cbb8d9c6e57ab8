/- The walk of PendingKeeps. -/
import Derived.Test.YtlmhmkpoaebokaaLawPendF
import Derived.Test.YtlmhmkpoaebokaaPendH
import Derived.Test.YtlmhmkpoaebokaaPendM
import Derived.Outline
namespace Go.Proofs.Ytlmhmkpoaebokaa
open Go.RowKit
set_option linter.unusedVariables false
set_option linter.unusedSimpArgs false
set_option maxRecDepth 20000
attribute [local simp] putsF isV wordOf Deps Region.binds Region.wanted Act.put wantedX isB
theorem ids_small {es : List EntT} {x : Int} (h : ∀ e ∈ es, 0 ≤ e.1 ∧ e.1 < 10) (hx : 10 ≤ x) : (es.any fun y => y.1 == x) = false := by
  rw [List.any_eq_false]
  intro e he
  have := h e he
  rw [beq_iff_eq]
  omega
set_option maxHeartbeats 6400000 in
theorem pendingKeeps_walk (w : World) (A : Option Addr) (n c : Nat) (ds : List DeedP) (S : DeedsP w A n c ds) (B : c ≤ 3518437208780) (x0 : Int) (h0 : (Lit.int .u8 x0).wf = true) (x1 : Int) (h1 : (Lit.int .u8 x1).wf = true)
    (A1 : Option Addr) (n1 c1 : Nat) (zs : List Int) (S1 : SlView w A1 n1 c1 (zs.map (Value.int .u8))) (hl1 : zs.length = n1) (hz1 : ∀ z ∈ zs, (Lit.int .u8 z).wf = true) (B1 : c1 ≤ 140737488351232) (x3 : Int) (h3 : (Lit.int .u8 x3).wf = true) (x4 : Int) (h4 : (Lit.int .i8 x4).wf = true) :
    Calls Try.prog 8 #[.slice A n c, .agg #[.int .u8 x0, .int .u8 x1, .slice A1 n1 c1, .int .u8 x3, .int .i8 x4]] w fun e w' => e = .returned (.bool true) ∧ Below w.heap.size w w' := by
  obtain ⟨l, hl⟩ := bytes_of zs hz1
  rw [hl] at S1
  have hdp : DpOk w (x0, x1, (A1, n1, c1, l), x3, x4) := ⟨u8_wf26 h0, u8_wf26 h1, S1.sl, S1.none_, S1.le, S1.max, u8_wf26 h3, i8_wf26 h4⟩
  have hle := S.le
  have hn : n ≤ 3518437208780 := by omega
  have hlen := S.len
  have HDP := Lib.hid hdp
  have HS := Lib.hid S
  have HL := Lib.hid hlen
  have HN := Lib.hid hn
  obtain ⟨i0, hi, hz0, hz1', hz2⟩ := info_parts4 ent_info
  clear S B S1 hl hl1 hz1 B1 h0 h1 h3 h4 hdp hle hlen hn
  have hB0 := (Below.refl w.heap.size w).alloc (Nat.le_refl _) (.cells #[.int .u8 x0, .int .u8 x1, .slice A1 n1 c1, .int .u8 x3, .int .i8 x4] 72)
  have hC0 := Cs.new w #[.int .u8 x0, .int .u8 x1, .slice A1 n1 c1, .int .u8 x3, .int .i8 x4] 72 [.int .u8 x0, .int .u8 x1, .slice A1 n1 c1, .int .u8 x3, .int .i8 x4]
  have H0 := Lib.hid (And.intro hB0 hC0)
  clear hB0 hC0
  go_enter Try.func8, Try.ntmps8
  go_upto_region 1 with fail
  generalize w.alloc (.cells #[.int .u8 x0, .int .u8 x1, .slice A1 n1 c1, .int .u8 x3, .int .i8 x4] 72) = w0 at *
  obtain ⟨gB, hgB⟩ : ∃ g, g = w.heap.size := ⟨_, rfl⟩
  rw [← hgB] at H0 ⊢
  have HGB := Lib.hid hgB
  clear hgB
  go_wp2_with fail
  refine (awake26_any _).mono ?_
  rintro e w1 ⟨rfl, hb1⟩
  have HB1 := Lib.hid (show Below w.heap.size w w1 by have := H0.out.1; rw [HGB.out] at this; exact below_trans this this.size hb1)
  have HC1 := Lib.hid (H0.out.2.below hb1)
  clear hb1 H0
  go_wp2_with fail
  go_loopw [5, 19] (fun v i wr => ∃ (k : Nat) (es : List EntT), k ≤ n ∧ i = .int .i64 k ∧ Hid (es.length = min k 10) ∧ Hid (∀ e ∈ es, 0 ≤ e.1 ∧ e.1 < 10) ∧ Hid (OBM 19 w1.heap.size w1 v es.length (flatE es) wr)) (fun _ i _ => n - (intOf i).toNat)
  case atStart => exact ⟨0, [], Nat.zero_le _, rfl, Lib.hid rfl, Lib.hid (by simp), Lib.hid (OBM.nil (Below.refl _ _) (Nat.le_refl _))⟩
  case round =>
    obtain ⟨k, es, hk, rfl, HEL, HED, HO⟩ := hrel
    by_cases hlt : k < n
    · have hlt' : (k : Int) < n := by omega
      have HB := Lib.hid (below_trans HB1.out HB1.out.size HO.out.bel)
      obtain ⟨a, ha⟩ : ∃ r, ds[k]? = some r := ⟨_, List.getElem?_eq_getElem (by rw [HL.out]; omega)⟩
      obtain ⟨bb, off, rfl, hbb, hc⟩ := HS.out.cells (by omega)
      have hok := (HS.out.ok_at a (List.mem_of_getElem? ha)).below HB.out
      obtain ⟨g0, g1, g2, g3, g4⟩ := hc k a ha
      have q0 := (HB.out.cell (p := ⟨bb, _, none⟩) hbb).trans g0
      have q1 := (HB.out.cell (p := ⟨bb, _, none⟩) hbb).trans g1
      have q2 := (HB.out.cell (p := ⟨bb, _, none⟩) hbb).trans g2
      have q3 := (HB.out.cell (p := ⟨bb, _, none⟩) hbb).trans g3
      have q4 := (HB.out.cell (p := ⟨bb, _, none⟩) hbb).trans g4
      have EN := fun w h => entry_any a w h
      have HOK := Lib.hid hok
      clear g0 g1 g2 g3 g4 hc hok ha
      generalize heo : entOf a = eo at *
      obtain ⟨y0, y1, ⟨A2, n2, c2, l2⟩, y3, y4⟩ := a
      obtain ⟨e0, e1, e2, e3, e4, e5⟩ := eo
      unfold rowV at q2
      unfold deedA rowV entA entCells at EN
      simp only at EN q2
      have EN := Lib.hid EN
      clear heo
      have hnv := HN.out
      obtain ⟨m, hm⟩ : ∃ m, m = es.length := ⟨_, rfl⟩
      have HM := Lib.hid hm
      rw [← hm] at HO
      have hel := HEL.out
      by_cases hk10 : k < 10
      · have hk10' : (k : Int) < 10 := by omega
        have hmk : m < 10 := by omega
        have HMK := Lib.hid hmk
        obtain ⟨V, CC, rfl, -, -, -⟩ := HO.out.slice
        clear hm hel hmk
        go_wp2_with fail
        refine (EN.out _ (HOK.out.below ((Below.refl _ _).alloc (Nat.le_refl _) _))).mono ?_
        rintro e w2 ⟨rfl, hb2⟩
        have hbA : Below wr.heap.size wr w2 := below_alloc _ (Below.refl _ _) (Nat.le_refl _) hb2
        have hbZ : Below w2.heap.size w2 ((w2.alloc (.cells #[.int .u16 0, .int .u16 0, .bool false, .int .i64 0, .bool false, .bool false, .bool false, .bool false, .int .i64 0, .string ⟨#[]⟩, .int .u16 0, .slice none 0 0, .slice none 0 0, .slice none 0 0, .int .i64 0, .string ⟨#[]⟩, .int .i64 0, .bool false, .int .i64 0] 74)).setCells w2.heap.size 0 [.int .u16 e0, .int .u16 0, .bool false, .int .i64 0, .bool false, .bool false, .bool false, .bool false, .int .i64 0, .string e1, .int .u16 e2, .slice none 0 0, .slice none 0 0, .slice none 0 0, .int .i64 0, .string e3, .int .i64 e4, .bool false, .int .i64 e5]) := below_setCells' (Nat.le_refl _) _ 0 ((Below.refl _ _).alloc (Nat.le_refl _) _)
        have hZ := Cs.new w2 #[.int .u16 0, .int .u16 0, .bool false, .int .i64 0, .bool false, .bool false, .bool false, .bool false, .int .i64 0, .string ⟨#[]⟩, .int .u16 0, .slice none 0 0, .slice none 0 0, .slice none 0 0, .int .i64 0, .string ⟨#[]⟩, .int .i64 0, .bool false, .int .i64 0] 74 [.int .u16 0, .int .u16 0, .bool false, .int .i64 0, .bool false, .bool false, .bool false, .bool false, .int .i64 0, .string ⟨#[]⟩, .int .u16 0, .slice none 0 0, .slice none 0 0, .slice none 0 0, .int .i64 0, .string ⟨#[]⟩, .int .i64 0, .bool false, .int .i64 0]
        have HTH := Lib.hid (hZ.there 19 rfl)
        have hM5 := hZ.mid [.int .u16 e0, .int .u16 0, .bool false, .int .i64 0, .bool false, .bool false, .bool false, .bool false, .int .i64 0, .string e1, .int .u16 e2, .slice none 0 0, .slice none 0 0, .slice none 0 0, .int .i64 0, .string e3, .int .i64 e4, .bool false, .int .i64 e5] rfl
        have hbB : Below wr.heap.size wr ((w2.alloc (.cells #[.int .u16 0, .int .u16 0, .bool false, .int .i64 0, .bool false, .bool false, .bool false, .bool false, .int .i64 0, .string ⟨#[]⟩, .int .u16 0, .slice none 0 0, .slice none 0 0, .slice none 0 0, .int .i64 0, .string ⟨#[]⟩, .int .i64 0, .bool false, .int .i64 0] 74)).setCells w2.heap.size 0 [.int .u16 e0, .int .u16 0, .bool false, .int .i64 0, .bool false, .bool false, .bool false, .bool false, .int .i64 0, .string e1, .int .u16 e2, .slice none 0 0, .slice none 0 0, .slice none 0 0, .int .i64 0, .string e3, .int .i64 e4, .bool false, .int .i64 e5]) := below_trans hbA hbA.size hbZ
        have H5 := Lib.hid (And.intro hM5 hbB)
        have HNE := Lib.hid hbA.size
        clear hb2 hbA hbZ hZ hM5 hbB q0 q1 q2 q3 q4
        go_upto_region 9 with (first | refine wpList_store_mid rfl 74 _ _ rfl w2.heap.size 0 #[.int .u16 e0, .int .u16 0, .bool false, .int .i64 0, .bool false, .bool false, .bool false, .bool false, .int .i64 0, .string e1, .int .u16 e2, .slice none 0 0, .slice none 0 0, .slice none 0 0, .int .i64 0, .string e3, .int .i64 e4, .bool false, .int .i64 e5] rfl rfl HTH.out (by kernel_rfl) (by simp [Value.oneCell']) ?_)
        obtain ⟨hM5, hB5⟩ := H5.out
        generalize (w2.alloc (.cells #[.int .u16 0, .int .u16 0, .bool false, .int .i64 0, .bool false, .bool false, .bool false, .bool false, .int .i64 0, .string ⟨#[]⟩, .int .u16 0, .slice none 0 0, .slice none 0 0, .slice none 0 0, .int .i64 0, .string ⟨#[]⟩, .int .i64 0, .bool false, .int .i64 0] 74)).setCells w2.heap.size 0 [.int .u16 e0, .int .u16 0, .bool false, .int .i64 0, .bool false, .bool false, .bool false, .bool false, .int .i64 0, .string e1, .int .u16 e2, .slice none 0 0, .slice none 0 0, .slice none 0 0, .int .i64 0, .string e3, .int .i64 e4, .bool false, .int .i64 e5] = w5 at *
        obtain ⟨g2, hg2⟩ : ∃ g, g = w2.heap.size := ⟨_, rfl⟩
        rw [← hg2] at hM5 ⊢
        have hge := HNE.out
        rw [← hg2] at hge
        have c0 := hM5.get 0 _
        have z0 := hM5.froz 0 (by simp)
        have hM6 := hM5.set' 0 (.int .u16 (k : Nat)) (by simp)
        have hB6 := hB5.setCell (p := ⟨g2, 0, none⟩) (by show _ ≤ g2; omega) (.int .u16 (k : Nat))
        have hu : IntKind.u16.wrap (k : Int) = (k : Int) := by show (k : Int) % 65536 = k; omega
        have H6 := Lib.hid (And.intro hM6 hB6)
        clear hM5 hB5 hM6 hB6 H5 hg2 hge
        go_upto_region 10 with fail
        obtain ⟨hM6, hB6⟩ := H6.out
        generalize w5.setCell ⟨g2, 0, none⟩ (.int .u16 (k : Nat)) = w6 at *
        have hM6 : Cs w6 g2 [.int .u16 (k : Nat), .int .u16 0, .bool false, .int .i64 0, .bool false, .bool false, .bool false, .bool false, .int .i64 0, .string e1, .int .u16 e2, .slice none 0 0, .slice none 0 0, .slice none 0 0, .int .i64 0, .string e3, .int .i64 e4, .bool false, .int .i64 e5] := hM6
        have HR6 := Lib.hid hM6.range
        have ho := Lib.hid ((HO.out.keep hB6 (Nat.le_refl _)).alloc (.cells #[.int .u16 (k : Nat), .int .u16 0, .bool false, .int .i64 0, .bool false, .bool false, .bool false, .bool false, .int .i64 0, .string e1, .int .u16 e2, .slice none 0 0, .slice none 0 0, .slice none 0 0, .int .i64 0, .string e3, .int .i64 e4, .bool false, .int .i64 e5] 74))
        have hS : Hid (Src Try.prog 19 68 (.slice (some ⟨w6.heap.size, 0, none⟩) 1 1) 1 [.int .u16 (k : Nat), .int .u16 0, .bool false, .int .i64 0, .bool false, .bool false, .bool false, .bool false, .int .i64 0, .string e1, .int .u16 e2, .slice none 0 0, .slice none 0 0, .slice none 0 0, .int .i64 0, .string e3, .int .i64 e4, .bool false, .int .i64 e5] (w6.alloc (.cells #[.int .u16 (k : Nat), .int .u16 0, .bool false, .int .i64 0, .bool false, .bool false, .bool false, .bool false, .int .i64 0, .string e1, .int .u16 e2, .slice none 0 0, .slice none 0 0, .slice none 0 0, .int .i64 0, .string e3, .int .i64 e4, .bool false, .int .i64 e5] 74))) := by
          refine Lib.hid (Src.ofSlice _ Try.underlying68 _ 1 1 _ rfl ?_ ?_)
          · exact news_at w6 #[.int .u16 (k : Nat), .int .u16 0, .bool false, .int .i64 0, .bool false, .bool false, .bool false, .bool false, .int .i64 0, .string e1, .int .u16 e2, .slice none 0 0, .slice none 0 0, .slice none 0 0, .int .i64 0, .string e3, .int .i64 e4, .bool false, .int .i64 e5] _
          · exact entCells_one (((k : Nat) : Int), e1, e2, e3, e4, e5)
        clear hM6 hB6 c0 z0 hu H6
        go_wp2_with (first | (at_builtin; go_loud (refine wpList_append_obm rfl _ _ 68 68 rfl 74 i0 _ 184 Try.underlying68 hi hz0 hz1' hz2 rfl ho.out rfl rfl hS.out rfl (by have := HMK.out; unfold maxLen; omega) (by have := HMK.out; omega) ?_)) | refine wpList_load_mid rfl 74 _ rfl g2 0 rfl _ _ HR6.out Try.underlying74 rfl (by kernel_rfl) ?_)
        intro v' w' p1 p2 p3 p4
        have P1 := Lib.hid p1
        clear p1 p2 p3 p4 ho hS
        go_wp2_with fail
        go_round
        case rel => exact ⟨k + 1, es ++ [(((k : Nat) : Int), e1, e2, e3, e4, e5)], by omega, by go_num, Lib.hid (by rw [List.length_append, ← HM.out, HM.out, HEL.out]; simp; omega), Lib.hid (by
            intro e he
            rcases List.mem_append.1 he with h | h
            · exact HED.out e h
            · obtain rfl := List.mem_singleton.1 h
              exact ⟨by omega, hk10'⟩), by rw [List.length_append, flatE_snoc, ← HM.out]; exact P1⟩
        case measure => simp [intOf]; omega
      · have hk10' : ¬ (k : Int) < 10 := by omega
        clear hm hel
        go_wp2_with fail
        go_round
        case rel => exact ⟨k + 1, es, by omega, by go_num, Lib.hid (by rw [HEL.out]; omega), HED, by rw [← HM.out]; exact Lib.hid (HO.out.alloc _)⟩
        case measure => simp [intOf]; omega
    · have hlt' : ¬ (k : Int) < n := by omega
      obtain ⟨m, hm⟩ : ∃ m, m = es.length := ⟨_, rfl⟩
      have hm10 : m ≤ 10 := by rw [hm, HEL.out]; omega
      have HM := Lib.hid hm
      rw [← hm] at HO
      have HM10 := Lib.hid hm10
      obtain ⟨V, CC, rfl, hv1, hv2, hv3⟩ := HO.out.slice3
      have HV0 : V = none → m = 0 := fun h => by
        rcases hv3 with ⟨-, h, -⟩ | ⟨g, h2, -⟩
        · exact h
        · rw [h] at h2; cases h2
      have HV3 := Lib.hid hv3
      have HB := Lib.hid (below_trans HB1.out HB1.out.size HO.out.bel)
      have EV : Hid (∀ w', Below wr.heap.size wr w' → EntsV w' w'.heap.size V m es) := Lib.hid (fun w' hb => by
        have h1 := (HO.out.keep hb (Nat.le_refl _)).sl
        refine ⟨h1.ents (Nat.le_refl _) HM.out.symm, HM.out.symm, fun ad had => ?_⟩
        rcases HV3.out with ⟨h, -, -⟩ | ⟨g, h, -, h2⟩
        · rw [h] at had; cases had
        · rw [h] at had; injection had with had; subst had; exact Nat.lt_of_lt_of_le h2 hb.size)
      have HSRC : Hid (Src Try.prog 19 68 (.slice V m CC) m (flatE es) wr) := Lib.hid (Sl.srcM Try.underlying68 HO.out.sl HV0 (flatE_one es))
      have HST := Lib.hid (OBM.start (sz := 19) wr)
      have HCB := Lib.hid (HC1.out.below HO.out.bel)
      have FL := Lib.hid (show (flatE es).length = m * 19 by rw [flatE_len, HM.out])
      clear hm hv1 hv2 hv3 HV0 hm10 hk
      go_wp2_with (first | (at_builtin; go_loud (refine wpList_append_obm rfl (.const (.slice none 0 0)) _ 67 68 rfl 74 i0 _ 184 Try.underlying67 hi hz0 hz1' hz2 rfl HST.out rfl rfl HSRC.out FL.out (by have := HM10.out; unfold maxLen; omega) (by have := HM10.out; omega) ?_)))
      intro vA wA p1 p2 p3 p4
      have PW : Hid (OBM 19 wr.heap.size wr vA m (flatE es) wA) := Lib.hid (by simpa using p1)
      have HBA := Lib.hid p1.bel
      clear p1 p2 p3 p4
      obtain ⟨VW, CW, rfl, -, -, -⟩ := PW.out.slice
      have HCA := Lib.hid (HCB.out.below HBA.out)
      have q0 := HCA.out.get 0 _
      have q1 := HCA.out.get 1 _
      have q2 := HCA.out.get 2 _
      have q3 := HCA.out.get 3 _
      have q4 := HCA.out.get 4 _
      generalize heo : entOf (x0, x1, (A1, n1, c1, l), x3, x4) = eo
      have EN := entry_any (x0, x1, (A1, n1, c1, l), x3, x4) wA (HDP.out.below (below_trans HB.out HB.out.size HBA.out))
      rw [heo] at EN
      obtain ⟨e0, e1, e2, e3, e4, e5⟩ := eo
      unfold deedA rowV entA entCells at EN
      simp only at EN
      have EN := Lib.hid EN
      clear heo
      go_wp2_with fail
      refine EN.out.mono ?_
      rintro e w2 ⟨rfl, hb2⟩
      have hbZ : Below w2.heap.size w2 ((w2.alloc (.cells #[.int .u16 0, .int .u16 0, .bool false, .int .i64 0, .bool false, .bool false, .bool false, .bool false, .int .i64 0, .string ⟨#[]⟩, .int .u16 0, .slice none 0 0, .slice none 0 0, .slice none 0 0, .int .i64 0, .string ⟨#[]⟩, .int .i64 0, .bool false, .int .i64 0] 74)).setCells w2.heap.size 0 [.int .u16 e0, .int .u16 0, .bool false, .int .i64 0, .bool false, .bool false, .bool false, .bool false, .int .i64 0, .string e1, .int .u16 e2, .slice none 0 0, .slice none 0 0, .slice none 0 0, .int .i64 0, .string e3, .int .i64 e4, .bool false, .int .i64 e5]) := below_setCells' (Nat.le_refl _) _ 0 ((Below.refl _ _).alloc (Nat.le_refl _) _)
      have hZ := Cs.new w2 #[.int .u16 0, .int .u16 0, .bool false, .int .i64 0, .bool false, .bool false, .bool false, .bool false, .int .i64 0, .string ⟨#[]⟩, .int .u16 0, .slice none 0 0, .slice none 0 0, .slice none 0 0, .int .i64 0, .string ⟨#[]⟩, .int .i64 0, .bool false, .int .i64 0] 74 [.int .u16 0, .int .u16 0, .bool false, .int .i64 0, .bool false, .bool false, .bool false, .bool false, .int .i64 0, .string ⟨#[]⟩, .int .u16 0, .slice none 0 0, .slice none 0 0, .slice none 0 0, .int .i64 0, .string ⟨#[]⟩, .int .i64 0, .bool false, .int .i64 0]
      have HTH := Lib.hid (hZ.there 19 rfl)
      have hM5 := hZ.mid [.int .u16 e0, .int .u16 0, .bool false, .int .i64 0, .bool false, .bool false, .bool false, .bool false, .int .i64 0, .string e1, .int .u16 e2, .slice none 0 0, .slice none 0 0, .slice none 0 0, .int .i64 0, .string e3, .int .i64 e4, .bool false, .int .i64 e5] rfl
      have hbB : Below wA.heap.size wA ((w2.alloc (.cells #[.int .u16 0, .int .u16 0, .bool false, .int .i64 0, .bool false, .bool false, .bool false, .bool false, .int .i64 0, .string ⟨#[]⟩, .int .u16 0, .slice none 0 0, .slice none 0 0, .slice none 0 0, .int .i64 0, .string ⟨#[]⟩, .int .i64 0, .bool false, .int .i64 0] 74)).setCells w2.heap.size 0 [.int .u16 e0, .int .u16 0, .bool false, .int .i64 0, .bool false, .bool false, .bool false, .bool false, .int .i64 0, .string e1, .int .u16 e2, .slice none 0 0, .slice none 0 0, .slice none 0 0, .int .i64 0, .string e3, .int .i64 e4, .bool false, .int .i64 e5]) := below_trans hb2 hb2.size hbZ
      have H5 := Lib.hid (And.intro hM5 hbB)
      have HNE := Lib.hid hb2.size
      clear hb2 hbZ hZ hM5 hbB q0 q1 q2 q3 q4
      go_upto_region 14 with (first | refine wpList_store_mid rfl 74 _ _ rfl w2.heap.size 0 #[.int .u16 e0, .int .u16 0, .bool false, .int .i64 0, .bool false, .bool false, .bool false, .bool false, .int .i64 0, .string e1, .int .u16 e2, .slice none 0 0, .slice none 0 0, .slice none 0 0, .int .i64 0, .string e3, .int .i64 e4, .bool false, .int .i64 e5] rfl rfl HTH.out (by kernel_rfl) (by simp [Value.oneCell']) ?_)
      obtain ⟨hM5, hB5⟩ := H5.out
      generalize (w2.alloc (.cells #[.int .u16 0, .int .u16 0, .bool false, .int .i64 0, .bool false, .bool false, .bool false, .bool false, .int .i64 0, .string ⟨#[]⟩, .int .u16 0, .slice none 0 0, .slice none 0 0, .slice none 0 0, .int .i64 0, .string ⟨#[]⟩, .int .i64 0, .bool false, .int .i64 0] 74)).setCells w2.heap.size 0 [.int .u16 e0, .int .u16 0, .bool false, .int .i64 0, .bool false, .bool false, .bool false, .bool false, .int .i64 0, .string e1, .int .u16 e2, .slice none 0 0, .slice none 0 0, .slice none 0 0, .int .i64 0, .string e3, .int .i64 e4, .bool false, .int .i64 e5] = w5 at *
      obtain ⟨g2, hg2⟩ : ∃ g, g = w2.heap.size := ⟨_, rfl⟩
      rw [← hg2] at hM5 ⊢
      have hge := HNE.out
      rw [← hg2] at hge
      have c0 := hM5.get 0 _
      have z0 := hM5.froz 0 (by simp)
      have hM6 := hM5.set' 0 (.int .u16 99) (by simp)
      have hB6 := hB5.setCell (p := ⟨g2, 0, none⟩) (by show _ ≤ g2; omega) (.int .u16 99)
      have H6 := Lib.hid (And.intro hM6 hB6)
      clear hM5 hB5 hM6 hB6 H5 hg2 hge
      go_upto_region 15 with fail
      obtain ⟨hM6, hB6⟩ := H6.out
      generalize w5.setCell ⟨g2, 0, none⟩ (.int .u16 99) = w6 at *
      have hM6 : Cs w6 g2 [.int .u16 99, .int .u16 0, .bool false, .int .i64 0, .bool false, .bool false, .bool false, .bool false, .int .i64 0, .string e1, .int .u16 e2, .slice none 0 0, .slice none 0 0, .slice none 0 0, .int .i64 0, .string e3, .int .i64 e4, .bool false, .int .i64 e5] := hM6
      have HR6 := Lib.hid hM6.range
      have HM6 := Lib.hid hM6
      have HBW6 := Lib.hid (below_trans HBA.out HBA.out.size hB6)
      have HBA6 := Lib.hid hB6
      have A1 : Hid (Calls Try.prog 28 #[.slice V m CC, .agg #[.int .u16 99, .int .u16 0, .bool false, .int .i64 0, .bool false, .bool false, .bool false, .bool false, .int .i64 0, .string e1, .int .u16 e2, .slice none 0 0, .slice none 0 0, .slice none 0 0, .int .i64 0, .string e3, .int .i64 e4, .bool false, .int .i64 e5]] w6 (AddR es (99, e1, e2, e3, e4, e5) w6)) := Lib.hid (add_any V m CC es (99, e1, e2, e3, e4, e5) w6 (EV.out w6 HBW6.out) (by have := HM10.out; omega))
      clear hM6 hB6 c0 z0 H6
      go_wp2_with (first | refine wpList_load_mid rfl 74 _ rfl g2 0 rfl _ _ HR6.out Try.underlying74 rfl (by kernel_rfl) ?_)
      refine A1.out.mono ?_
      rintro e w7 (⟨g1, -⟩ | ⟨-, g1, -⟩ | ⟨-, -, va, rfl, ho1⟩)
      · exfalso; have := HM.out; have := HM10.out; omega
      · exfalso; rw [ids_small HED.out (by omega)] at g1; cases g1
      rw [← HM.out] at ho1
      have HO1 := Lib.hid ho1
      obtain ⟨Va, Ca, rfl, -, -, ha3⟩ := ho1.slice3
      rcases ha3 with ⟨-, ha3, -⟩ | ⟨ga, rfl, -, -⟩
      · omega
      clear ho1
      have HBW7 := Lib.hid (below_trans HBW6.out HBW6.out.size HO1.out.bel)
      have A2 : Hid (Calls Try.prog 28 #[.slice V m CC, .agg #[.int .u16 98, .int .u16 0, .bool false, .int .i64 0, .bool false, .bool false, .bool false, .bool false, .int .i64 0, .string ⟨#[]⟩, .int .u16 0, .slice none 0 0, .slice none 0 0, .slice none 0 0, .int .i64 0, .string ⟨#[]⟩, .int .i64 0, .bool false, .int .i64 0]] w7 (AddR es (98, ⟨#[]⟩, 0, ⟨#[]⟩, 0, 0) w7)) := Lib.hid (add_any V m CC es (98, ⟨#[]⟩, 0, ⟨#[]⟩, 0, 0) w7 (EV.out w7 HBW7.out) (by have := HM10.out; omega))
      clear A1
      go_wp2_with fail
      refine A2.out.mono ?_
      rintro e w8 (⟨g1, -⟩ | ⟨-, g1, -⟩ | ⟨-, -, vb, rfl, ho2⟩)
      · exfalso; have := HM.out; have := HM10.out; omega
      · exfalso; rw [ids_small HED.out (by omega)] at g1; cases g1
      rw [← HM.out] at ho2
      have HO2 := Lib.hid ho2
      obtain ⟨Vb, Cb, rfl, -, -, hb3⟩ := ho2.slice3
      rcases hb3 with ⟨-, hb3, -⟩ | ⟨gb, rfl, -, -⟩
      · omega
      clear ho2
      have HBW8 := Lib.hid (below_trans HBW7.out HBW7.out.size HO2.out.bel)
      have HM8 := Lib.hid (HM6.out.below (HO1.out.bel.trans (HO2.out.bel.mono HO1.out.bel.size)))
      have c9 := HM8.out.get 9 _
      have c10 := HM8.out.get 10 _
      have MT : Hid (Calls Try.prog 29 #[.slice V m CC, .int .u16 0, .agg #[.string e1, .int .u16 e2]] w8 fun r w' => (∃ x v b, r = .returned (.tuple #[x, v, .bool b])) ∧ Below w8.heap.size w8 w') := Lib.hid ((match_any V m CC es 0 e1 e2 w8 (EV.out w8 HBW8.out) (by have := HM10.out; omega)).mono (by
        rintro r w' (⟨-, rfl, hb⟩ | ⟨a, ha, -, -, v, rfl, ho⟩)
        · exact ⟨⟨_, _, _, rfl⟩, hb⟩
        · exact ⟨⟨_, _, _, rfl⟩, ho.bel⟩))
      clear A2
      go_wp2_with fail
      refine MT.out.mono ?_
      rintro e w9 ⟨⟨x, v9, b9, rfl⟩, hb9⟩
      have HB9 := Lib.hid hb9
      have HBW9 := Lib.hid (below_trans HBW8.out HBW8.out.size hb9)
      have EX := Lib.hid (expire_any V m CC es 3 w9 (EV.out w9 HBW9.out) (by have := HM10.out; omega))
      clear hb9 c9 c10 MT
      go_wp2_with fail
      refine EX.out.mono ?_
      rintro e wz ⟨v3, v4, rfl, ho3, -⟩
      have HB89 : Hid (Below w8.heap.size w8 wz) := Lib.hid (below_trans HB9.out HB9.out.size ho3.bel)
      have HBWz := Lib.hid (below_trans HBW9.out HBW9.out.size ho3.bel)
      clear ho3 EX
      have HOA := Lib.hid (HO1.out.keep (HO2.out.bel.trans (HB89.out.mono HO2.out.bel.size)) (Nat.le_refl _))
      have HOB := Lib.hid (HO2.out.keep HB89.out (Nat.le_refl _))
      have HOT := Lib.hid ((EV.out wz HBWz.out).at_)
      have HOW := Lib.hid ((PW.out.keep (HBA6.out.trans ((HO1.out.bel.trans ((HO2.out.bel.trans (HB89.out.mono HO2.out.bel.size)).mono HO1.out.bel.size)).mono HBA6.out.size)) (Nat.le_refl _)).sl.ents (Nat.le_refl _) HM.out.symm)
      go_upto_region 19 with fail
      have RA : Hid (wz.rangeAt ga (m * 19) [.int .u16 99, .int .u16 0, .bool false, .int .i64 0, .bool false, .bool false, .bool false, .bool false, .int .i64 0, .string e1, .int .u16 e2, .slice none 0 0, .slice none 0 0, .slice none 0 0, .int .i64 0, .string e3, .int .i64 e4, .bool false, .int .i64 e5]) := Lib.hid (fun j v hv => by
        have := flatE_get (es ++ [((99, e1, e2, e3, e4, e5) : EntT)]) m j (99, e1, e2, e3, e4, e5) v (by rw [HM.out]; simp) hv
        exact HOA.out.cell _ v this)
      have RB : Hid (wz.cell? ⟨gb, m * 19, none⟩ = some (.int .u16 98)) := Lib.hid (by
        have := flatE_get (es ++ [((98, ⟨#[]⟩, 0, ⟨#[]⟩, 0, 0) : EntT)]) m 0 (98, ⟨#[]⟩, 0, ⟨#[]⟩, 0, 0) (.int .u16 98) (by rw [HM.out]; simp) rfl
        exact HOB.out.cell _ _ this)
      have RG := Lib.hid (HM8.out.below HB89.out).range
      have LA := Lib.hid (HOA.out.lt _ rfl).2
      have LB := Lib.hid (HOB.out.lt _ rfl).2
      have LG := Lib.hid (HM8.out.below HB89.out).lt
      obtain ⟨EA, hEA⟩ : ∃ x : Value, x = .agg #[.int .u16 99, .int .u16 0, .bool false, .int .i64 0, .bool false, .bool false, .bool false, .bool false, .int .i64 0, .string e1, .int .u16 e2, .slice none 0 0, .slice none 0 0, .slice none 0 0, .int .i64 0, .string e3, .int .i64 e4, .bool false, .int .i64 e5] := ⟨_, rfl⟩
      have HEA := Lib.hid hEA
      clear hEA
      have SM : Hid (∀ w, Calls Try.prog 31 #[EA, EA] w fun r w' => r = .returned (.bool true) ∧ Below w.heap.size w w') := Lib.hid (fun w => by rw [HEA.out]; exact same26_self (99, e1, e2, e3, e4, e5) w)
      have AL := Lib.hid (fun (wx : World) (h : Below wz.heap.size wz wx) => all26_self V VW m CC CW es wx (HOT.out.below h) (HOW.out.below h) HM.out.symm (by have := HM10.out; omega))
      have hmw : wrap64 ((m : Int) + 1) = (m : Int) + 1 := by have := HM10.out; unfold wrap64; omega
      have hmw2 : IntKind.i64.wrap ((m : Int) + 1) = (m : Int) + 1 := by have := HM10.out; rw [IntKind.wrap_i64]; omega
      have hlt1 : (m : Int) < (m : Int) + 1 := by omega
      have hm0 : (0 : Int) ≤ m := by omega
      refine wp_region_goesG data_follows (fun x => by simp [putsF, Act.put]; rfl) wz.heap.size wz
        [isV (.nilIface), isV (.bool true), isV (.bool true), isV (.nilIface), isV (.bool true), isV (.bool true), isV (.bool true), isV (.slice (some ⟨ga, 0, none⟩) (m + 1) Ca), isV (.int .i64 ((m : Int) + 1)), isV (.slice V m CC), isV (.int .i64 (m : Nat)), isV (.int .i64 ((m : Int) + 1)), isV (.bool true), isV (.bool true), isV (.bool true), isV (.slice (some ⟨gb, 0, none⟩) (m + 1) Cb), isV (.int .i64 ((m : Int) + 1)), isV (.slice V m CC), isV (.int .i64 (m : Nat)), isV (.int .i64 ((m : Int) + 1)), isV (.bool true), isV (.bool true), isV (.bool true), isV (.slice (some ⟨ga, 0, none⟩) (m + 1) Ca), isV (.slice V m CC), isV (.int .i64 (m : Nat)), isV (.pointer (some ⟨ga, m * 19, none⟩)), isV (EA), isV (EA), isV (.bool true), isV (.bool true), isV (.bool true), isV (.slice (some ⟨gb, 0, none⟩) (m + 1) Cb), isV (.slice V m CC), isV (.int .i64 (m : Nat)), isV (.pointer (some ⟨gb, m * 19, none⟩)), isV (.pointer (some ⟨gb, m * 19, none⟩)), isV (.int .u16 98), isV (.bool true), isV (.bool true), isV (.bool true), isV (.slice V m CC), isV (.slice VW m CW), isV (.bool true), isV (.bool true), isV (.bool true)]
        (by kernel_rfl) (by kernel_rfl) (by kernel_rfl) rfl ?_ (Below.refl _ _) ?_ ?_
      · repeat (first | exact trivial | refine ⟨isV_stays _, ?_⟩)
      · refine ⟨?_, ?_, ?_, ?_, ?_, ?_, ?_, ?_, ?_, ?_, ?_, ?_, ?_, ?_, ?_, ?_, ?_, ?_, ?_, ?_, ?_, ?_, ?_, ?_, ?_, ?_, ?_, ?_, ?_, ?_, ?_, ?_, ?_, ?_, ?_, ?_, ?_, ?_, ?_, ?_, ?_, ?_, ?_, ?_, ?_, ?_, trivial⟩
        all_goals
          intro x wx hR hd
          simp at hd
          refine ⟨fun _ => ?_, fun hX => ?_⟩
          rotate_left
          focus (exfalso; first | (simp at hX; done) | (simp [hd] at hX; done))
        · (try simp [hd]); go_simp; exact next_same _ rfl rfl hR
        · (try simp [hd]); go_simp; exact next_same _ rfl rfl hR
        · (try simp [hd]); go_simp; exact next_same _ rfl rfl hR
        · (try simp [hd]); go_simp; exact next_same _ rfl rfl hR
        · (try simp [hd]); go_simp; exact next_same _ rfl rfl hR
        · (try simp [hd]); go_simp; exact next_same _ rfl rfl hR
        · (try simp [hd]); go_simp; exact next_same _ rfl rfl hR
        · (try simp [hd]); go_simp; exact next_same _ rfl rfl hR
        · (try simp [hd]); go_simp; exact next_same _ rfl rfl hR
        · (try simp [hd]); go_simp; exact next_same _ rfl rfl hR
        · (try simp [hd]); go_simp; exact next_same _ rfl rfl hR
        · (try simp [hd]); go_simp; exact next_same _ rfl rfl hR
        · (try simp [hd]); go_simp; exact next_same _ rfl rfl hR
        · (try simp [hd]); go_simp; exact next_same _ rfl rfl hR
        · (try simp [hd]); go_simp; exact next_same _ rfl rfl hR
        · (try simp [hd]); go_simp; exact next_same _ rfl rfl hR
        · (try simp [hd]); go_simp; exact next_same _ rfl rfl hR
        · (try simp [hd]); go_simp; exact next_same _ rfl rfl hR
        · (try simp [hd]); go_simp; exact next_same _ rfl rfl hR
        · (try simp [hd]); go_simp; exact next_same _ rfl rfl hR
        · (try simp [hd]); go_simp; exact next_same _ rfl rfl hR
        · (try simp [hd]); go_simp; exact next_same _ rfl rfl hR
        · (try simp [hd]); go_simp; exact next_same _ rfl rfl hR
        · (try simp [hd]); go_simp; exact next_same _ rfl rfl hR
        · (try simp [hd]); go_simp; exact next_same _ rfl rfl hR
        · (try simp [hd]); go_simp; exact next_same _ rfl rfl hR
        · (try simp [hd]); go_simp; exact next_same _ rfl rfl hR
        · refine wp_load_mid 74 _ rfl ga (m * 19) (by simp [go_sem, hd]) _ _ (fun j v hv => (hR.cell (p := ⟨ga, m * 19 + j, none⟩) LA.out).trans (RA.out j v hv)) Try.underlying74 rfl (by kernel_rfl) ?_
          exact next_same _ rfl HEA.out.symm hR
        · refine wp_load_mid 74 _ rfl g2 0 (by simp [go_sem]) _ _ (fun j v hv => (hR.cell (p := ⟨g2, 0 + j, none⟩) LG.out).trans (RG.out j v hv)) Try.underlying74 rfl (by kernel_rfl) ?_
          exact next_same _ rfl HEA.out.symm hR
        · obtain ⟨hd0, hd1, hd2⟩ := hd
          go_simp
          go_at_call 31
          refine (SM.out wx).mono ?_
          rintro r wy ⟨rfl, hb⟩
          exact next_call _ rfl rfl hR hR.size hb
        · (try simp [hd]); go_simp; exact next_same _ rfl rfl hR
        · (try simp [hd]); go_simp; exact next_same _ rfl rfl hR
        · (try simp [hd]); go_simp; exact next_same _ rfl rfl hR
        · (try simp [hd]); go_simp; exact next_same _ rfl rfl hR
        · (try simp [hd]); go_simp; exact next_same _ rfl rfl hR
        · (try simp [hd]); go_simp; exact next_same _ rfl rfl hR
        · (try simp [hd]); go_simp; exact next_same _ rfl rfl hR
        · have k0 := (hR.cell (p := ⟨gb, m * 19, none⟩) LB.out).trans RB.out
          go_simp; exact next_same _ rfl rfl hR
        · (try simp [hd]); go_simp; exact next_same _ rfl rfl hR
        · (try simp [hd]); go_simp; exact next_same _ rfl rfl hR
        · (try simp [hd]); go_simp; exact next_same _ rfl rfl hR
        · (try simp [hd]); go_simp; exact next_same _ rfl rfl hR
        · (try simp [hd]); go_simp; exact next_same _ rfl rfl hR
        · obtain ⟨hd0, hd1, hd2⟩ := hd
          go_simp
          go_at_call 32
          refine (AL.out wx hR).mono ?_
          rintro r wy ⟨rfl, hb⟩
          exact next_call _ rfl rfl hR hR.size hb
        · (try simp [hd]); go_simp; exact next_same _ rfl rfl hR
        · (try simp [hd]); go_simp; exact next_same _ rfl rfl hR
      intro x wx hR hx
      simp [AllWords] at hx
      have h45 : x 45 = .bool true := by simp [hx]
      rw [h45]
      clear hx h45
      have HBX := Lib.hid (below_trans HB.out HB.out.size (below_trans HBWz.out HBWz.out.size hR))
      clear hR
      go_wp2_with fail
      go_ret
      exact ⟨rfl, HBX.out⟩
end Go.Proofs.Ytlmhmkpoaebokaa
