/- The walk of PendingFree. -/
import Derived.Test.YtlmhmkpoaebokaaPendB
import Derived.Outline
namespace Go.Proofs.Ytlmhmkpoaebokaa
open Go.RowKit
set_option linter.unusedVariables false
set_option linter.unusedSimpArgs false
set_option maxRecDepth 20000
theorem u16_wf {z : Int} (h : (Lit.int .u16 z).wf = true) : 0 ≤ z ∧ z < 65536 := by
  have : IntKind.u16.min ≤ z ∧ z ≤ IntKind.u16.max := by simpa [Lit.wf] using h
  have a : IntKind.u16.min = 0 := rfl
  have b : IntKind.u16.max = 65535 := rfl
  omega
theorem u8_wf26 {z : Int} (h : (Lit.int .u8 z).wf = true) : 0 ≤ z ∧ z < 256 := by
  have : IntKind.u8.min ≤ z ∧ z ≤ IntKind.u8.max := by simpa [Lit.wf] using h
  have a : IntKind.u8.min = 0 := rfl
  have b : IntKind.u8.max = 255 := rfl
  omega
theorem i8_wf26 {z : Int} (h : (Lit.int .i8 z).wf = true) : -128 ≤ z ∧ z < 128 := by
  have : IntKind.i8.min ≤ z ∧ z ≤ IntKind.i8.max := by simpa [Lit.wf] using h
  have a : IntKind.i8.min = -128 := rfl
  have b : IntKind.i8.max = 127 := rfl
  omega
theorem DeedsP.ok_at {w : World} {A : Option Addr} {n c : Nat} {ds : List DeedP} (h : DeedsP w A n c ds) (a : DeedP) (ha : a ∈ ds) : DpOk w a := by
  obtain ⟨h1, h2, h3, h4, h5⟩ := h.ok a ha
  exact ⟨u8_wf26 h1, u8_wf26 h2, h3.1.sl, h3.1.none_, h3.1.le, h3.1.max, u8_wf26 h4, i8_wf26 h5⟩
def entsOf (ds : List DeedP) : List EntT := ds.map entOf
theorem entsOf_next {ds : List DeedP} {k : Nat} {a : DeedP} (ha : ds[k]? = some a) : entsOf (ds.take (k + 1)) = entsOf (ds.take k) ++ [entOf a] := by
  unfold entsOf
  rw [List.take_add_one, ha]
  simp
theorem idsE_snoc (es : List EntT) (e : EntT) : idsE (es ++ [e]) = idsE es ++ [e.1] := by unfold idsE; simp
theorem ids_few (ds : List DeedP) (x : Nat) (hx : x < 65536) (h : (idsE (entsOf ds)).contains ((x : Nat) : Int) = true) : (x + 4) % 65536 < 24 := by
  unfold idsE entsOf at h
  rw [List.contains_iff_mem, List.map_map, List.mem_map] at h
  obtain ⟨a, -, ha⟩ := h
  have ha : (((a.2.1.toNat % 24 + 65532) % 65536 : Nat) : Int) = ((x : Nat) : Int) := ha
  omega
theorem contains_next (ks : List Int) (es : List EntT) (e : EntT) (HX : ∀ x, ks.contains x = (idsE es).contains x) : ∀ x, (if ks.contains e.1 then ks else ks ++ [e.1]).contains x = (idsE (es ++ [e])).contains x := by
  intro x
  rw [idsE_snoc]
  have hx := HX x
  by_cases hce : ks.contains e.1 = true
  · rw [if_pos hce]
    have h2 := HX e.1
    rw [hce] at h2
    rw [hx]
    by_cases hxe : x = e.1
    · subst hxe; rw [← h2]; simp
    · simp [hxe]
  · rw [if_neg hce]
    simp only [List.contains_eq_mem, List.mem_append, decide_eq_true_eq] at hx ⊢
    simp only [List.mem_append, List.mem_singleton, decide_eq_decide] at hx ⊢
    rw [hx]
theorem ent_info : (Try.prog.info? 74).map (fun i => (i.zero, i.size, i.bytes)) = some (some (.agg #[.int .u16 0, .int .u16 0, .bool false, .int .i64 0, .bool false, .bool false, .bool false, .bool false, .int .i64 0, .string ⟨#[]⟩, .int .u16 0, .slice none 0 0, .slice none 0 0, .slice none 0 0, .int .i64 0, .string ⟨#[]⟩, .int .i64 0, .bool false, .int .i64 0]), 19, 184) := by kernel_rfl
set_option maxHeartbeats 6400000 in
theorem pendingFree_walk (w : World) (A : Option Addr) (n c : Nat) (ds : List DeedP) (S : DeedsP w A n c ds) (B : c ≤ 1048576) (id : Int) (hid : (Lit.int .u16 id).wf = true) :
    Calls Try.prog 7 #[.slice A n c, .int .u16 id] w fun e w' => e = .returned (.bool true) ∧ Below w.heap.size w w' := by
  obtain ⟨idn, rfl⟩ : ∃ kn : Nat, id = kn := ⟨id.toNat, by have := (u16_wf hid).1; omega⟩
  have hidn : idn < 65536 := by have := (u16_wf hid).2; omega
  have hle := S.le
  have hn : n ≤ 1048576 := by omega
  have hlen := S.len
  have HS := Lib.hid S
  have HL := Lib.hid hlen
  have HN := Lib.hid hn
  have HI := Lib.hid hidn
  obtain ⟨i0, hi, hz0, hz1, hz2⟩ := info_parts4 ent_info
  have hmm := @run_makeMap Try.prog
  clear S B hid hidn hle hlen
  go_enter Try.func7, Try.ntmps7
  go_wp2_with fail
  refine (awake26_any _).mono ?_
  rintro e w1 ⟨rfl, hb1⟩
  have HB1 := Lib.hid hb1
  clear hb1
  go_upto_region 5 with fail
  have hI0 := IM.new .u16 (.bool true) w1
  have hO0 : OBM 19 w1.heap.size (w1.alloc (.map #[] 0)) (.slice none 0 0) 0 [] (w1.alloc (.map #[] 0)) := OBM.nil (Below.refl _ _) (by simp)
  have hB0 := HB1.out.alloc HB1.out.size (.map #[] 0)
  generalize hW0 : w1.alloc (.map #[] 0) = W0 at *
  generalize hMB : w1.heap.size = MB at *
  have hMB2 : w.heap.size ≤ MB := by rw [← hMB]; exact HB1.out.size
  have HMB := Lib.hid hMB2
  clear hmm hW0 hMB hMB2
  go_wp2_with fail
  go_loopw [5, 16] (fun v i wr => ∃ (k : Nat) (ks : List Int), k ≤ n ∧ i = .int .i64 k ∧ Hid (IM .u16 (.bool true) wr MB ks) ∧ Hid (∀ x, ks.contains x = (idsE (entsOf (ds.take k))).contains x) ∧ Hid (OBM 19 MB W0 v k (flatE (entsOf (ds.take k))) wr) ∧ Hid (∀ q, v.ownBlock = some q → MB < q) ∧ Hid (Below w.heap.size w wr)) (fun _ i _ => n - (intOf i).toNat)
  case atStart => exact ⟨0, [], Nat.zero_le _, rfl, Lib.hid hI0, Lib.hid (by intro x; simp [idsE, entsOf]), Lib.hid (by simpa [flatE, entsOf] using hO0), Lib.hid (fun q hq => by cases hq), Lib.hid hB0⟩
  case round =>
    obtain ⟨k, ks, hk, rfl, HM, HX, HO, HOW, HB⟩ := hrel
    by_cases hlt : k < n
    · have hlt' : (k : Int) < n := by omega
      obtain ⟨a, ha⟩ : ∃ r, ds[k]? = some r := ⟨_, List.getElem?_eq_getElem (by rw [HL.out]; omega)⟩
      obtain ⟨bb, off, rfl, hbb, hc⟩ := HS.out.cells (by omega)
      have hok := (HS.out.ok_at a (List.mem_of_getElem? ha)).below HB.out
      obtain ⟨g0, g1, g2, g3, g4⟩ := hc k a ha
      have q0 := (HB.out.cell (p := ⟨bb, _, none⟩) hbb).trans g0
      have q1 := (HB.out.cell (p := ⟨bb, _, none⟩) hbb).trans g1
      have q2 := (HB.out.cell (p := ⟨bb, _, none⟩) hbb).trans g2
      have q3 := (HB.out.cell (p := ⟨bb, _, none⟩) hbb).trans g3
      have q4 := (HB.out.cell (p := ⟨bb, _, none⟩) hbb).trans g4
      have hnx := contains_next ks _ (entOf a) HX.out
      rw [← entsOf_next ha] at hnx
      have hfl : flatE (entsOf (ds.take (k + 1))) = flatE (entsOf (ds.take k)) ++ entCells (entOf a) := by rw [entsOf_next ha, flatE_snoc]
      have EN := fun w h => entry_any a w h
      have HOK := Lib.hid hok
      have HNX := Lib.hid hnx
      have HFL := Lib.hid hfl
      clear g0 g1 g2 g3 g4 hc hok hnx hfl ha
      generalize heo : entOf a = eo at *
      obtain ⟨x0, x1, ⟨A1, n1, c1, l1⟩, x3, x4⟩ := a
      obtain ⟨e0, e1, e2, e3, e4, e5⟩ := eo
      unfold rowV at q2
      unfold deedA rowV entA entCells at EN
      simp only at EN q2
      have EN := Lib.hid EN
      have HEO := Lib.hid heo
      clear heo
      obtain ⟨V, CC, rfl, -, -, -⟩ := HO.out.slice
      go_upto_region 8 with fail
      go_wp2_with fail
      refine (EN.out _ (HOK.out.below ((Below.refl _ _).alloc (Nat.le_refl _) _))).mono ?_
      rintro e w2 ⟨rfl, hb2⟩
      have hbA : Below wr.heap.size wr w2 := below_alloc _ (Below.refl _ _) (Nat.le_refl _) hb2
      have hbZ : Below w2.heap.size w2 ((w2.alloc (.cells #[.int .u16 0, .int .u16 0, .bool false, .int .i64 0, .bool false, .bool false, .bool false, .bool false, .int .i64 0, .string ⟨#[]⟩, .int .u16 0, .slice none 0 0, .slice none 0 0, .slice none 0 0, .int .i64 0, .string ⟨#[]⟩, .int .i64 0, .bool false, .int .i64 0] 74)).setCells w2.heap.size 0 [.int .u16 e0, .int .u16 0, .bool false, .int .i64 0, .bool false, .bool false, .bool false, .bool false, .int .i64 0, .string e1, .int .u16 e2, .slice none 0 0, .slice none 0 0, .slice none 0 0, .int .i64 0, .string e3, .int .i64 e4, .bool false, .int .i64 e5]) := below_setCells' (Nat.le_refl _) _ 0 ((Below.refl _ _).alloc (Nat.le_refl _) _)
      have hZ := Cs.new w2 #[.int .u16 0, .int .u16 0, .bool false, .int .i64 0, .bool false, .bool false, .bool false, .bool false, .int .i64 0, .string ⟨#[]⟩, .int .u16 0, .slice none 0 0, .slice none 0 0, .slice none 0 0, .int .i64 0, .string ⟨#[]⟩, .int .i64 0, .bool false, .int .i64 0] 74 [.int .u16 0, .int .u16 0, .bool false, .int .i64 0, .bool false, .bool false, .bool false, .bool false, .int .i64 0, .string ⟨#[]⟩, .int .u16 0, .slice none 0 0, .slice none 0 0, .slice none 0 0, .int .i64 0, .string ⟨#[]⟩, .int .i64 0, .bool false, .int .i64 0]
      have HTH := Lib.hid (hZ.there 19 rfl)
      have hM5 := hZ.mid [.int .u16 e0, .int .u16 0, .bool false, .int .i64 0, .bool false, .bool false, .bool false, .bool false, .int .i64 0, .string e1, .int .u16 e2, .slice none 0 0, .slice none 0 0, .slice none 0 0, .int .i64 0, .string e3, .int .i64 e4, .bool false, .int .i64 e5] rfl
      have hbB : Below wr.heap.size wr ((w2.alloc (.cells #[.int .u16 0, .int .u16 0, .bool false, .int .i64 0, .bool false, .bool false, .bool false, .bool false, .int .i64 0, .string ⟨#[]⟩, .int .u16 0, .slice none 0 0, .slice none 0 0, .slice none 0 0, .int .i64 0, .string ⟨#[]⟩, .int .i64 0, .bool false, .int .i64 0] 74)).setCells w2.heap.size 0 [.int .u16 e0, .int .u16 0, .bool false, .int .i64 0, .bool false, .bool false, .bool false, .bool false, .int .i64 0, .string e1, .int .u16 e2, .slice none 0 0, .slice none 0 0, .slice none 0 0, .int .i64 0, .string e3, .int .i64 e4, .bool false, .int .i64 e5]) := below_trans hbA hbA.size hbZ
      have hI5 := HM.out.below (hbB.mono (Nat.le_refl _))
      have hO5 := HO.out.keep hbB (Nat.le_refl _)
      have hB5 := below_trans HB.out HB.out.size hbB
      have hne : MB < w2.heap.size := Nat.lt_of_lt_of_le HM.out.lt hbA.size
      have H5 := Lib.hid (And.intro hM5 (And.intro hI5 (And.intro hO5 hB5)))
      have HNE := Lib.hid hne
      clear hb2 hbA hbZ hZ hM5 hbB hI5 hO5 hB5 hne
      go_upto_region 9 with (first | refine wpList_store_mid rfl 74 _ _ rfl w2.heap.size 0 #[.int .u16 e0, .int .u16 0, .bool false, .int .i64 0, .bool false, .bool false, .bool false, .bool false, .int .i64 0, .string e1, .int .u16 e2, .slice none 0 0, .slice none 0 0, .slice none 0 0, .int .i64 0, .string e3, .int .i64 e4, .bool false, .int .i64 e5] rfl rfl HTH.out (by kernel_rfl) (by simp [Value.oneCell']) ?_)
      obtain ⟨hM5, hI5, hO5, hB5⟩ := H5.out
      generalize (w2.alloc (.cells #[.int .u16 0, .int .u16 0, .bool false, .int .i64 0, .bool false, .bool false, .bool false, .bool false, .int .i64 0, .string ⟨#[]⟩, .int .u16 0, .slice none 0 0, .slice none 0 0, .slice none 0 0, .int .i64 0, .string ⟨#[]⟩, .int .i64 0, .bool false, .int .i64 0] 74)).setCells w2.heap.size 0 [.int .u16 e0, .int .u16 0, .bool false, .int .i64 0, .bool false, .bool false, .bool false, .bool false, .int .i64 0, .string e1, .int .u16 e2, .slice none 0 0, .slice none 0 0, .slice none 0 0, .int .i64 0, .string e3, .int .i64 e4, .bool false, .int .i64 e5] = w5 at *
      obtain ⟨g2, hg2⟩ : ∃ g, g = w2.heap.size := ⟨_, rfl⟩
      have hne := HNE.out
      rw [← hg2] at hM5 hne ⊢
      have c0 := hM5.get 0 _
      obtain ⟨w6, hrun, hI6, hg6⟩ := hI5.insert (P := Try.prog) (t := 69) (k := 22) (e := 4) (by kernel_rfl) (by kernel_rfl) e0
      have hM6 := hM5.grown hg6 (by intro h; injection h with h; omega)
      have hO6 : OBM 19 MB W0 (.slice V k CC) k (flatE (entsOf (ds.take k))) w6 := hO5.block (below_grown hO5.bel hg6 hO5.base (Nat.le_refl _)) hg6.size (fun q hq => hg6.block q (hO5.lt q hq).2 (fun h => by have := HOW.out q hq; injection h with h; omega))
      have hB6 := below_grown hB5 hg6 hB5.size HMB.out
      have H6 := Lib.hid (And.intro hM6 (And.intro hI6 (And.intro hO6 hB6)))
      have HNE := Lib.hid (show MB < w6.heap.size from Nat.lt_of_lt_of_le hI5.lt hg6.size)
      have HR6 := Lib.hid hM6.range
      clear hM6 hI6 hO6 hB6 hM5 hI5 hO5 hB5 hne hg6 hg2 H5 HTH HM HO HB
      go_upto_region 10 with fail
      clear hrun c0
      obtain ⟨hM6, hI6, hO6, hB6⟩ := H6.out
      have ho := Lib.hid (hO6.alloc (.cells #[.int .u16 e0, .int .u16 0, .bool false, .int .i64 0, .bool false, .bool false, .bool false, .bool false, .int .i64 0, .string e1, .int .u16 e2, .slice none 0 0, .slice none 0 0, .slice none 0 0, .int .i64 0, .string e3, .int .i64 e4, .bool false, .int .i64 e5] 74))
      have hS : Hid (Src Try.prog 19 68 (.slice (some ⟨w6.heap.size, 0, none⟩) 1 1) 1 [.int .u16 e0, .int .u16 0, .bool false, .int .i64 0, .bool false, .bool false, .bool false, .bool false, .int .i64 0, .string e1, .int .u16 e2, .slice none 0 0, .slice none 0 0, .slice none 0 0, .int .i64 0, .string e3, .int .i64 e4, .bool false, .int .i64 e5] (w6.alloc (.cells #[.int .u16 e0, .int .u16 0, .bool false, .int .i64 0, .bool false, .bool false, .bool false, .bool false, .int .i64 0, .string e1, .int .u16 e2, .slice none 0 0, .slice none 0 0, .slice none 0 0, .int .i64 0, .string e3, .int .i64 e4, .bool false, .int .i64 e5] 74))) := by
        refine Lib.hid (Src.ofSlice _ Try.underlying68 _ 1 1 _ rfl ?_ ?_)
        · exact news_at w6 #[.int .u16 e0, .int .u16 0, .bool false, .int .i64 0, .bool false, .bool false, .bool false, .bool false, .int .i64 0, .string e1, .int .u16 e2, .slice none 0 0, .slice none 0 0, .slice none 0 0, .int .i64 0, .string e3, .int .i64 e4, .bool false, .int .i64 e5] _
        · exact entCells_one (e0, e1, e2, e3, e4, e5)
      have HK := Lib.hid (show k < 1048576 by have := HN.out; omega)
      have HI7 := Lib.hid (hI6.below ((Below.refl _ _).alloc (Nat.le_refl _) (.cells #[.int .u16 e0, .int .u16 0, .bool false, .int .i64 0, .bool false, .bool false, .bool false, .bool false, .int .i64 0, .string e1, .int .u16 e2, .slice none 0 0, .slice none 0 0, .slice none 0 0, .int .i64 0, .string e3, .int .i64 e4, .bool false, .int .i64 e5] 74)))
      have HB7 := Lib.hid (hB6.alloc hB6.size (.cells #[.int .u16 e0, .int .u16 0, .bool false, .int .i64 0, .bool false, .bool false, .bool false, .bool false, .int .i64 0, .string e1, .int .u16 e2, .slice none 0 0, .slice none 0 0, .slice none 0 0, .int .i64 0, .string e3, .int .i64 e4, .bool false, .int .i64 e5] 74))
      clear hM6 hI6 hO6 hB6 H6
      go_wp2_with (first | (at_builtin; go_loud (refine wpList_append_obm rfl _ _ 68 68 rfl 74 i0 _ 184 Try.underlying68 hi hz0 hz1 hz2 rfl ho.out rfl rfl hS.out rfl (by have := HK.out; unfold maxLen; omega) (by have := HK.out; omega) ?_)) | refine wpList_load_mid rfl 74 _ rfl g2 0 rfl _ _ HR6.out Try.underlying74 rfl (by kernel_rfl) ?_)
      intro v' w' p1 p2 p3 p4
      have P1 := Lib.hid p1
      have HI8 := Lib.hid (HI7.out.block (p3 MB (Nat.lt_succ_of_lt HNE.out) (fun h => Nat.lt_irrefl _ (HOW.out MB h.symm))))
      have HW8 := Lib.hid (show ∀ q, v'.ownBlock = some q → MB < q by
        intro q hq
        rcases p4 with h | h
        · rw [h] at hq; exact HOW.out q hq
        · rw [h] at hq; injection hq with hq; rw [← hq]; have := HNE.out; simp; omega)
      have HB8 := Lib.hid (hB0.trans (p1.bel.mono HMB.out))
      clear p1 p2 p3 p4 ho hS HI7 HB7
      go_wp2_with fail
      go_round
      case rel => exact ⟨k + 1, _, by omega, by go_num, HI8, HNX, by rw [HFL.out]; exact P1, HW8, HB8⟩
      case measure => simp [intOf]; omega
    · have hlt' : ¬ (k : Int) < n := by omega
      obtain rfl : k = n := by omega
      have hkn : ds.take k = ds := List.take_of_length_le (by rw [HL.out]; omega)
      rw [hkn] at HX HO
      have hidm : idn % 65536 = idn := Nat.mod_eq_of_lt HI.out
      have hB0' := hB0
      clear hkn hk hI0 hO0 hB0
      obtain ⟨V, CC, rfl, hV1, hV2, hV3⟩ := HO.out.slice
      have HV3 := Lib.hid hV3
      clear hV1 hV2 hV3
      have hbnd : ∀ j : Nat, (∀ i, i < j → (idsE (entsOf ds)).contains (((idn + i) % 65536 : Nat) : Int) = true) → j ≤ 24 := by
        intro j hj
        rcases Nat.lt_or_ge 24 j with h | h
        · have h0 := ids_few ds _ (Nat.mod_lt _ (by omega)) (hj 0 (by omega))
          have h1 := ids_few ds _ (Nat.mod_lt _ (by omega)) (hj (24 - (idn + 4) % 65536) (by omega))
          omega
        · exact h
      have HBN := Lib.hid hbnd
      have FR := Lib.hid (fun (w' : World) (h : Ents w' V (entsOf ds)) => free_any V k CC (entsOf ds) idn HI.out w' h (by unfold entsOf; rw [List.length_map, HL.out]) (by have := HN.out; omega))
      clear hbnd
      go_wp2_with fail
      go_loopw [10] (fun v wx => ∃ j : Nat, j ≤ 24 ∧ v = .int .u16 ((idn + j) % 65536 : Nat) ∧ Hid (∀ i, i < j → (idsE (entsOf ds)).contains (((idn + i) % 65536 : Nat) : Int) = true) ∧ wx = wr) (fun v _ => 65536 - ((intOf v - idn) % 65536).toNat)
      case atStart => exact ⟨0, by omega, by rw [Nat.add_zero, hidm], Lib.hid (fun i hi => by omega), rfl⟩
      case round =>
        obtain ⟨j, hj, rfl, HF, rfl⟩ := hrel
        have hm : (idn + j) % 65536 < 65536 := Nat.mod_lt _ (by omega)
        have hnx : IntKind.u16.wrap (((idn + j) % 65536 : Nat) + 1 : Int) = (((idn + (j + 1)) % 65536 : Nat) : Int) := by rw [IntKind.wrap_u16]; omega
        have hx := HX.out (((idn + j) % 65536 : Nat) : Int)
        have hlk := HM.out.lookup1 (P := Try.prog) (t := 69) (k := 22) (e := 4) (by kernel_rfl) (by kernel_rfl) (z := .bool false) (by kernel_rfl) (((idn + j) % 65536 : Nat) : Int)
        rw [hx] at hlk
        obtain ⟨x, hxe⟩ : ∃ x, (idn + j) % 65536 = x := ⟨_, rfl⟩
        have HXE := Lib.hid hxe
        rw [hxe] at hlk hnx hm ⊢
        cases hc : (idsE (entsOf ds)).contains (x : Int) with
        | true =>
          rw [hc, if_pos rfl] at hlk
          have hj1 : j + 1 ≤ 24 := HBN.out (j + 1) (fun i hi => by
            by_cases hij : i < j
            · exact HF.out i hij
            · obtain rfl : i = j := by omega
              rw [hxe]; exact hc)
          have HC := Lib.hid hc
          clear hc hx hxe
          go_wp2_with fail
          go_round
          case rel =>
            refine ⟨j + 1, hj1, by first | rfl | (congr 1; omega) | (simp; done), Lib.hid (fun i hi => ?_), by first | rfl | trivial⟩
            by_cases hij : i < j
            · exact HF.out i hij
            · obtain rfl : i = j := by omega
              rw [HXE.out]; exact HC.out
          case measure => have := HXE.out; simp [intOf]; omega
        | false =>
          rw [hc] at hlk
          simp only [Bool.false_eq_true, if_false] at hlk
          have HC := Lib.hid hc
          have HEN := Lib.hid (HO.out.sl.ents (Nat.le_refl _) (show (entsOf ds).length = k by unfold entsOf; rw [List.length_map, HL.out]))
          clear hc hx hxe
          go_wp2_with fail
          refine (FR.out _ HEN.out).mono ?_
          rintro e w3 ⟨r, rfl, hr, hb3⟩
          obtain rfl : r = x := by
            rw [hr.at_ j (by omega) HF.out (by rw [HXE.out]; exact HC.out), HXE.out]
          have HB3 := Lib.hid (below_trans HB.out HB.out.size hb3)
          clear hb3 hr hlk
          go_wp2_with fail
          go_ret
          exact ⟨rfl, HB3.out⟩
end Go.Proofs.Ytlmhmkpoaebokaa
