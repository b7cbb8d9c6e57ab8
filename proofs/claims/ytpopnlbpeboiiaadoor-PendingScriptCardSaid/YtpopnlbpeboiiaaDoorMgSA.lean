/- Texts that walks stand on, one behind the other. -/
import Derived.Test.YtpopnlbpeboiiaaDoorPendE
import Derived.Outline
import Derived.Test.YtpopnlbpeboiiaaDoorRecA
import Derived.Test.YtpopnlbpeboiiaaDoorReg6
import Derived.Test.YtpopnlbpeboiiaaDoorOb
import Derived.Test.YtpopnlbpeboiiaaDoorProg
import Derived.WalkKit
import Derived.LaidEql
import Derived.Stop.Asserts
import Derived.RowKitTokens
import Derived.Test.YtpopnlbpeboiiaaDoorRows
import Derived.ChangeVars
import Derived.LaidLaws
import Derived.LaidHandle
import Derived.Stop.Joined
import Derived.Test.YtpopnlbpeboiiaaDoorLawPendF
import Derived.Deep.DeepCutAuto
import Derived.Deep.CutBlock
namespace Go.Proofs.YtpopnlbpeboiiaaDoor
open Go.RowKit
set_option linter.unusedVariables false
set_option linter.unusedSimpArgs false
set_option maxRecDepth 20000
/-- Entries that lie in a block below B. -/
structure EntsV (w : World) (B : Nat) (A : Option Addr) (n : Nat) (es : List EntT) : Prop where
  at_ : Ents w A es
  len : es.length = n
  low : ∀ ad, A = some ad → ad.block < B
theorem Low.cs {N : Nat} {w w' : World} {b : Nat} {vs : List Value} (h : Low N w w') (hb : b < N) (hc : Cs w b vs) : Cs w' b vs := by
  refine ⟨Nat.lt_of_lt_of_le hb h.1, fun j hj => ?_⟩
  have he := h.2 b hb
  exact ⟨(World.cell?_of_block (w := w) he).trans (hc.2 j hj).1, (World.frozen?_of_block (w := w) he).trans (hc.2 j hj).2⟩
theorem Mid.of_below {N : Nat} {w w' : World} (h : Below w.heap.size w w') : Mid N w w' := ⟨h.size, fun q _ hq => h.block q hq⟩
def errP (k : Int) : Value := .iface 43 (.int .i64 k)
/-- Add's answer. -/
def AddR (es : List EntT) (e : EntT) (w : World) (r : Ending) (w' : World) : Prop :=
  (16 ≤ es.length ∧ r = .returned (.tuple #[.slice none 0 0, errP 9]) ∧ Below w.heap.size w w') ∨
  (es.length < 16 ∧ (es.any fun x => x.1 == e.1) = true ∧ r = .returned (.tuple #[.slice none 0 0, errP 7]) ∧ Below w.heap.size w w') ∨
  (es.length < 16 ∧ (es.any fun x => x.1 == e.1) = false ∧ ∃ v, r = .returned (.tuple #[v, .nilIface]) ∧ OBM 19 w.heap.size w v (es.length + 1) (flatE (es ++ [e])) w')
theorem filter_none {es : List EntT} {q : EntT → Bool} (h : es.any q = false) : es.filter q = [] ∧ es.filter (fun e => !q e) = es := by
  rw [List.any_eq_false] at h
  constructor
  · rw [List.filter_eq_nil_iff]; exact h
  · rw [List.filter_eq_self]; intro a ha; have := h a ha; simpa using this
theorem filter_some {es : List EntT} {q : EntT → Bool} (h : es.any q = true) : 0 < (es.filter q).length := by
  rw [List.any_eq_true] at h
  obtain ⟨a, ha, hq⟩ := h
  exact List.length_pos_of_mem (List.mem_filter.2 ⟨ha, hq⟩)
/-- A place's entry fulfils it. -/
def atE (q : EntT → Bool) (es : List EntT) (i : Nat) : Bool := match es[i]? with | some e => q e | none => false
theorem pick_at (q : EntT → Bool) (es : List EntT) : pickE (atE q es) es = es.filter q := pickE_filter q _ es (fun i e he => by unfold atE; rw [he])
theorem pick_not (q : EntT → Bool) (es : List EntT) : pickE (fun i => !atE q es i) es = es.filter (fun e => !q e) := pickE_filter (fun e => !q e) _ es (fun i e he => by unfold atE; rw [he])
set_option maxHeartbeats 6400000 in
theorem add_any (A : Option Addr) (n c : Nat) (es : List EntT) (e : EntT) (w : World) (h : EntsV w w.heap.size A n es) (hn : n ≤ 1000) :
    Calls Tryd.prog 6 #[.slice A n c, entA e] w (AddR es e w) := by
  obtain ⟨i0, hi, hz0, hz1, hz2⟩ := info_parts4 ent_zero
  obtain ⟨AR, hAR⟩ : ∃ R, R = AddR es e w := ⟨_, rfl⟩
  rw [← hAR]
  have HAR := Lib.hid hAR
  have hlen := h.len
  have HV := Lib.hid h
  have HL := Lib.hid hlen
  have HN := Lib.hid hn
  have SP := fun (w1 : World) (g0 : Nat) => split_add g0 A n c es (atE (fun x => x.1 == e.1) es) w.heap.size (fun _ wx => Cs wx g0 (entCells e)) w1
  have OW : Hid (∀ w, Calls Tryd.prog 16 #[entA e] w fun r w' => r = .returned (entA e) ∧ Below w.heap.size w w') := Lib.hid (fun w => own_any e w)
  have CE := Lib.hid (entCells_one e)
  have HSP := Lib.hid SP
  clear h hAR SP hlen
  obtain ⟨e0, e1, e2, e3, e4, e5⟩ := e
  unfold entA entCells at OW ⊢
  unfold entCells at HSP
  simp only at OW HSP ⊢
  have hC := Cs.new w #[.int .u16 e0, .int .u16 0, .bool false, .int .i64 0, .bool false, .bool false, .bool false, .bool false, .int .i64 0, .string e1, .int .u16 e2, .slice none 0 0, .slice none 0 0, .slice none 0 0, .int .i64 0, .string e3, .int .i64 e4, .bool false, .int .i64 e5] 41 [.int .u16 e0, .int .u16 0, .bool false, .int .i64 0, .bool false, .bool false, .bool false, .bool false, .int .i64 0, .string e1, .int .u16 e2, .slice none 0 0, .slice none 0 0, .slice none 0 0, .int .i64 0, .string e3, .int .i64 e4, .bool false, .int .i64 e5]
  have hB := (Below.refl w.heap.size w).alloc (Nat.le_refl _) (.cells #[.int .u16 e0, .int .u16 0, .bool false, .int .i64 0, .bool false, .bool false, .bool false, .bool false, .int .i64 0, .string e1, .int .u16 e2, .slice none 0 0, .slice none 0 0, .slice none 0 0, .int .i64 0, .string e3, .int .i64 e4, .bool false, .int .i64 e5] 41)
  have H0 := Lib.hid (And.intro hC hB)
  have HS0 := Lib.hid (show (w.alloc (.cells #[.int .u16 e0, .int .u16 0, .bool false, .int .i64 0, .bool false, .bool false, .bool false, .bool false, .int .i64 0, .string e1, .int .u16 e2, .slice none 0 0, .slice none 0 0, .slice none 0 0, .int .i64 0, .string e3, .int .i64 e4, .bool false, .int .i64 e5] 41)).heap.size = w.heap.size + 1 by simp)
  clear hC hB
  go_enter Tryd.func6, Tryd.ntmps6
  by_cases hfull : 16 ≤ n
  · have h16 : (16 : Int) ≤ n := by omega
    have h16' : ¬ (n : Int) < 16 := by omega
    go_wp2_with fail
    rw [HAR.out]
    exact .inl ⟨by rw [HL.out]; exact hfull, rfl, H0.out.2⟩
  · have h16 : (n : Int) < 16 := by omega
    have h16' : ¬ (16 : Int) ≤ n := by omega
    have HF := Lib.hid hfull
    clear hfull
    go_upto_region 3 with fail
    generalize w.alloc (.cells #[.int .u16 e0, .int .u16 0, .bool false, .int .i64 0, .bool false, .bool false, .bool false, .bool false, .int .i64 0, .string e1, .int .u16 e2, .slice none 0 0, .slice none 0 0, .slice none 0 0, .int .i64 0, .string e3, .int .i64 e4, .bool false, .int .i64 e5] 41) = w1 at *
    obtain ⟨g, hg⟩ : ∃ g, g = w.heap.size := ⟨_, rfl⟩
    rw [← hg] at H0 ⊢
    have HG := Lib.hid hg
    clear hg
    go_wp2_with fail
    refine (HSP.out w1 g (HV.out.at_.below (by rw [← HG.out]; exact H0.out.2)) HL.out (by have := HN.out; omega) HV.out.low (by have := HS0.out; omega) H0.out.1 (fun k wa wb ha hb => hb.cs (by have := HS0.out; have := HG.out; omega) ha) ?_).mono ?_
    · intro k x wx hx hI hbx hsx
      refine (add1_any x g e0 wx hI.lt (hI.get 0 _)).mono ?_
      rintro r wy ⟨rfl, hb⟩
      refine ⟨by unfold atE; rw [hx], hI.below hb, hb.mono (by have := HS0.out; omega), Mid.of_below hb⟩
    rintro r w2 ⟨v1, v2, rfl, ho1, ho2, hw1, hw2, hd, hI⟩
    rw [pick_at] at ho1
    rw [pick_not] at ho2
    have hB1 : Below w.heap.size w w1 := by rw [← HG.out]; exact H0.out.2
    have ho1 := ho1.out (Nat.le_refl _) hB1
    have ho2 := ho2.out (Nat.le_refl _) hB1
    obtain ⟨V1, C1, rfl, hs1, -, -⟩ := ho1.slice
    obtain ⟨V2, C2, rfl, -, -, -⟩ := ho2.slice
    cases han : es.any (fun x => x.1 == e0) with
    | true =>
      have hpos := filter_some han
      have HB2 := Lib.hid ho1.bel
      have HAN := Lib.hid han
      have HO := Lib.hid ho1
      clear ho1 ho2 hw1 hw2 hd hI hB1 han
      generalize (es.filter fun x => x.1 == e0).length = m at *
      have hm : (0 : Int) < m := by omega
      go_wp2_with fail
      rw [HAR.out]
      exact .inr (.inl ⟨by rw [HL.out]; have := HF.out; omega, HAN.out, rfl, HB2.out⟩)
    | false =>
      obtain ⟨hf1, hf2⟩ := filter_none han
      rw [hf1, List.length_nil]
      rw [hf2, HL.out] at ho2 ⊢
      have HO := Lib.hid ho2
      have HR := Lib.hid hI.range
      have HAN := Lib.hid han
      have HGW := Lib.hid hI.lt
      clear ho1 ho2 hw1 hw2 hd hI hB1 han hf1 hf2
      go_wp2_with (first | refine wpList_load_mid rfl 41 _ rfl g 0 rfl _ _ HR.out Tryd.underlying41 rfl (by kernel_rfl) ?_)
      refine (OW.out _).mono ?_
      rintro r w3 ⟨rfl, hb3⟩
      have ho := Lib.hid ((HO.out.keep hb3 (Nat.le_refl _)).alloc (.cells #[.int .u16 e0, .int .u16 0, .bool false, .int .i64 0, .bool false, .bool false, .bool false, .bool false, .int .i64 0, .string e1, .int .u16 e2, .slice none 0 0, .slice none 0 0, .slice none 0 0, .int .i64 0, .string e3, .int .i64 e4, .bool false, .int .i64 e5] 41))
      have hS : Hid (Src Tryd.prog 19 25 (.slice (some ⟨w3.heap.size, 0, none⟩) 1 1) 1 [.int .u16 e0, .int .u16 0, .bool false, .int .i64 0, .bool false, .bool false, .bool false, .bool false, .int .i64 0, .string e1, .int .u16 e2, .slice none 0 0, .slice none 0 0, .slice none 0 0, .int .i64 0, .string e3, .int .i64 e4, .bool false, .int .i64 e5] (w3.alloc (.cells #[.int .u16 e0, .int .u16 0, .bool false, .int .i64 0, .bool false, .bool false, .bool false, .bool false, .int .i64 0, .string e1, .int .u16 e2, .slice none 0 0, .slice none 0 0, .slice none 0 0, .int .i64 0, .string e3, .int .i64 e4, .bool false, .int .i64 e5] 41))) := by
        refine Lib.hid (Src.ofSlice _ Tryd.underlying25 _ 1 1 _ rfl ?_ CE.out)
        exact news_at w3 #[.int .u16 e0, .int .u16 0, .bool false, .int .i64 0, .bool false, .bool false, .bool false, .bool false, .int .i64 0, .string e1, .int .u16 e2, .slice none 0 0, .slice none 0 0, .slice none 0 0, .int .i64 0, .string e3, .int .i64 e4, .bool false, .int .i64 e5] _
      clear hb3
      go_wp2_with (first | (at_builtin; go_loud (refine wpList_append_obm rfl _ _ 25 25 rfl 41 i0 _ 184 Tryd.underlying25 hi hz0 hz1 hz2 rfl ho.out rfl rfl hS.out rfl (by have := HN.out; unfold maxLen; omega) (by have := HN.out; omega) ?_)))
      intro v' w' p1 p2 p3 p4
      have P1 := Lib.hid p1
      clear p1 p2 p3 p4 ho hS
      go_wp2_with fail
      rw [HAR.out]
      refine .inr (.inr ⟨by rw [HL.out]; have := HF.out; omega, HAN.out, v', rfl, ?_⟩)
      rw [flatE_snoc, HL.out]
      exact P1.out
set_option maxHeartbeats 6400000 in
theorem expire_any (A : Option Addr) (n c : Nat) (es : List EntT) (now : Int) (w : World) (h : EntsV w w.heap.size A n es) (hn : n ≤ 1000) :
    Calls Tryd.prog 10 #[.slice A n c, .int .i64 now] w fun r w' => ∃ v1 v2, r = .returned (.tuple #[v1, v2]) ∧ OBM 19 w.heap.size w v1 (es.filter fun x => decide (x.2.2.2.2.2 ≤ now)).length (flatE (es.filter fun x => decide (x.2.2.2.2.2 ≤ now))) w' ∧
      OBM 19 w.heap.size w v2 (es.filter fun x => !decide (x.2.2.2.2.2 ≤ now)).length (flatE (es.filter fun x => !decide (x.2.2.2.2.2 ≤ now))) w' := by
  have hlen := h.len
  have HV := Lib.hid h
  have HL := Lib.hid hlen
  have HN := Lib.hid hn
  have HSP := Lib.hid (fun (w1 : World) (g0 : Nat) => split_exp g0 A n c es (atE (fun x => decide (x.2.2.2.2.2 ≤ now)) es) w.heap.size (fun _ wx => Cs wx g0 [.int .i64 now]) w1)
  clear h hlen hn
  have hC := Cs.new w #[.int .i64 now] 3 [.int .i64 now]
  have hB := (Below.refl w.heap.size w).alloc (Nat.le_refl _) (.cells #[.int .i64 now] 3)
  have H0 := Lib.hid (And.intro hC hB)
  have HS0 := Lib.hid (show (w.alloc (.cells #[.int .i64 now] 3)).heap.size = w.heap.size + 1 by simp)
  clear hC hB
  go_enter Tryd.func10, Tryd.ntmps10
  go_upto_region 1 with fail
  generalize w.alloc (.cells #[.int .i64 now] 3) = w1 at *
  obtain ⟨g, hg⟩ : ∃ g, g = w.heap.size := ⟨_, rfl⟩
  rw [← hg] at H0 ⊢
  have HG := Lib.hid hg
  clear hg
  go_wp2_with fail
  refine (HSP.out w1 g (HV.out.at_.below (by rw [← HG.out]; exact H0.out.2)) HL.out (by have := HN.out; omega) HV.out.low (by have := HS0.out; omega) H0.out.1 (fun k wa wb ha hb => hb.cs (by have := HS0.out; have := HG.out; omega) ha) ?_).mono ?_
  · intro k x wx hx hI hbx hsx
    refine (exp1_any x g now wx hI.lt (hI.get 0 _)).mono ?_
    rintro r wy ⟨rfl, hb⟩
    refine ⟨by unfold atE; rw [hx], hI.below hb, hb.mono (by have := HS0.out; omega), Mid.of_below hb⟩
  rintro r w2 ⟨v1, v2, rfl, ho1, ho2, hw1, hw2, hd, hI⟩
  rw [pick_at] at ho1
  rw [pick_not] at ho2
  have hB1 : Below w.heap.size w w1 := by rw [← HG.out]; exact H0.out.2
  have HO1 := Lib.hid (ho1.out (Nat.le_refl _) hB1)
  have HO2 := Lib.hid (ho2.out (Nat.le_refl _) hB1)
  clear ho1 ho2 hw1 hw2 hd hI hB1
  go_wp2_with fail
  exact bodyPost_ret (v := .tuple #[v1, v2]) (by simp [results, Tryd.results10, go_sem]) rfl ⟨v1, v2, rfl, by rw [HG.out] at *; exact HO1.out, by rw [HG.out] at *; exact HO2.out⟩
end Go.Proofs.YtpopnlbpeboiiaaDoor
namespace Go.Proofs.YtpopnlbpeboiiaaDoor
open Go.RowKit
set_option linter.unusedVariables false
set_option linter.unusedSimpArgs false
set_option maxRecDepth 20000
/-- The records' cells, one behind the other. -/
def flatR (rs : List RecT) : List Value := rs.flatMap recCells
theorem flatR_len (rs : List RecT) : (flatR rs).length = rs.length * 4 := by
  unfold flatR
  induction rs with
  | nil => rfl
  | cons r rs ih => rw [List.flatMap_cons, List.length_append, ih, List.length_cons, show (recCells r).length = 4 from rfl]; omega
theorem flatR_snoc (rs : List RecT) (r : RecT) : flatR (rs ++ [r]) = flatR rs ++ recCells r := by unfold flatR; simp
theorem flatR_one : ∀ (rs : List RecT), ∀ u ∈ flatR rs, u.oneCell' = true := by
  intro rs u hu
  obtain ⟨r, -, hr⟩ := List.mem_flatMap.1 hu
  unfold recCells at hr
  simp at hr
  rcases hr with rfl | rfl | rfl | rfl <;> rfl
theorem flatR_get : ∀ (rs : List RecT) (i : Nat) (r : RecT), rs[i]? = some r → (flatR rs)[i * 4]? = some (.string r.1) ∧ (flatR rs)[i * 4 + 1]? = some (.int .u16 r.2.1) ∧ (flatR rs)[i * 4 + 2]? = some (.int .u32 r.2.2.1) ∧ (flatR rs)[i * 4 + 3]? = some (.string r.2.2.2)
  | [], i, r, h => by simp at h
  | q :: rs, 0, r, h => by simp at h; subst h; exact ⟨rfl, rfl, rfl, rfl⟩
  | q :: rs, i + 1, r, h => by
    have := flatR_get rs i r (by simpa using h)
    have e : flatR (q :: rs) = recCells q ++ flatR rs := rfl
    have l : (recCells q).length = 4 := rfl
    rw [e]
    refine ⟨?_, ?_, ?_, ?_⟩ <;> rw [List.getElem?_append_right (by rw [l]; omega), l]
    · rw [show (i + 1) * 4 - 4 = i * 4 by omega]; exact this.1
    · rw [show (i + 1) * 4 + 1 - 4 = i * 4 + 1 by omega]; exact this.2.1
    · rw [show (i + 1) * 4 + 2 - 4 = i * 4 + 2 by omega]; exact this.2.2.1
    · rw [show (i + 1) * 4 + 3 - 4 = i * 4 + 3 by omega]; exact this.2.2.2
/-- Cells that lie as records are records. -/
theorem Sl.recs {w : World} {C n : Nat} {A : Option Addr} {rs : List RecT} (h : Sl w C 4 A n (flatR rs)) (hC : C ≤ w.heap.size) (hn : rs.length = n) : Recs w A rs := by
  intro i r hr
  have hi := (List.getElem?_eq_some_iff.1 hr).1
  obtain ⟨b, off, rfl, hb, hc⟩ := h.2 (by omega)
  obtain ⟨g0, g1, g2, g3⟩ := flatR_get rs i r hr
  exact ⟨b, off, rfl, by omega, hc _ _ g0, by have := hc _ _ g1; rwa [← Nat.add_assoc] at this, by have := hc _ _ g2; rwa [← Nat.add_assoc] at this, by have := hc _ _ g3; rwa [← Nat.add_assoc] at this⟩
theorem OBM.recs {B n c : Nat} {W w : World} {A : Option Addr} {rs : List RecT} (h : OBM 4 B W (.slice A n c) n (flatR rs) w) (hn : rs.length = n) : Recs w A rs := h.sl.recs (Nat.le_refl _) hn
/-- Records by numbers, five cells each. -/
structure ActsAt (w : World) (A : Option Addr) (n : Nat) (ds : List ActT) : Prop where
  len : ds.length = n
  ok : ∀ a ∈ ds, ActOk w a
  cells : ∀ i a, ds[i]? = some a → ∃ b off, A = some ⟨b, off, none⟩ ∧ b < w.heap.size ∧ w.cell? ⟨b, off + i * 5, none⟩ = some (rowV a.1) ∧ w.cell? ⟨b, off + i * 5 + 1, none⟩ = some (.int .u8 a.2.1) ∧ w.cell? ⟨b, off + i * 5 + 2, none⟩ = some (.int .u32 a.2.2.1) ∧
    w.cell? ⟨b, off + i * 5 + 3, none⟩ = some (rowV a.2.2.2.1) ∧ w.cell? ⟨b, off + i * 5 + 4, none⟩ = some (.string a.2.2.2.2)
theorem ActsAt.below {w w' : World} {A : Option Addr} {n : Nat} {ds : List ActT} (h : ActsAt w A n ds) (hb : Below w.heap.size w w') : ActsAt w' A n ds := by
  refine ⟨h.len, fun a ha => (h.ok a ha).below hb, fun i a hi => ?_⟩
  obtain ⟨b, off, rfl, hlt, g0, g1, g2, g3, g4⟩ := h.cells i a hi
  exact ⟨b, off, rfl, Nat.lt_of_lt_of_le hlt hb.size, (hb.cell (p := ⟨b, _, none⟩) hlt).trans g0, (hb.cell (p := ⟨b, _, none⟩) hlt).trans g1, (hb.cell (p := ⟨b, _, none⟩) hlt).trans g2, (hb.cell (p := ⟨b, _, none⟩) hlt).trans g3, (hb.cell (p := ⟨b, _, none⟩) hlt).trans g4⟩
theorem u8_wf {z : Int} (h : (Lit.int .u8 z).wf = true) : 0 ≤ z ∧ z < 256 := by
  have : IntKind.u8.min ≤ z ∧ z ≤ IntKind.u8.max := by simpa [Lit.wf] using h
  have a : IntKind.u8.min = 0 := rfl
  have b : IntKind.u8.max = 255 := rfl
  omega
theorem u32_wf {z : Int} (h : (Lit.int .u32 z).wf = true) : 0 ≤ z ∧ z < 4294967296 := by
  have : IntKind.u32.min ≤ z ∧ z ≤ IntKind.u32.max := by simpa [Lit.wf] using h
  have a : IntKind.u32.min = 0 := rfl
  have b : IntKind.u32.max = 4294967295 := rfl
  omega
theorem Acts5.at_ {w : World} {A : Option Addr} {n c : Nat} {ds : List ActT} (h : Acts5 w A n c ds) : ActsAt w A n ds := by
  refine ⟨h.len, fun a ha => ?_, fun i a hi => ?_⟩
  · obtain ⟨h1, h2, h3, h4, h5⟩ := h.ok a ha
    exact ⟨h1.1.sl, Nat.le_trans h1.1.le h1.1.max, u8_wf h2, u32_wf h3, h4.1.sl, Nat.le_trans h4.1.le h4.1.max, h5⟩
  · have hlt := (List.getElem?_eq_some_iff.1 hi).1
    obtain ⟨b, off, he, hb, hc⟩ := h.cells (by have := h.len; omega)
    exact ⟨b, off, he, hb, hc i a hi⟩
theorem Acts5.most {w : World} {A : Option Addr} {n c : Nat} {ds : List ActT} (h : Acts5 w A n c ds) : n ≤ maxLen := Nat.le_trans h.le h.max
/-- The records of numbers, up to so many. -/
def recsOf (ds : List ActT) (most : Nat) : List RecT := (ds.take most).map recOf
theorem recsOf_len (ds : List ActT) (most : Nat) : (recsOf ds most).length = min most ds.length := by unfold recsOf; simp
theorem recsOf_next {ds : List ActT} {most k : Nat} {a : ActT} (hk : k < most) (ha : ds[k]? = some a) : recsOf (ds.take (k + 1)) most = recsOf (ds.take k) most ++ [recOf a] := by
  unfold recsOf
  rw [List.take_take, List.take_take, Nat.min_eq_right (by omega), Nat.min_eq_right (by omega), List.take_add_one, ha]
  simp
theorem recsOf_more {ds : List ActT} {most k : Nat} (hk : ¬ k < most) : recsOf (ds.take (k + 1)) most = recsOf (ds.take k) most := by
  unfold recsOf
  rw [List.take_take, List.take_take, Nat.min_eq_left (by omega), Nat.min_eq_left (by omega)]
end Go.Proofs.YtpopnlbpeboiiaaDoor
namespace Go.Proofs.YtpopnlbpeboiiaaDoor
open Go.RowKit
set_option linter.unusedVariables false
set_option maxRecDepth 20000
set_option maxHeartbeats 1600000 in
theorem same_recs (A A' : Option Addr) (c c' : Nat) (rs rs' : List RecT) (w : World) (h : Recs w A rs) (h' : Recs w A' rs') (hn : rs.length ≤ maxLen) (hn' : rs'.length ≤ maxLen) :
    Calls Tryd.prog 28 #[.slice A rs.length c, .slice A' rs'.length c'] w fun e w' => e = .returned (.bool (decide (rs = rs'))) ∧ Below w.heap.size w w' := by
  unfold maxLen at hn hn'
  by_cases hl : rs.length = rs'.length
  · have hl' : (rs.length : Int) = rs'.length := by omega
    have H := Lib.hid h
    have H' := Lib.hid h'
    clear h h'
    go_enter Tryd.func28, Tryd.ntmps28
    go_wp2_with fail
    go_loopw [13] (fun i wr => ∃ k : Nat, k ≤ rs.length ∧ i = .int .i64 k ∧ rs.take k = rs'.take k ∧ Hid (Below w.heap.size w wr)) (fun i _ => rs.length - (intOf i).toNat)
    case atStart => exact ⟨0, Nat.zero_le _, rfl, by simp, Lib.hid (Below.refl _ _)⟩
    case round =>
      obtain ⟨k, hk, rfl, hT, HB⟩ := hrel
      by_cases hlt : k < rs.length
      · have hlt' : (k : Int) < rs.length := by omega
        obtain ⟨r, hr⟩ : ∃ r, rs[k]? = some r := ⟨_, List.getElem?_eq_getElem hlt⟩
        obtain ⟨r', hr'⟩ : ∃ r, rs'[k]? = some r := ⟨_, List.getElem?_eq_getElem (by omega)⟩
        obtain ⟨b, off, rfl, hb, g0, g1, g2, g3⟩ := (H.out.below HB.out) k _ hr
        obtain ⟨b', off', rfl, hb', g0', g1', g2', g3'⟩ := (H'.out.below HB.out) k _ hr'
        have HT := Lib.hid hT
        have HR := Lib.hid hr
        have HR' := Lib.hid hr'
        obtain ⟨q, hq⟩ : ∃ q, (!(r.1.toList == r'.1.toList && (r.2.1 == r'.2.1 && (r.2.2.1 == r'.2.2.1 && r.2.2.2.toList == r'.2.2.2.toList)))) = q := ⟨_, rfl⟩
        have hnq := fun w => rec_neq r r' w
        rw [hq] at hnq
        unfold recV at hnq
        have HQ := Lib.hid hq
        clear hq hT hr hr'
        go_upto_region 6 with fail
        go_quiet (fail)
        have HB2 := Lib.hid (show Below w.heap.size w _ from ⟨HB.out.os, HB.out.tape, HB.out.output, HB.out.size, HB.out.block⟩ : Below w.heap.size w (World.drewN _ nq))
        generalize World.drewN _ nq = W1 at *
        clear g0 g1 g2 g3 g0' g1' g2' g3' hnq
        cases q with
        | false =>
          go_wp2_with fail
          go_round
          case rel => exact ⟨k + 1, by omega, by go_num, recs_snoc HT.out HR.out HR'.out (rec_eq HQ.out), HB2⟩
          case measure => simp [intOf]; omega
        | true =>
          go_wp2_with fail
          go_ret
          have hd : decide (rs = rs') = false := decide_eq_false fun e => rec_ne HQ.out (by have := HR.out; rw [e, HR'.out] at this; injection this with this; exact this.symm)
          exact ⟨by rw [hd]; rfl, HB2.out⟩
      · have hlt' : ¬ (k : Int) < rs.length := by omega
        go_wp2_with fail
        go_ret
        have hd : decide (rs = rs') = true := decide_eq_true (by rwa [List.take_of_length_le (by omega), List.take_of_length_le (by omega)] at hT)
        exact ⟨by rw [hd]; rfl, HB.out⟩
  · have hl' : ¬ (rs.length : Int) = rs'.length := by omega
    have hd : decide (rs = rs') = false := decide_eq_false fun e => hl (by rw [e])
    go_enter Tryd.func28, Tryd.ntmps28
    go_wp2_with fail
    go_ret
    exact ⟨by rw [hd]; rfl, Below.refl _ _⟩
end Go.Proofs.YtpopnlbpeboiiaaDoor
namespace Go.Proofs.YtpopnlbpeboiiaaDoor
open Go.RowKit
set_option linter.unusedVariables false
set_option linter.unusedSimpArgs false
set_option maxRecDepth 20000
attribute [local simp] putsF isV wordOf Deps Region.binds Region.wanted Act.put wantedX isB
theorem wpList_load_midG {P : Program} {ops : Array Oper} {rest : List Oper} {op : Oper} {a : Act} {w : World} {Q : Exit → Act → World → Prop} (hgd : Region.wanted op (yielded ops a.tmps) = true) (ty : TypeId) (x : Operand) (ho : op.op = .load ty x)
    (b o : Nat) (hx : a.eval x = .pointer (some ⟨b, o, none⟩)) (cs : List Value) (d : TypeDesc) (hc : w.rangeAt b o cs)
    (hu : P.underlying ty = some d) (hd : d.isRow = true) (hi : (P.info? ty).map (·.size) = some cs.length)
    (h : wpList P ops Q rest (a.put op.dst (.agg cs.toArray)) w) : wpList P ops Q (op :: rest) a w := by
  refine wpList_step fun K hK => ?_
  rw [if_pos hgd]
  exact wp_load_mid ty x ho b o hx cs d hc hu hd hi (hK _ _ h)
theorem hdr_fieldsP : ∃ f0 f1 f2 f3 f4 f5 f6 f7, (Tryd.prog.fieldsOf 32).toList = [f0, f1, f2, f3, f4, f5, f6, f7] ∧ (Tryd.prog.underlying f0.type = some (.int .u16) ∧ Tryd.prog.underlying f1.type = some .bool ∧ Tryd.prog.underlying f2.type = some (.int .i64) ∧ Tryd.prog.underlying f3.type = some .bool ∧ Tryd.prog.underlying f4.type = some .bool ∧ Tryd.prog.underlying f5.type = some .bool ∧ Tryd.prog.underlying f6.type = some .bool ∧ Tryd.prog.underlying f7.type = some (.int .i64)) ∧
    (f0.name ≠ "_" ∧ f1.name ≠ "_" ∧ f2.name ≠ "_" ∧ f3.name ≠ "_" ∧ f4.name ≠ "_" ∧ f5.name ≠ "_" ∧ f6.name ≠ "_" ∧ f7.name ≠ "_") ∧ (f0.offset = 0 ∧ f1.offset = 1 ∧ f2.offset = 2 ∧ f3.offset = 3 ∧ f4.offset = 4 ∧ f5.offset = 5 ∧ f6.offset = 6 ∧ f7.offset = 7) ∧ (Tryd.prog.cellsOf f0.type = 1 ∧ Tryd.prog.cellsOf f1.type = 1 ∧ Tryd.prog.cellsOf f2.type = 1 ∧ Tryd.prog.cellsOf f3.type = 1 ∧ Tryd.prog.cellsOf f4.type = 1 ∧ Tryd.prog.cellsOf f5.type = 1 ∧ Tryd.prog.cellsOf f6.type = 1 ∧ Tryd.prog.cellsOf f7.type = 1) :=
  ⟨_, _, _, _, _, _, _, _, rfl, ⟨by kernel_rfl, by kernel_rfl, by kernel_rfl, by kernel_rfl, by kernel_rfl, by kernel_rfl, by kernel_rfl, by kernel_rfl⟩, ⟨by decide, by decide, by decide, by decide, by decide, by decide, by decide, by decide⟩, ⟨rfl, rfl, rfl, rfl, rfl, rfl, rfl, rfl⟩, ⟨by kernel_rfl, by kernel_rfl, by kernel_rfl, by kernel_rfl, by kernel_rfl, by kernel_rfl, by kernel_rfl, by kernel_rfl⟩⟩
theorem hdr_eqlP (w : World) : (binOp .eql 32 (.agg #[.int .u16 0, .bool false, .int .i64 0, .bool false, .bool false, .bool false, .bool false, .int .i64 0]) (.agg #[.int .u16 0, .bool false, .int .i64 0, .bool false, .bool false, .bool false, .bool false, .int .i64 0])).run Tryd.prog w = .ok (.bool true) w := by
  obtain ⟨f0, f1, f2, f3, f4, f5, f6, f7, hf, ⟨t0, t1, t2, t3, t4, t5, t6, t7⟩, ⟨n0, n1, n2, n3, n4, n5, n6, n7⟩, ⟨o0, o1, o2, o3, o4, o5, o6, o7⟩, ⟨c0, c1, c2, c3, c4, c5, c6, c7⟩⟩ := hdr_fieldsP
  rw [run_eql_struct, run_equalIn_agg (P := Tryd.prog) w _ _ _ _ Tryd.underlying32 (by kernel_rfl), hf]
  simp [go_sem, Op.eqFields, isAgg, run_underlying t0, run_underlying t1, run_underlying t2, run_underlying t3, run_underlying t4, run_underlying t5, run_underlying t6, run_underlying t7, t0, t1, t2, t3, t4, t5, t6, t7, n0, n1, n2, n3, n4, n5, n6, n7, o0, o1, o2, o3, o4, o5, o6, o7]
theorem q_eql (a b : ByteArray) (x y : Int) (w : World) : (binOp .eql 36 (.agg #[.string a, .int .u16 x]) (.agg #[.string b, .int .u16 y])).run Tryd.prog w = .ok (.bool (a.toList == b.toList && x == y)) w := by
  obtain ⟨f0, f1, hf, ⟨t0, t1⟩, ⟨n0, n1⟩, ⟨o0, o1⟩, ⟨c0, c1⟩⟩ := q_fields
  rw [run_eql_struct, run_equalIn_agg (P := Tryd.prog) w _ _ _ _ Tryd.underlying36 (by kernel_rfl), hf]
  simp [go_sem, Op.eqFields, isAgg, run_underlying t0, run_underlying t1, t0, t1, n0, n1, o0, o1]
  by_cases e0 : a.toList = b.toList <;> by_cases e1 : x = y <;> simp [e0, e1]
set_option maxHeartbeats 1600000 in
theorem same05_self (e1 : ByteArray) (e2 : Int) (w : World) : Calls Tryd.prog 19 #[.agg #[.int .u16 0, .bool false, .int .i64 0, .bool false, .bool false, .bool false, .bool false, .int .i64 0, .string e1, .int .u16 e2, .slice none 0 0, .slice none 0 0, .slice none 0 0, .int .i64 0], .agg #[.int .u16 0, .bool false, .int .i64 0, .bool false, .bool false, .bool false, .bool false, .int .i64 0, .string e1, .int .u16 e2, .slice none 0 0, .slice none 0 0, .slice none 0 0, .int .i64 0]] w fun r w' => r = .returned (.bool true) ∧ Below w.heap.size w w' := by
  have SR : ∀ w : World, Calls Tryd.prog 28 #[.slice none 0 0, .slice none 0 0] w fun r w' => r = .returned (.bool true) ∧ Below w.heap.size w w' := fun w => by
    have := same_recs none none 0 0 [] [] w (fun i r h => by simp at h) (fun i r h => by simp at h) (by simp) (by simp)
    simpa using this
  have SR := Lib.hid SR
  have HE := fun w => hdr_eqlP w
  have QE := fun w => q_eql e1 e1 e2 e2 w
  simp only [BEq.rfl, Bool.and_self] at QE
  have hA := (Cs.new w #[.int .u16 0, .bool false, .int .i64 0, .bool false, .bool false, .bool false, .bool false, .int .i64 0, .string e1, .int .u16 e2, .slice none 0 0, .slice none 0 0, .slice none 0 0, .int .i64 0] 39 [.int .u16 0, .bool false, .int .i64 0, .bool false, .bool false, .bool false, .bool false, .int .i64 0, .string e1, .int .u16 e2, .slice none 0 0, .slice none 0 0, .slice none 0 0, .int .i64 0]).alloc (.cells #[.int .u16 0, .bool false, .int .i64 0, .bool false, .bool false, .bool false, .bool false, .int .i64 0, .string e1, .int .u16 e2, .slice none 0 0, .slice none 0 0, .slice none 0 0, .int .i64 0] 39)
  have hB := (Cs.new (w.alloc (.cells #[.int .u16 0, .bool false, .int .i64 0, .bool false, .bool false, .bool false, .bool false, .int .i64 0, .string e1, .int .u16 e2, .slice none 0 0, .slice none 0 0, .slice none 0 0, .int .i64 0] 39)) #[.int .u16 0, .bool false, .int .i64 0, .bool false, .bool false, .bool false, .bool false, .int .i64 0, .string e1, .int .u16 e2, .slice none 0 0, .slice none 0 0, .slice none 0 0, .int .i64 0] 39 [.int .u16 0, .bool false, .int .i64 0, .bool false, .bool false, .bool false, .bool false, .int .i64 0, .string e1, .int .u16 e2, .slice none 0 0, .slice none 0 0, .slice none 0 0, .int .i64 0]).at_ (w.heap.size + 1) (by simp)
  have hb0 := ((Below.refl w.heap.size w).alloc (Nat.le_refl _) (.cells #[.int .u16 0, .bool false, .int .i64 0, .bool false, .bool false, .bool false, .bool false, .int .i64 0, .string e1, .int .u16 e2, .slice none 0 0, .slice none 0 0, .slice none 0 0, .int .i64 0] 39)).alloc (by simp) (.cells #[.int .u16 0, .bool false, .int .i64 0, .bool false, .bool false, .bool false, .bool false, .int .i64 0, .string e1, .int .u16 e2, .slice none 0 0, .slice none 0 0, .slice none 0 0, .int .i64 0] 39)
  go_enter Tryd.func19, Tryd.ntmps19
  go_wp2_with fail
  refine (SR.out _).mono ?_
  rintro e w1 ⟨rfl, hb1'⟩
  have hA1 := hA.below hb1'
  have hB1 := hB.below hb1'
  have hb1 := below_trans hb0 hb0.size hb1'
  have a11 := hA1.get 11 _
  have b11 := hB1.get 11 _
  clear hA hB hb0 hb1'
  go_wp2_with fail
  refine (SR.out _).mono ?_
  rintro e w2 ⟨rfl, hb2'⟩
  have hA2 := hA1.below hb2'
  have hB2 := hB1.below hb2'
  have hb2 := below_trans hb1 hb1.size hb2'
  have a12 := hA2.get 12 _
  have b12 := hB2.get 12 _
  clear hA1 hB1 hb1 hb2' a11 b11
  go_wp2_with fail
  refine (SR.out _).mono ?_
  rintro e w3 ⟨rfl, hb3'⟩
  have hb3 := below_trans hb2 hb2.size hb3'
  clear hA2 hB2
  go_wp2_with fail
  go_ret
  exact ⟨rfl, hb3⟩
set_option maxHeartbeats 3200000 in
theorem same26_self (e : EntT) (w : World) : Calls Tryd.prog 9 #[entA e, entA e] w fun r w' => r = .returned (.bool true) ∧ Below w.heap.size w w' := by
  obtain ⟨e0, e1, e2, e3, e4, e5⟩ := e
  unfold entA entCells
  simp only
  have SM := Lib.hid (fun w => same05_self e1 e2 w)
  have hA := (Cs.new w #[.int .u16 e0, .int .u16 0, .bool false, .int .i64 0, .bool false, .bool false, .bool false, .bool false, .int .i64 0, .string e1, .int .u16 e2, .slice none 0 0, .slice none 0 0, .slice none 0 0, .int .i64 0, .string e3, .int .i64 e4, .bool false, .int .i64 e5] 41 [.int .u16 e0, .int .u16 0, .bool false, .int .i64 0, .bool false, .bool false, .bool false, .bool false, .int .i64 0, .string e1, .int .u16 e2, .slice none 0 0, .slice none 0 0, .slice none 0 0, .int .i64 0, .string e3, .int .i64 e4, .bool false, .int .i64 e5]).alloc (.cells #[.int .u16 e0, .int .u16 0, .bool false, .int .i64 0, .bool false, .bool false, .bool false, .bool false, .int .i64 0, .string e1, .int .u16 e2, .slice none 0 0, .slice none 0 0, .slice none 0 0, .int .i64 0, .string e3, .int .i64 e4, .bool false, .int .i64 e5] 41)
  have hB := (Cs.new (w.alloc (.cells #[.int .u16 e0, .int .u16 0, .bool false, .int .i64 0, .bool false, .bool false, .bool false, .bool false, .int .i64 0, .string e1, .int .u16 e2, .slice none 0 0, .slice none 0 0, .slice none 0 0, .int .i64 0, .string e3, .int .i64 e4, .bool false, .int .i64 e5] 41)) #[.int .u16 e0, .int .u16 0, .bool false, .int .i64 0, .bool false, .bool false, .bool false, .bool false, .int .i64 0, .string e1, .int .u16 e2, .slice none 0 0, .slice none 0 0, .slice none 0 0, .int .i64 0, .string e3, .int .i64 e4, .bool false, .int .i64 e5] 41 [.int .u16 e0, .int .u16 0, .bool false, .int .i64 0, .bool false, .bool false, .bool false, .bool false, .int .i64 0, .string e1, .int .u16 e2, .slice none 0 0, .slice none 0 0, .slice none 0 0, .int .i64 0, .string e3, .int .i64 e4, .bool false, .int .i64 e5]).at_ (w.heap.size + 1) (by simp)
  have hb0 := ((Below.refl w.heap.size w).alloc (Nat.le_refl _) (.cells #[.int .u16 e0, .int .u16 0, .bool false, .int .i64 0, .bool false, .bool false, .bool false, .bool false, .int .i64 0, .string e1, .int .u16 e2, .slice none 0 0, .slice none 0 0, .slice none 0 0, .int .i64 0, .string e3, .int .i64 e4, .bool false, .int .i64 e5] 41)).alloc (by simp) (.cells #[.int .u16 e0, .int .u16 0, .bool false, .int .i64 0, .bool false, .bool false, .bool false, .bool false, .int .i64 0, .string e1, .int .u16 e2, .slice none 0 0, .slice none 0 0, .slice none 0 0, .int .i64 0, .string e3, .int .i64 e4, .bool false, .int .i64 e5] 41)
  have H0 := Lib.hid (And.intro hA (And.intro hB hb0))
  clear hA hB hb0
  go_enter Tryd.func9, Tryd.ntmps9
  go_upto_region 1 with fail
  obtain ⟨hA, hB, hb0⟩ := H0.out
  generalize (w.alloc (.cells #[.int .u16 e0, .int .u16 0, .bool false, .int .i64 0, .bool false, .bool false, .bool false, .bool false, .int .i64 0, .string e1, .int .u16 e2, .slice none 0 0, .slice none 0 0, .slice none 0 0, .int .i64 0, .string e3, .int .i64 e4, .bool false, .int .i64 e5] 41)).alloc (.cells #[.int .u16 e0, .int .u16 0, .bool false, .int .i64 0, .bool false, .bool false, .bool false, .bool false, .int .i64 0, .string e1, .int .u16 e2, .slice none 0 0, .slice none 0 0, .slice none 0 0, .int .i64 0, .string e3, .int .i64 e4, .bool false, .int .i64 e5] 41) = w0 at *
  obtain ⟨a, ha⟩ : ∃ a, a = w.heap.size := ⟨_, rfl⟩
  obtain ⟨b, hb⟩ : ∃ b, b = w.heap.size + 1 := ⟨_, rfl⟩
  rw [← hb] at hB ⊢
  rw [← ha] at hA ⊢
  have HA := Lib.hid hA
  have HB := Lib.hid hB
  have HBE := Lib.hid hb0
  have a0 := hA.get 0 _
  have b0 := hB.get 0 _
  have RA := Lib.hid (hA.part 1 14 [.int .u16 0, .bool false, .int .i64 0, .bool false, .bool false, .bool false, .bool false, .int .i64 0, .string e1, .int .u16 e2, .slice none 0 0, .slice none 0 0, .slice none 0 0, .int .i64 0])
  have RB := Lib.hid (hB.part 1 14 [.int .u16 0, .bool false, .int .i64 0, .bool false, .bool false, .bool false, .bool false, .int .i64 0, .string e1, .int .u16 e2, .slice none 0 0, .slice none 0 0, .slice none 0 0, .int .i64 0])
  have hq : (e0 == e0) = true := BEq.rfl
  clear H0 hA hB hb0 ha hb
  go_wp2_with (first | refine wpList_load_midG rfl 39 _ rfl a 1 rfl _ _ RA.out Tryd.underlying39 rfl (by kernel_rfl) ?_ | refine wpList_load_midG rfl 39 _ rfl b 1 rfl _ _ RB.out Tryd.underlying39 rfl (by kernel_rfl) ?_)
  refine (SM.out _).mono ?_
  rintro e w3 ⟨rfl, hb3⟩
  have hA3 := HA.out.below hb3
  have hB3 := HB.out.below hb3
  have a15 := hA3.get 15 _
  have a16 := hA3.get 16 _
  have a17 := hA3.get 17 _
  have a18 := hA3.get 18 _
  have b15 := hB3.get 15 _
  have b16 := hB3.get 16 _
  have b17 := hB3.get 17 _
  have b18 := hB3.get 18 _
  have HB3 := Lib.hid (below_trans HBE.out HBE.out.size hb3)
  clear hA3 hB3 hb3 a0 b0
  go_wp2_with fail
  go_ret
  exact ⟨rfl, HB3.out⟩
set_option maxHeartbeats 3200000 in
theorem all26_self (A A' : Option Addr) (n c c' : Nat) (es : List EntT) (w : World) (h : Ents w A es) (h' : Ents w A' es) (hl : es.length = n) (hn : n ≤ 1048576) :
    Calls Tryd.prog 11 #[.slice A n c, .slice A' n c'] w fun r w' => r = .returned (.bool true) ∧ Below w.heap.size w w' := by
  have H := Lib.hid h
  have H' := Lib.hid h'
  have HL := Lib.hid hl
  clear h h' hl
  go_enter Tryd.func11, Tryd.ntmps11
  go_wp2_with fail
  go_loopw [13] (fun i wr => ∃ (k : Nat), k ≤ n ∧ i = .int .i64 k ∧ Hid (Below w.heap.size w wr)) (fun i _ => n - (intOf i).toNat)
  case atStart => exact ⟨0, Nat.zero_le _, rfl, Lib.hid (Below.refl _ _)⟩
  case round =>
    obtain ⟨k, hk, rfl, HB⟩ := hrel
    by_cases hlt : k < n
    · have hlt' : (k : Int) < n := by omega
      obtain ⟨e, he⟩ : ∃ r, es[k]? = some r := ⟨_, List.getElem?_eq_getElem (by rw [HL.out]; omega)⟩
      obtain ⟨b1, o1, rfl, hb1, hc1⟩ := H.out k e he
      obtain ⟨b2, o2, rfl, hb2, hc2⟩ := H'.out k e he
      have R1 : Hid (w.rangeAt b1 (o1 + k * 19) (entCells e)) := Lib.hid (fun j v hv => hc1 j v hv)
      have R2 : Hid (w.rangeAt b2 (o2 + k * 19) (entCells e)) := Lib.hid (fun j v hv => hc2 j v hv)
      have SM := Lib.hid (fun w => same26_self e w)
      have HB1 := Lib.hid hb1
      have HB2 := Lib.hid hb2
      have HK := Lib.hid hk
      clear hc1 hc2 he hb1 hb2
      obtain ⟨EA, hEA⟩ : ∃ x, x = entA e := ⟨_, rfl⟩
      have HEA := Lib.hid hEA
      clear hEA
      go_upto_region 6 with fail
      refine wp_region_goesG data_follows (fun x => by simp [putsF, Act.put]; rfl) wr.heap.size wr
        [isV (.slice (some ⟨b1, o1, none⟩) n c), isV (.int .i64 (k : Nat)), isV (.pointer (some ⟨b1, o1 + k * 19, none⟩)), isV EA, isV (.slice (some ⟨b2, o2, none⟩) n c'), isV (.int .i64 (k : Nat)), isV (.pointer (some ⟨b2, o2 + k * 19, none⟩)), isV EA, isV (.bool true), isV (.bool false)]
        (by kernel_rfl) (by kernel_rfl) (by kernel_rfl) rfl ?_ (Below.refl _ _) ?_ ?_
      · repeat (first | exact trivial | refine ⟨isV_stays _, ?_⟩)
      · refine ⟨?_, ?_, ?_, ?_, ?_, ?_, ?_, ?_, ?_, ?_, trivial⟩
        all_goals
          intro x wx hR hd
          refine ⟨fun _ => ?_, fun hX => by simp at hX⟩
          simp at hd ⊢
        · go_simp; exact next_same _ rfl rfl hR
        · go_simp; exact next_same _ rfl rfl hR
        · obtain ⟨hd0, hd1⟩ := hd; go_simp; exact next_same _ rfl rfl hR
        · refine wp_load_mid 41 _ rfl b1 (o1 + k * 19) (by simp [go_sem, hd]) _ _ (fun j v hv => (hR.cell (p := ⟨b1, _, none⟩) (Nat.lt_of_lt_of_le HB1.out HB.out.size)).trans ((HB.out.cell (p := ⟨b1, _, none⟩) HB1.out).trans (R1.out j v hv))) Tryd.underlying41 rfl (by kernel_rfl) ?_
          exact next_same _ rfl HEA.out.symm hR
        · go_simp; exact next_same _ rfl rfl hR
        · go_simp; exact next_same _ rfl rfl hR
        · obtain ⟨hd0, hd1⟩ := hd; go_simp; exact next_same _ rfl rfl hR
        · refine wp_load_mid 41 _ rfl b2 (o2 + k * 19) (by simp [go_sem, hd]) _ _ (fun j v hv => (hR.cell (p := ⟨b2, _, none⟩) (Nat.lt_of_lt_of_le HB2.out HB.out.size)).trans ((HB.out.cell (p := ⟨b2, _, none⟩) HB2.out).trans (R2.out j v hv))) Tryd.underlying41 rfl (by kernel_rfl) ?_
          exact next_same _ rfl HEA.out.symm hR
        · obtain ⟨hd0, hd1⟩ := hd
          go_simp
          rw [HEA.out]
          go_at_call 9
          refine (SM.out wx).mono ?_
          rintro r w2 ⟨rfl, hb⟩
          exact next_call _ rfl rfl hR hR.size hb
        · go_simp; exact next_same _ rfl rfl hR
      intro x wx hR hx
      simp [AllWords] at hx
      obtain ⟨-, -, -, -, -, -, -, -, -, h9⟩ := hx
      rw [h9]
      clear h9
      have HBX := Lib.hid (below_trans HB.out HB.out.size hR)
      clear hR
      go_wp2_with fail
      go_round
      case rel => exact ⟨k + 1, by omega, by go_num, HBX⟩
      case measure => simp [intOf]; omega
    · have hlt' : ¬ (k : Int) < n := by omega
      go_wp2_with fail
      go_ret
      exact ⟨rfl, HB.out⟩
end Go.Proofs.YtpopnlbpeboiiaaDoor
namespace Go.Proofs.YtpopnlbpeboiiaaDoor
open Go.RowKit
set_option linter.unusedVariables false
set_option linter.unusedSimpArgs false
set_option maxRecDepth 20000
theorem pickE_congr {p q : Nat → Bool} {es : List EntT} (h : ∀ i, i < es.length → p i = q i) : pickE p es = pickE q es := by
  unfold pickE
  congr 1
  refine List.filter_congr fun x hx => ?_
  have := List.mem_zipIdx hx
  exact h _ (by have := this.2.1; omega)
theorem zip_above (l : List EntT) : ∀ (k m : Nat), m < k → (l.zipIdx k).filter (fun x => x.2 == m) = [] ∧ ((l.zipIdx k).filter (fun x => !(x.2 == m))).map (·.1) = l := by
  induction l with
  | nil => intro k m _; exact ⟨rfl, rfl⟩
  | cons a l ih =>
    intro k m h
    obtain ⟨h1, h2⟩ := ih (k + 1) m (by omega)
    have hf : (k == m) = false := by rw [beq_eq_false_iff_ne]; omega
    rw [List.zipIdx_cons, List.filter_cons, List.filter_cons]
    simp only [hf]
    exact ⟨h1, by simp only [Bool.false_eq_true, Bool.not_false, if_true, List.map_cons, h2]⟩
theorem zip_at (l : List EntT) : ∀ (k a : Nat), ((l.zipIdx k).filter (fun x => x.2 == k + a)).map (·.1) = l[a]?.toList ∧ ((l.zipIdx k).filter (fun x => !(x.2 == k + a))).map (·.1) = l.eraseIdx a := by
  induction l with
  | nil => intro k a; simp
  | cons x l ih =>
    intro k a
    rw [List.zipIdx_cons, List.filter_cons, List.filter_cons]
    cases a with
    | zero =>
      obtain ⟨h1, h2⟩ := zip_above l (k + 1) k (by omega)
      simp only [Nat.add_zero, BEq.rfl, if_true, Bool.not_true, Bool.false_eq_true, if_false, List.map_cons, h1, List.map_nil]
      exact ⟨by simp, by rw [h2]; rfl⟩
    | succ a =>
      obtain ⟨h1, h2⟩ := ih (k + 1) a
      have hf : (k == k + (a + 1)) = false := by rw [beq_eq_false_iff_ne]; omega
      rw [show k + 1 + a = k + (a + 1) by omega] at h1 h2
      simp only [hf, Bool.false_eq_true, if_false, Bool.not_false, if_true, List.map_cons, h1, h2]
      exact ⟨by simp, by simp⟩
/-- The place's entry is the first one that is hit. -/
def firstE (q : EntT → Bool) (es : List EntT) (i : Nat) : Bool := !((es.take i).any q) && atE q es i
theorem firstE_is (q : EntT → Bool) (es : List EntT) (a : Nat) (ha : a < es.length) (h1 : q es[a] = true) (h2 : ∀ i (hi : i < es.length), i < a → q es[i] = false) : ∀ i, i < es.length → firstE q es i = (i == a) := by
  intro i hi
  have hat : atE q es i = q es[i] := by unfold atE; rw [List.getElem?_eq_getElem hi]
  unfold firstE
  rw [hat]
  rcases Nat.lt_trichotomy i a with h | h | h
  · rw [h2 i hi h, Bool.and_false, beq_eq_false_iff_ne.2 (by omega)]
  · subst h
    rw [h1, Bool.and_true, BEq.rfl, Bool.not_eq_true']
    rw [List.any_eq_false]
    intro x hx
    obtain ⟨j, hj, rfl⟩ := List.getElem_of_mem hx
    rw [List.length_take] at hj
    rw [List.getElem_take, h2 j (by omega) (by omega)]
    simp
  · have : (es.take i).any q = true := by
      rw [List.any_eq_true]
      refine ⟨es[a], ?_, h1⟩
      rw [List.mem_iff_getElem]
      exact ⟨a, by rw [List.length_take]; omega, by rw [List.getElem_take]⟩
    rw [this, beq_eq_false_iff_ne.2 (by omega)]; rfl
theorem pick_first (q : EntT → Bool) (es : List EntT) (a : Nat) (ha : a < es.length) (h1 : q es[a] = true) (h2 : ∀ i (hi : i < es.length), i < a → q es[i] = false) : pickE (firstE q es) es = [es[a]] ∧ pickE (fun i => !firstE q es i) es = es.eraseIdx a := by
  have hf := firstE_is q es a ha h1 h2
  obtain ⟨z1, z2⟩ := zip_at es 0 a
  rw [Nat.zero_add] at z1 z2
  constructor
  · rw [pickE_congr hf]; unfold pickE; rw [z1, List.getElem?_eq_getElem ha]; rfl
  · rw [pickE_congr (q := fun i => !(i == a)) (fun i hi => by rw [hf i hi])]; unfold pickE; exact z2
theorem results_cell3 {fn : Func} {p u v : Tmp} {ty : TypeId} (h : fn.results = #[.cell p ty, .tmp u, .tmp v]) (tmps : Array Value) (P : Program) (w : World) (b o : Nat) (cs : List Value) (d : TypeDesc) (hp : tmps.getD p undef = .pointer (some ⟨b, o, none⟩)) (hc : w.rangeAt b o cs)
    (hu : P.underlying ty = some d) (hd : d.isRow = true) (hi : (P.info? ty).map (·.size) = some cs.length) : (results fn tmps).run P w = .ok (.tuple #[.agg cs.toArray, tmps.getD u undef, tmps.getD v undef]) w := by
  have hp2 : tmps[p]?.getD undef = .pointer (some ⟨b, o, none⟩) := by rw [← hp, Array.getD_eq_getD_getElem?]
  simp only [results, h]
  simp [Sem.run_bind, Result.andThen, hp2, asAddr, run_loadVar_mid w b o ty cs d hc hu hd hi]
/-- Match's answer. -/
def MatchR (id : Int) (qn : ByteArray) (qt : Int) (es : List EntT) (w : World) (r : Ending) (w' : World) : Prop :=
  ((∀ e ∈ es, hitE id qn qt e = false) ∧ r = .returned (.tuple #[entA (e26 0), .slice none 0 0, .bool false]) ∧ Below w.heap.size w w') ∨
  (∃ a, ∃ ha : a < es.length, hitE id qn qt es[a] = true ∧ (∀ i (hi : i < es.length), i < a → hitE id qn qt es[i] = false) ∧ ∃ v, r = .returned (.tuple #[entA es[a], v, .bool true]) ∧ OBM 19 w.heap.size w v (es.eraseIdx a).length (flatE (es.eraseIdx a)) w')
theorem first_hit (q : EntT → Bool) : ∀ (es : List EntT), es.any q = true → ∃ a, ∃ ha : a < es.length, q es[a] = true ∧ ∀ i (hi : i < es.length), i < a → q es[i] = false
  | [], h => by simp at h
  | x :: es, h => by
    cases hx : q x with
    | true => exact ⟨0, by simp, hx, fun i hi hlt => by omega⟩
    | false =>
      rw [List.any_cons, hx, Bool.false_or] at h
      obtain ⟨a, ha, h1, h2⟩ := first_hit q es h
      refine ⟨a + 1, by simpa using ha, by simpa using h1, fun i hi hlt => ?_⟩
      cases i with
      | zero => simpa using hx
      | succ i => simpa using h2 i (by simpa using hi) (by omega)
set_option maxHeartbeats 6400000 in
theorem match_any (A : Option Addr) (n c : Nat) (es : List EntT) (id : Int) (qn : ByteArray) (qt : Int) (w : World) (h : EntsV w w.heap.size A n es) (hn : n ≤ 1000) :
    Calls Tryd.prog 8 #[.slice A n c, .int .u16 id, .agg #[.string qn, .int .u16 qt]] w (MatchR id qn qt es w) := by
  obtain ⟨AR, hAR⟩ : ∃ R, R = MatchR id qn qt es w := ⟨_, rfl⟩
  rw [← hAR]
  have HAR := Lib.hid hAR
  have hlen := h.len
  have HV := Lib.hid h
  have HL := Lib.hid hlen
  have HN := Lib.hid hn
  have HSP := Lib.hid (fun (w1 : World) (g0 g1 g3 g6 : Nat) => split_match g0 g1 g3 A n c es (firstE (hitE id qn qt) es) w.heap.size (fun k wx => Cs wx g0 [.bool ((es.take k).any (hitE id qn qt))] ∧ Cs wx g1 [.int .u16 id] ∧ Cs wx g3 [.string qn, .int .u16 qt] ∧ Cs wx g6 [.int .u16 0, .int .u16 0, .bool false, .int .i64 0, .bool false, .bool false, .bool false, .bool false, .int .i64 0, .string ⟨#[]⟩, .int .u16 0, .slice none 0 0, .slice none 0 0, .slice none 0 0, .int .i64 0, .string ⟨#[]⟩, .int .i64 0, .bool false, .int .i64 0]) w1)
  clear h hAR hlen hn
  have hC1 : Cs ((((w.alloc (.cells #[.int .u16 id] 30)).alloc (.cells #[.string qn, .int .u16 qt] 36)).alloc (.cells #[.int .u16 0, .int .u16 0, .bool false, .int .i64 0, .bool false, .bool false, .bool false, .bool false, .int .i64 0, .string ⟨#[]⟩, .int .u16 0, .slice none 0 0, .slice none 0 0, .slice none 0 0, .int .i64 0, .string ⟨#[]⟩, .int .i64 0, .bool false, .int .i64 0] 41)).alloc (.cells #[.bool false] 4)) w.heap.size [.int .u16 id] := (((Cs.new w #[.int .u16 id] 30 [.int .u16 id]).alloc _).alloc _).alloc _
  have hC3 : Cs ((((w.alloc (.cells #[.int .u16 id] 30)).alloc (.cells #[.string qn, .int .u16 qt] 36)).alloc (.cells #[.int .u16 0, .int .u16 0, .bool false, .int .i64 0, .bool false, .bool false, .bool false, .bool false, .int .i64 0, .string ⟨#[]⟩, .int .u16 0, .slice none 0 0, .slice none 0 0, .slice none 0 0, .int .i64 0, .string ⟨#[]⟩, .int .i64 0, .bool false, .int .i64 0] 41)).alloc (.cells #[.bool false] 4)) (w.heap.size + 1) [.string qn, .int .u16 qt] := (((Cs.new _ #[.string qn, .int .u16 qt] 36 [.string qn, .int .u16 qt]).at_ (w.heap.size + 1) (by simp)).alloc _).alloc _
  have hC6 : Cs ((((w.alloc (.cells #[.int .u16 id] 30)).alloc (.cells #[.string qn, .int .u16 qt] 36)).alloc (.cells #[.int .u16 0, .int .u16 0, .bool false, .int .i64 0, .bool false, .bool false, .bool false, .bool false, .int .i64 0, .string ⟨#[]⟩, .int .u16 0, .slice none 0 0, .slice none 0 0, .slice none 0 0, .int .i64 0, .string ⟨#[]⟩, .int .i64 0, .bool false, .int .i64 0] 41)).alloc (.cells #[.bool false] 4)) (w.heap.size + 1 + 1) [.int .u16 0, .int .u16 0, .bool false, .int .i64 0, .bool false, .bool false, .bool false, .bool false, .int .i64 0, .string ⟨#[]⟩, .int .u16 0, .slice none 0 0, .slice none 0 0, .slice none 0 0, .int .i64 0, .string ⟨#[]⟩, .int .i64 0, .bool false, .int .i64 0] := ((Cs.new _ #[.int .u16 0, .int .u16 0, .bool false, .int .i64 0, .bool false, .bool false, .bool false, .bool false, .int .i64 0, .string ⟨#[]⟩, .int .u16 0, .slice none 0 0, .slice none 0 0, .slice none 0 0, .int .i64 0, .string ⟨#[]⟩, .int .i64 0, .bool false, .int .i64 0] 41 [.int .u16 0, .int .u16 0, .bool false, .int .i64 0, .bool false, .bool false, .bool false, .bool false, .int .i64 0, .string ⟨#[]⟩, .int .u16 0, .slice none 0 0, .slice none 0 0, .slice none 0 0, .int .i64 0, .string ⟨#[]⟩, .int .i64 0, .bool false, .int .i64 0]).at_ (w.heap.size + 1 + 1) (by simp)).alloc _
  have hC0 : Cs ((((w.alloc (.cells #[.int .u16 id] 30)).alloc (.cells #[.string qn, .int .u16 qt] 36)).alloc (.cells #[.int .u16 0, .int .u16 0, .bool false, .int .i64 0, .bool false, .bool false, .bool false, .bool false, .int .i64 0, .string ⟨#[]⟩, .int .u16 0, .slice none 0 0, .slice none 0 0, .slice none 0 0, .int .i64 0, .string ⟨#[]⟩, .int .i64 0, .bool false, .int .i64 0] 41)).alloc (.cells #[.bool false] 4)) (w.heap.size + 1 + 1 + 1) [.bool false] := (Cs.new _ #[.bool false] 4 [.bool false]).at_ (w.heap.size + 1 + 1 + 1) (by simp)
  have hB : Below w.heap.size w ((((w.alloc (.cells #[.int .u16 id] 30)).alloc (.cells #[.string qn, .int .u16 qt] 36)).alloc (.cells #[.int .u16 0, .int .u16 0, .bool false, .int .i64 0, .bool false, .bool false, .bool false, .bool false, .int .i64 0, .string ⟨#[]⟩, .int .u16 0, .slice none 0 0, .slice none 0 0, .slice none 0 0, .int .i64 0, .string ⟨#[]⟩, .int .i64 0, .bool false, .int .i64 0] 41)).alloc (.cells #[.bool false] 4)) := ((((Below.refl w.heap.size w).alloc (Nat.le_refl _) _).alloc (by simp) _).alloc (by simp; omega) _).alloc (by simp; omega) _
  have HS0 := Lib.hid (show ((((w.alloc (.cells #[.int .u16 id] 30)).alloc (.cells #[.string qn, .int .u16 qt] 36)).alloc (.cells #[.int .u16 0, .int .u16 0, .bool false, .int .i64 0, .bool false, .bool false, .bool false, .bool false, .int .i64 0, .string ⟨#[]⟩, .int .u16 0, .slice none 0 0, .slice none 0 0, .slice none 0 0, .int .i64 0, .string ⟨#[]⟩, .int .i64 0, .bool false, .int .i64 0] 41)).alloc (.cells #[.bool false] 4)).heap.size = w.heap.size + 4 by simp)
  have H0 := Lib.hid (And.intro hC1 (And.intro hC3 (And.intro hC6 (And.intro hC0 hB))))
  clear hC1 hC3 hC6 hC0 hB
  go_enter Tryd.func8, Tryd.ntmps8
  go_upto_region 2 with fail
  generalize (((w.alloc (.cells #[.int .u16 id] 30)).alloc (.cells #[.string qn, .int .u16 qt] 36)).alloc (.cells #[.int .u16 0, .int .u16 0, .bool false, .int .i64 0, .bool false, .bool false, .bool false, .bool false, .int .i64 0, .string ⟨#[]⟩, .int .u16 0, .slice none 0 0, .slice none 0 0, .slice none 0 0, .int .i64 0, .string ⟨#[]⟩, .int .i64 0, .bool false, .int .i64 0] 41)).alloc (.cells #[.bool false] 4) = w1 at *
  obtain ⟨g0, hg0⟩ : ∃ g, g = w.heap.size + 1 + 1 + 1 := ⟨_, rfl⟩
  obtain ⟨g6, hg6⟩ : ∃ g, g = w.heap.size + 1 + 1 := ⟨_, rfl⟩
  obtain ⟨g3, hg3⟩ : ∃ g, g = w.heap.size + 1 := ⟨_, rfl⟩
  obtain ⟨g1, hg1⟩ : ∃ g, g = w.heap.size := ⟨_, rfl⟩
  obtain ⟨hC1, hC3, hC6, hC0, hB⟩ := H0.out
  rw [← hg0] at hC0 ⊢
  rw [← hg6] at hC6 ⊢
  rw [← hg3] at hC3 ⊢
  rw [← hg1] at hC1 ⊢
  have HGS := Lib.hid (show g1 = w.heap.size ∧ g3 = w.heap.size + 1 ∧ g6 = w.heap.size + 2 ∧ g0 = w.heap.size + 3 by omega)
  have HC := Lib.hid (And.intro hC0 (And.intro hC1 (And.intro hC3 hC6)))
  have HC6 := Lib.hid hC6
  have HB := Lib.hid (show Below w.heap.size w w1 by rw [← hg1]; exact hg1 ▸ hB)
  clear H0 hC1 hC3 hC6 hC0 hB hg0 hg6 hg3 hg1
  go_wp2_with fail
  refine (HSP.out w1 g0 g1 g3 g6 (HV.out.at_.below HB.out) HL.out (by have := HN.out; omega) HV.out.low (by have := HS0.out; omega) ⟨by simpa using HC.out.1, HC.out.2⟩ (fun k wa wb ha hb => ⟨hb.cs (by have := HS0.out; have := HGS.out; omega) ha.1, hb.cs (by have := HS0.out; have := HGS.out; omega) ha.2.1, hb.cs (by have := HS0.out; have := HGS.out; omega) ha.2.2.1, hb.cs (by have := HS0.out; have := HGS.out; omega) ha.2.2.2⟩) ?_).mono ?_
  · intro k x wx hx hI hbx hsx
    refine (match1_any x g0 g1 g3 ((es.take k).any (hitE id qn qt)) id qn qt wx hI.1 hI.2.1 hI.2.2.1).mono ?_
    rintro r wy ⟨rfl, wz, hbz, rfl⟩
    have hs0 := HS0.out
    have hgs := HGS.out
    have hat : atE (hitE id qn qt) es k = hitE id qn qt x := by unfold atE; rw [hx]
    have hnext : (es.take (k + 1)).any (hitE id qn qt) = ((es.take k).any (hitE id qn qt) || hitE id qn qt x) := by rw [List.take_add_one, hx]; simp
    obtain ⟨i0, i1, i3, i6⟩ := hI
    have j0 := i0.below hbz
    have j1 := i1.below hbz
    have j3 := i3.below hbz
    have j6 := i6.below hbz
    refine ⟨by unfold firstE; rw [hat], ?_⟩
    rw [hnext]
    cases hh : (!(es.take k).any (hitE id qn qt) && hitE id qn qt x) with
    | true =>
      simp only [Bool.and_eq_true, Bool.not_eq_true'] at hh
      rw [if_pos rfl, hh.1, hh.2]
      refine ⟨⟨j0.set' 0 (.bool true) (by simp), j1.other g0 0 _ (by omega), j3.other g0 0 _ (by omega), j6.other g0 0 _ (by omega)⟩, (hbz.mono (by omega)).setCell (by show _ ≤ g0; omega) _, ?_⟩
      refine ⟨by simpa using hbz.size, fun q h1 h2 => ?_⟩
      rw [Below.heap_setCell wz ⟨g0, 0, none⟩ _ q (by show q ≠ g0; omega)]
      exact hbz.block q h2
    | false =>
      rw [if_neg (by simp)]
      have : ((es.take k).any (hitE id qn qt) || hitE id qn qt x) = (es.take k).any (hitE id qn qt) := by
        cases h1 : (es.take k).any (hitE id qn qt) with
        | true => rfl
        | false => rw [h1] at hh; simpa using hh
      rw [this]
      exact ⟨⟨j0, j1, j3, j6⟩, hbz.mono (by omega), Mid.of_below hbz⟩
  rintro r w2 ⟨v1, v2, rfl, ho1, ho2, hw1, hw2, hd, hI⟩
  have hkn : es.take n = es := List.take_of_length_le (by rw [HL.out]; omega)
  rw [hkn] at hI
  have hs0 := HS0.out
  have hgs := HGS.out
  have HB2 := Lib.hid (HB.out.trans ho1.bel)
  cases han : es.any (hitE id qn qt) with
  | false =>
    rw [han] at hI
    have c0 := hI.1.get 0 _
    have HAN := Lib.hid han
    have HTH := Lib.hid (hI.2.2.2.there 19 rfl)
    have HM := Lib.hid (hI.2.2.2.mid [.int .u16 0, .int .u16 0, .bool false, .int .i64 0, .bool false, .bool false, .bool false, .bool false, .int .i64 0, .string ⟨#[]⟩, .int .u16 0, .slice none 0 0, .slice none 0 0, .slice none 0 0, .int .i64 0, .string ⟨#[]⟩, .int .i64 0, .bool false, .int .i64 0] rfl)
    have HBM := Lib.hid (below_setCells' (B := w.heap.size) (g := g6) (by omega) [.int .u16 0, .int .u16 0, .bool false, .int .i64 0, .bool false, .bool false, .bool false, .bool false, .int .i64 0, .string ⟨#[]⟩, .int .u16 0, .slice none 0 0, .slice none 0 0, .slice none 0 0, .int .i64 0, .string ⟨#[]⟩, .int .i64 0, .bool false, .int .i64 0] 0 HB2.out)
    clear ho1 ho2 hw1 hw2 hd hI hkn hs0 hgs han
    go_wp2_with (first | refine wpList_store_mid rfl 41 _ _ rfl g6 0 #[.int .u16 0, .int .u16 0, .bool false, .int .i64 0, .bool false, .bool false, .bool false, .bool false, .int .i64 0, .string ⟨#[]⟩, .int .u16 0, .slice none 0 0, .slice none 0 0, .slice none 0 0, .int .i64 0, .string ⟨#[]⟩, .int .i64 0, .bool false, .int .i64 0] rfl rfl HTH.out (by kernel_rfl) (by simp [Value.oneCell']) ?_)
    refine bodyPost_ret (v := .tuple #[.agg #[.int .u16 0, .int .u16 0, .bool false, .int .i64 0, .bool false, .bool false, .bool false, .bool false, .int .i64 0, .string ⟨#[]⟩, .int .u16 0, .slice none 0 0, .slice none 0 0, .slice none 0 0, .int .i64 0, .string ⟨#[]⟩, .int .i64 0, .bool false, .int .i64 0], .slice none 0 0, .bool false]) (results_cell3 Tryd.results8 _ _ _ g6 0 _ _ rfl HM.out.range Tryd.underlying41 rfl (by kernel_rfl)) rfl ?_
    rw [HAR.out]
    refine .inl ⟨fun e he => ?_, rfl, HBM.out⟩
    have := HAN.out
    rw [List.any_eq_false] at this
    simpa using this e he
  | true =>
    obtain ⟨a, ha, h1, h2⟩ := first_hit _ es han
    obtain ⟨p1, p2⟩ := pick_first _ es a ha h1 h2
    rw [han] at hI
    have c0 := hI.1.get 0 _
    rw [p1] at ho1
    rw [p2] at ho2
    have HX := Lib.hid (show ∀ AR', AR' = MatchR id qn qt es w → ∀ v w', OBM 19 w.heap.size w v (es.eraseIdx a).length (flatE (es.eraseIdx a)) w' → AR' (.returned (.tuple #[entA es[a], v, .bool true])) w' by
      rintro _ rfl v w' h
      exact .inr ⟨a, ha, h1, h2, v, rfl, h⟩)
    have HTH := Lib.hid (hI.2.2.2.there 19 rfl)
    have ho2 := ho2.out (Nat.le_refl _) HB.out
    clear han h1 h2 p1 p2 hkn
    generalize es.eraseIdx a = rest at *
    generalize es[a] = e at *
    obtain ⟨e0, e1, e2, e3, e4, e5⟩ := e
    unfold entA entCells at HX
    simp only at HX
    obtain ⟨V1, C1, rfl, hs1, hs2, hs3⟩ := ho1.slice3
    simp only [List.length_cons, List.length_nil, Nat.zero_add] at ho1 hs1 hs3 ⊢
    rcases hs3 with ⟨-, h, -⟩ | ⟨gv, rfl, hgv1, hgv2⟩
    · omega
    have hR1 : w2.rangeAt gv 0 [.int .u16 e0, .int .u16 0, .bool false, .int .i64 0, .bool false, .bool false, .bool false, .bool false, .int .i64 0, .string e1, .int .u16 e2, .slice none 0 0, .slice none 0 0, .slice none 0 0, .int .i64 0, .string e3, .int .i64 e4, .bool false, .int .i64 e5] := fun j v hv => by rw [Nat.zero_add]; exact ho1.cell j v (by unfold flatE; simpa [entCells] using hv)
    have HR1 := Lib.hid hR1
    have HM := Lib.hid (hI.2.2.2.mid [.int .u16 e0, .int .u16 0, .bool false, .int .i64 0, .bool false, .bool false, .bool false, .bool false, .int .i64 0, .string e1, .int .u16 e2, .slice none 0 0, .slice none 0 0, .slice none 0 0, .int .i64 0, .string e3, .int .i64 e4, .bool false, .int .i64 e5] rfl)
    have hne : ∀ q, v2.ownBlock = some q → q ≠ g6 := fun q hq e => by have := hw2 q hq; omega
    have hO2 : OBM 19 w.heap.size w v2 rest.length (flatE rest) (w2.setCells g6 0 [.int .u16 e0, .int .u16 0, .bool false, .int .i64 0, .bool false, .bool false, .bool false, .bool false, .int .i64 0, .string e1, .int .u16 e2, .slice none 0 0, .slice none 0 0, .slice none 0 0, .int .i64 0, .string e3, .int .i64 e4, .bool false, .int .i64 e5]) := by
      obtain ⟨s1, s2⟩ := setCells_heap w2 g6 [.int .u16 e0, .int .u16 0, .bool false, .int .i64 0, .bool false, .bool false, .bool false, .bool false, .int .i64 0, .string e1, .int .u16 e2, .slice none 0 0, .slice none 0 0, .slice none 0 0, .int .i64 0, .string e3, .int .i64 e4, .bool false, .int .i64 e5] 0
      exact ho2.block (below_setCells' (by omega) _ 0 ho2.bel) (by rw [s1]; exact Nat.le_refl _) (fun q hq => s2 q (hne q hq))
    have HO2 := Lib.hid hO2
    clear ho1 ho2 hw1 hw2 hd hI hs0 hgs hs1 hs2 hgv1 hgv2 hR1 hne hO2
    go_wp2_with (first | refine wpList_store_mid rfl 41 _ _ rfl g6 0 #[.int .u16 e0, .int .u16 0, .bool false, .int .i64 0, .bool false, .bool false, .bool false, .bool false, .int .i64 0, .string e1, .int .u16 e2, .slice none 0 0, .slice none 0 0, .slice none 0 0, .int .i64 0, .string e3, .int .i64 e4, .bool false, .int .i64 e5] rfl rfl HTH.out (by kernel_rfl) (by simp [Value.oneCell']) ?_ | refine wpList_load_mid rfl 41 _ rfl gv 0 rfl _ _ HR1.out Tryd.underlying41 rfl (by kernel_rfl) ?_)
    refine bodyPost_ret (v := .tuple #[.agg #[.int .u16 e0, .int .u16 0, .bool false, .int .i64 0, .bool false, .bool false, .bool false, .bool false, .int .i64 0, .string e1, .int .u16 e2, .slice none 0 0, .slice none 0 0, .slice none 0 0, .int .i64 0, .string e3, .int .i64 e4, .bool false, .int .i64 e5], v2, .bool true]) (results_cell3 Tryd.results8 _ _ _ g6 0 _ _ rfl HM.out.range Tryd.underlying41 rfl (by kernel_rfl)) rfl ?_
    exact HX.out _ HAR.out _ _ HO2.out
end Go.Proofs.YtpopnlbpeboiiaaDoor
namespace Go.Proofs.YtpopnlbpeboiiaaDoor
open Go.RowKit
set_option linter.unusedVariables false
section
variable {P : Program} {ops : Array Oper} {Q : Exit → Act → World → Prop}
/-- A region that draws its order, by one word on all that has been done: which operations, what their slots hold, and the world. -/
theorem wp_region_jointH {id : Nat} {base : Act} {w0 : World} (hm : P.follows .mixedOrders = true) (J : (Nat → Bool) → (Nat → Value) → World → Prop)
    (hn : noTwice (ops.toList.map (·.dst)) = true) (hwf : wellFormed ops = true)
    (start : J (fun _ => false) (held base (ops.toList.map (·.dst))) w0.drew)
    (steps : ∀ i (hi : i < ops.size) (d : Nat → Bool) (x : Nat → Value) (w : World), J d x w → d i = false → (∀ e ∈ (ops[i]).after.toList, Region.binds .any e = true → d e.on = true) →
      if Region.wanted ops[i] (yielded ops (putsF x 0 (ops.toList.map (·.dst)) base).tmps) = true
      then Oper.wp P ops[i] (putsF x 0 (ops.toList.map (·.dst)) base) w (fun a' w' => ∃ v, a' = (putsF x 0 (ops.toList.map (·.dst)) base).put (ops[i]).dst v ∧ J (fun j => if j = i then true else d j) (fun j => if j = i then v else x j) w') Q
      else J (fun j => if j = i then true else d j) (fun j => if j = i then undef else x j) w)
    (fin : ∀ (d : Nat → Bool) (x : Nat → Value) (w : World), (∀ i, i < ops.size → d i = true) → J d x w → Q .normal (putsF x 0 (ops.toList.map (·.dst)) base) w) :
    (Code.region id ops true).wp P Q base w0 := by
  -- if nothing is ready all has come up
  have hall : ∀ listed : Array Bool, listed.size = ops.size → Region.ready .any ops listed = [] → ∀ i, i < ops.size → listed.getD i false = true := by
    intro listed hs hr i
    induction i using Nat.strongRecOn with
    | _ i ih =>
      intro hi
      cases hli : listed.getD i false with
      | true => rfl
      | false =>
        exfalso
        have hmem : i ∈ Region.ready .any ops listed := by
          unfold Region.ready
          rw [List.mem_filter]
          refine ⟨by simpa using hi, ?_⟩
          have hd : listed.getD i true = false := by
            simp [Array.getD, hs, hi] at hli ⊢; exact hli
          rw [hd]
          simp only [Bool.not_false, Bool.true_and, Array.getElem?_eq_getElem hi, Option.map_some, Option.getD_some]
          rw [Array.all_eq_true']
          intro e he
          by_cases hb : Region.binds .any e = true
          · have hlt : e.on < i := by
              unfold wellFormed at hwf
              rw [List.all_eq_true] at hwf
              have := hwf (ops[i], i) (by rw [List.mem_zipIdx_iff_getElem?]; simp [hi])
              simp only [Array.all_eq_true'] at this
              have := this e he
              simpa [hb] using this
            simp [hb, ih e.on hlt (by omega)]
          · simp [hb]
        rw [hr] at hmem
        cases hmem
  have main : ∀ (fuel : Nat) (listed : Array Bool) (x : Nat → Value) (w : World), listed.size = ops.size → (List.range ops.size).countP (fun i => !listed.getD i false) ≤ fuel →
      J (fun i => listed.getD i false) x w → wpAny P .any ops Q fuel listed (putsF x 0 (ops.toList.map (·.dst)) base) w := by
    intro fuel
    have hfin : ∀ (listed : Array Bool) (x : Nat → Value) (w : World), listed.size = ops.size → J (fun i => listed.getD i false) x w → Region.ready .any ops listed = [] → Q .normal (putsF x 0 (ops.toList.map (·.dst)) base) w := by
      intro listed x w hs hJ hr
      exact fin _ x w (fun i hi => hall listed hs hr i hi) hJ
    induction fuel with
    | zero =>
      intro listed x w hs hc hJ
      have hr : Region.ready .any ops listed = [] := by
        unfold Region.ready
        rw [List.filter_eq_nil_iff]
        intro i hi
        have h0 := Nat.le_zero.1 hc
        rw [List.countP_eq_zero] at h0
        have := h0 i hi
        have hi' : i < ops.size := by simpa using hi
        simp [Array.getD, hs, hi'] at this ⊢
        simp [this]
      exact ⟨hr, hfin listed x w hs hJ hr⟩
    | succ fuel ih =>
      intro listed x w hs hc hJ
      refine ⟨hfin listed x w hs hJ, fun i hi => ?_⟩
      unfold Region.ready at hi
      rw [List.mem_filter] at hi
      obtain ⟨hir, hi2⟩ := hi
      have hio : i < ops.size := by simpa using hir
      simp only [Bool.and_eq_true, Bool.not_eq_true', Array.getElem?_eq_getElem hio, Option.map_some, Option.getD_some] at hi2
      obtain ⟨hli, haft⟩ := hi2
      have hli' : listed[i]'(by omega) = false := by simpa [Array.getD, hs, hio] using hli
      have hop := steps i hio (fun i => listed.getD i false) x w hJ (by simp [Array.getD, hs, hio, hli']) (fun e he hb => by
        rw [Array.all_eq_true'] at haft
        have := haft e (by simpa using he)
        simpa [hb] using this)
      have hds : (ops.toList.map (·.dst))[i]? = some (ops[i]).dst := by simp [hio]
      have next : ∀ v w', J (fun j => if j = i then true else listed.getD j false) (fun j => if j = i then v else x j) w' → wpAny P .any ops Q fuel (listed.setIfInBounds i true) ((putsF x 0 (ops.toList.map (·.dst)) base).put (ops[i]).dst v) w' := by
        intro v w' hJ'
        have hset := putsF_set x (ops.toList.map (·.dst)) 0 i base (ops[i]).dst v hn hds
        rw [Nat.zero_add] at hset
        rw [← hset]
        have hJ2 : J (fun j => (listed.setIfInBounds i true).getD j false) (fun j => if j = i then v else x j) w' := by
          have : (fun j => (listed.setIfInBounds i true).getD j false) = (fun j => if j = i then true else listed.getD j false) := by
            funext j; exact getD_set listed i j (by omega)
          rw [this]; exact hJ'
        refine ih _ _ w' (by simpa using hs) ?_ hJ2
        have hlt : (List.range ops.size).countP (fun j => !(listed.setIfInBounds i true).getD j false) < (List.range ops.size).countP (fun j => !listed.getD j false) := by
          have hsub : ∀ (l : List Nat), (∀ j ∈ l, j < ops.size) → l.Nodup → i ∈ l → l.countP (fun j => !(listed.setIfInBounds i true).getD j false) < l.countP (fun j => !listed.getD j false) := by
            intro l
            induction l with
            | nil => intro _ _ h; cases h
            | cons y l ihl =>
              intro hlt' hnd hmem
              have hy : y < ops.size := hlt' y (by simp)
              have heq : ∀ j, j < ops.size → (listed.setIfInBounds i true).getD j false = if j = i then true else listed.getD j false := fun j _ => getD_set listed i j (by omega)
              by_cases hyi : y = i
              · subst hyi
                have hsame : l.countP (fun j => !(listed.setIfInBounds y true).getD j false) = l.countP (fun j => !listed.getD j false) := by
                  apply List.countP_congr
                  intro j hj
                  have hne : j ≠ y := fun e => by subst e; exact (List.nodup_cons.1 hnd).1 hj
                  rw [heq j (hlt' j (by simp [hj])), if_neg hne]
                rw [List.countP_cons, List.countP_cons, hsame, heq y hy, if_pos rfl]
                have : listed.getD y false = false := by simp [Array.getD, hs, hy, hli']
                simp [this]
              · have hm' : i ∈ l := by
                  rcases List.mem_cons.1 hmem with h | h
                  · exact absurd h.symm hyi
                  · exact h
                have := ihl (fun j hj => hlt' j (by simp [hj])) (List.nodup_cons.1 hnd).2 hm'
                rw [List.countP_cons, List.countP_cons, heq y hy, if_neg hyi]
                omega
          exact hsub _ (fun j hj => by simpa using hj) List.nodup_range (by simpa using hio)
        omega
      unfold wpOp
      simp only [Array.getElem?_eq_getElem hio]
      split
      · rename_i hw
        rw [if_pos hw] at hop
        exact .inl (Oper.wp_mono (fun a' w' ⟨v, e, hv⟩ => by rw [e]; exact next v w' hv) hop)
      · rename_i hw
        rw [if_neg hw] at hop
        exact next undef w hop
  refine wp_region_any hm ?_
  have h0 := putsF_held (ops.toList.map (·.dst)) 0 base (held base (ops.toList.map (·.dst))) (fun i => by simp) hn
  rw [← h0]
  refine main ops.size _ _ _ (by simp) ?_ ?_
  · refine Nat.le_trans (List.countP_le_length ..) (by simp)
  · have : (fun i => (Array.replicate ops.size false).getD i false) = fun _ => false := by
      funext i
      simp only [Array.getD, Array.size_replicate]
      split
      · simp
      · rfl
    rw [this]; exact start
def NextXR (A : Act) (dst : Option Tmp) (Ws : List WordX) (d : Nat → Bool) (i : Nat) (x : Nat → Value) (R : (Nat → Bool) → (Nat → Value) → World → Prop) (w : World) (a' : Act) (w' : World) : Prop := ∃ v, a' = A.put dst v ∧ wordX Ws (setD d i) i v w' ∧ R (setD d i) (fun j => if j = i then v else x j) w' ∧ Goes w w'
def NextKR (A : Act) (dst : Option Tmp) (Ws : List WordX) (d : Nat → Bool) (i : Nat) (x : Nat → Value) (R : (Nat → Bool) → (Nat → Value) → World → Prop) (w : World) (a' : Act) (w' : World) : Prop := ∃ v, a' = A.put dst v ∧ wordX Ws (setD d i) i v w' ∧ R (setD d i) (fun j => if j = i then v else x j) w' ∧ KeepX d i x w w' 0 Ws
/-- An operation behind which all that was said holds still of itself. -/
def OpStepXR (P : Program) (ops : Array Oper) (Q : Exit → Act → World → Prop) (Ws : List WordX) (R : (Nat → Bool) → (Nat → Value) → World → Prop) (FF : (Nat → Value) → Act) (i : Nat) (o : Oper) : Prop :=
  ∀ (d : Nat → Bool) (x : Nat → Value) (w : World), R d x w → d i = false → SrcX ops d o → Deps (wordX Ws d) x w o.after.toList →
    (wantedX o x = true → Oper.wp P o (FF x) w (NextXR (FF x) o.dst Ws d i x R w) Q) ∧ (wantedX o x = false → wordX Ws (setD d i) i undef w ∧ R (setD d i) (fun j => if j = i then undef else x j) w)
/-- An operation of which all that was said must be shown again. -/
def OpSpecXR (P : Program) (ops : Array Oper) (Q : Exit → Act → World → Prop) (Ws : List WordX) (R : (Nat → Bool) → (Nat → Value) → World → Prop) (FF : (Nat → Value) → Act) (i : Nat) (o : Oper) : Prop :=
  ∀ (d : Nat → Bool) (x : Nat → Value) (w : World), R d x w → d i = false → ClosedX ops d → SrcX ops d o → DoneX d x w 0 Ws →
    (wantedX o x = true → Oper.wp P o (FF x) w (NextKR (FF x) o.dst Ws d i x R w) Q) ∧ (wantedX o x = false → wordX Ws (setD d i) i undef w ∧ R (setD d i) (fun j => if j = i then undef else x j) w)
def OpStepsXR (P : Program) (ops : Array Oper) (Q : Exit → Act → World → Prop) (Ws : List WordX) (R : (Nat → Bool) → (Nat → Value) → World → Prop) (FF : (Nat → Value) → Act) (sp : List Nat) : Nat → List Oper → Prop
  | _, [] => True
  | i, o :: os => (sp.contains i = false → OpStepXR P ops Q Ws R FF i o) ∧ OpStepsXR P ops Q Ws R FF sp (i + 1) os
def OpSpecsXR (P : Program) (ops : Array Oper) (Q : Exit → Act → World → Prop) (Ws : List WordX) (R : (Nat → Bool) → (Nat → Value) → World → Prop) (FF : (Nat → Value) → Act) (sp : List Nat) : Nat → List Oper → Prop
  | _, [] => True
  | i, o :: os => (sp.contains i = true → OpSpecXR P ops Q Ws R FF i o) ∧ OpSpecsXR P ops Q Ws R FF sp (i + 1) os
theorem OpStepsXR.get {Ws : List WordX} {R : (Nat → Bool) → (Nat → Value) → World → Prop} {FF : (Nat → Value) → Act} {sp : List Nat} : ∀ {l : List Oper} {k : Nat}, OpStepsXR P ops Q Ws R FF sp k l → ∀ i o, l[i]? = some o → sp.contains (k + i) = false → OpStepXR P ops Q Ws R FF (k + i) o
  | [], _, _, i, o, h, _ => by simp at h
  | p :: l, k, hs, 0, o, h, hk => by simp at h; subst h; exact hs.1 hk
  | p :: l, k, hs, i + 1, o, h, hk => by
    have := OpStepsXR.get hs.2 i o (by simpa using h) (by rwa [show k + 1 + i = k + (i + 1) by omega])
    rwa [show k + 1 + i = k + (i + 1) by omega] at this
theorem OpSpecsXR.get {Ws : List WordX} {R : (Nat → Bool) → (Nat → Value) → World → Prop} {FF : (Nat → Value) → Act} {sp : List Nat} : ∀ {l : List Oper} {k : Nat}, OpSpecsXR P ops Q Ws R FF sp k l → ∀ i o, l[i]? = some o → sp.contains (k + i) = true → OpSpecXR P ops Q Ws R FF (k + i) o
  | [], _, _, i, o, h, _ => by simp at h
  | p :: l, k, hs, 0, o, h, hk => by simp at h; subst h; exact hs.1 hk
  | p :: l, k, hs, i + 1, o, h, hk => by
    have := OpSpecsXR.get hs.2 i o (by simpa using h) (by rwa [show k + 1 + i = k + (i + 1) by omega])
    rwa [show k + 1 + i = k + (i + 1) by omega] at this
theorem wp_region_expR {id : Nat} {base : Act} {w0 : World} (hm : P.follows .mixedOrders = true) {FF : (Nat → Value) → Act} (hFF : ∀ x, putsF x 0 (ops.toList.map (·.dst)) base = FF x) (R : (Nat → Bool) → (Nat → Value) → World → Prop) (Ws : List WordX) (sp : List Nat)
    (hn : noTwice (ops.toList.map (·.dst)) = true) (hg : guardsIn ops base.tmps.size = true) (hwf : wellFormed ops = true) (hlen : Ws.length = ops.size)
    (stays : AllStaysX Ws) (start : R (fun _ => false) (held base (ops.toList.map (·.dst))) w0.drew)
    (steps : OpStepsXR P ops Q Ws R FF sp 0 ops.toList) (specs : OpSpecsXR P ops Q Ws R FF sp 0 ops.toList)
    (fin : ∀ (x : Nat → Value) (w : World) (d : Nat → Bool), (∀ i, i < ops.size → d i = true) → R d x w → AllX x w 0 Ws → Q .normal (FF x) w) :
    (Code.region id ops true).wp P Q base w0 := by
  have hword : ∀ (i : Nat) d d' v w w', wordX Ws d i v w → leD d d' → Goes w w' → wordX Ws d' i v w' := by
    intro i d d' v w w' hw hd he
    unfold wordX at hw ⊢
    cases hp : Ws[i]? with
    | none => trivial
    | some p =>
      rw [hp] at hw
      exact stays.mem p (List.mem_of_getElem? hp) _ _ _ _ _ hd he hw
  refine wp_region_jointH hm (fun d x w => R d x w ∧ (∀ i, i < ops.size → d i = true → wordX Ws d i (x i) w) ∧ ClosedX ops d) hn hwf ?_ ?_ ?_
  · exact ⟨start, by simp, fun j o _ h => by cases h⟩
  · rintro i hi d x w ⟨hR, hw, hcl⟩ hd hdeps
    have hoi : ops[i]? = some ops[i] := Array.getElem?_eq_getElem hi
    have hmem : ops[i] ∈ ops.toList := by simp
    have hlt : ∀ e ∈ (ops[i]).after.toList, Region.binds .any e = true → e.on < ops.size := by
      intro e he hb
      unfold wellFormed at hwf
      rw [List.all_eq_true] at hwf
      have := hwf (ops[i], i) (by rw [List.mem_zipIdx_iff_getElem?]; simp [hi])
      simp only [Array.all_eq_true'] at this
      have := this e (by simpa using he)
      have : e.on < i := by simpa [hb] using this
      omega
    have hwant : Region.wanted ops[i] (yielded ops (putsF x 0 (ops.toList.map (·.dst)) base).tmps) = wantedX ops[i] x := wanted_eq hn hg ops[i] hmem x
    have hset : (fun j => if j = i then true else d j) = setD d i := rfl
    have put : ∀ v w', wordX Ws (setD d i) i v w' → (∀ j, j < ops.size → j ≠ i → d j = true → wordX Ws (setD d i) j (x j) w') → ∀ j, j < ops.size → setD d i j = true → wordX Ws (setD d i) j (if j = i then v else x j) w' := by
      intro v w' hv ho j hj hdj
      by_cases hji : j = i
      · subst hji; simpa using hv
      · rw [setD_ne d hji] at hdj
        rw [if_neg hji]
        exact ho j hj hji hdj
    have hcl2 : ClosedX ops (setD d i) := by
      intro j o hj hdj e he hb
      by_cases hji : j = i
      · subst hji
        rw [hoi] at hj
        obtain rfl := Option.some.inj hj
        exact setD_le d _ _ (hdeps e he hb)
      · rw [setD_ne d hji] at hdj
        exact setD_le d _ _ (hcl j o hj hdj e he hb)
    rw [hwant, hFF x, hset]
    cases hsp : sp.contains i with
    | false =>
      have hs := OpStepsXR.get steps i ops[i] (by simp [hi]) (by rw [Nat.zero_add]; exact hsp)
      rw [Nat.zero_add] at hs
      have hs := hs d x w hR hd hdeps (Deps.of (fun e he hb => hw _ (hlt e he hb) (hdeps e he hb)))
      split
      · rename_i hwt
        refine Oper.wp_mono ?_ (hs.1 hwt)
        rintro a' w' ⟨v, rfl, hv, hR', he⟩
        exact ⟨v, rfl, hR', put v w' hv (fun j hj hji hdj => hword j d _ _ w w' (hw j hj hdj) (setD_le d i) he), hcl2⟩
      · rename_i hwt
        exact ⟨(hs.2 (by simpa using hwt)).2, put undef w (hs.2 (by simpa using hwt)).1 (fun j hj hji hdj => hword j d _ _ w w (hw j hj hdj) (setD_le d i) (Below.refl _ _)), hcl2⟩
    | true =>
      have hs := OpSpecsXR.get specs i ops[i] (by simp [hi]) (by rw [Nat.zero_add]; exact hsp)
      rw [Nat.zero_add] at hs
      have hs := hs d x w hR hd hcl hdeps (doneX_of Ws 0 (fun j _ => by simp) (fun j hj hdj => hw j (by omega) hdj))
      split
      · rename_i hwt
        refine Oper.wp_mono ?_ (hs.1 hwt)
        rintro a' w' ⟨v, rfl, hv, hR', he⟩
        refine ⟨v, rfl, hR', put v w' hv (fun j hj hji hdj => ?_), hcl2⟩
        have h0 := hw j hj hdj
        unfold wordX at h0 ⊢
        cases hp : Ws[j]? with
        | none => trivial
        | some p =>
          rw [hp] at h0
          have := he.get (Ws := Ws) j p hp
          rw [Nat.zero_add] at this
          exact this hji hdj h0
      · rename_i hwt
        exact ⟨(hs.2 (by simpa using hwt)).2, put undef w (hs.2 (by simpa using hwt)).1 (fun j hj hji hdj => hword j d _ _ w w (hw j hj hdj) (setD_le d i) (Below.refl _ _)), hcl2⟩
  · rintro d x w hall ⟨hR, hw, -⟩
    rw [hFF x]
    exact fin x w d hall hR (allX_of (d := d) stays Ws 0 (fun j _ => by simp) (fun j hj => hw j (by omega) (hall j (by omega))))
end
theorem setD_false {d : Nat → Bool} {i k : Nat} (h : setD d i k = false) : d k = false := by
  cases e : d k with
  | false => rfl
  | true => have := setD_le d i k e; rw [h] at this; cases this
theorem held_next {d : Nat → Bool} {x : Nat → Value} {i k : Nat} {v u : Value} (h : d k = false → x k = u) (hk : k ≠ i) : setD d i k = false → (if k = i then v else x k) = u := fun hf => by rw [if_neg hk]; exact h (setD_false hf)
theorem held_self {d : Nat → Bool} {x : Nat → Value} {i : Nat} {v u : Value} : setD d i i = false → (if i = i then v else x i) = u := fun hf => by rw [setD_self] at hf; cases hf
theorem nextXR {A a' : Act} {dst : Option Tmp} {Ws : List WordX} {d : Nat → Bool} {i : Nat} {x : Nat → Value} {R : (Nat → Bool) → (Nat → Value) → World → Prop} {w w' : World} (v : Value) (ha : a' = A.put dst v) (hp : wordX Ws (setD d i) i v w') (hR : R (setD d i) (fun j => if j = i then v else x j) w') (he : Goes w w') : NextXR A dst Ws d i x R w a' w' := ⟨v, ha, hp, hR, he⟩
theorem nextKR {A a' : Act} {dst : Option Tmp} {Ws : List WordX} {d : Nat → Bool} {i : Nat} {x : Nat → Value} {R : (Nat → Bool) → (Nat → Value) → World → Prop} {w w' : World} (v : Value) (ha : a' = A.put dst v) (hp : wordX Ws (setD d i) i v w') (hR : R (setD d i) (fun j => if j = i then v else x j) w') (he : KeepX d i x w w' 0 Ws) : NextKR A dst Ws d i x R w a' w' := ⟨v, ha, hp, hR, he⟩
end Go.Proofs.YtpopnlbpeboiiaaDoor
namespace Go.Proofs.YtpopnlbpeboiiaaDoor
open Go.RowKit Go.Extern.Stop Go.Stop Go.Extern
set_option linter.unusedVariables false
/-- The variable errors.errorType as the start lays it. -/
abbrev errT : Value := .iface 90 (.agg #[.pointer (some ⟨1, 45, none⟩)])
def Etype (w : World) : Prop := w.cell? ⟨0, 0, none⟩ = some errT
theorem Etype.pos {w : World} (h : Etype w) : 0 < w.heap.size := by
  rcases Nat.eq_zero_or_pos w.heap.size with h0 | h1
  · unfold Etype at h; simp [World.cell?, h0] at h
  · exact h1
theorem Etype.keep {B : Nat} {w w' : World} (h : Etype w) (hB : w.heap.size ≤ B) (hb : Below B w w') : Etype w' := by
  unfold Etype
  rw [World.cell?_of_block (a := ⟨0, 0, none⟩) (hb.block 0 (Nat.lt_of_lt_of_le h.pos hB))]; exact h
theorem as_none (t : Value) (w : World) : Calls Tryd.prog 17 #[.nilIface, t] w fun e w' => e = .returned (.bool false) ∧ w = w' := by
  go_enter Tryd.func17, Tryd.ntmps17
  go_wp2
  go_ret
  exact ⟨rfl, rfl⟩
section
abbrev hP : Value := .pointer (some ⟨1, 62, none⟩)
abbrev hE : Value := .pointer (some ⟨1, 43, none⟩)
theorem as_vp (t : Addr) (w : World) : (ReflectliteValue.unpack (.iface 62 (.pointer (some t)))).run Tryd.prog w = .ok (.agg #[hP, .pointer (some ⟨w.heap.size, 0, none⟩), .int .u64 150]) (w.alloc (.cells #[.pointer (some t)] 62)) := by kernel_rfl
theorem as_ve (x : Int) (w : World) : (ReflectliteValue.unpack (.iface 43 (.int .i64 x))).run Tryd.prog w = .ok (.agg #[hE, .pointer (some ⟨w.heap.size, 0, none⟩), .int .u64 130]) (w.alloc (.cells #[.int .i64 x] 43)) := by kernel_rfl
theorem as_ty (a : Addr) (w : World) : (ReflectliteValue.methodAny (ReflectliteValue.valueError "reflectlite.Value.Type" 0) (fun t _ _ _ => ReflectliteType.toType t) #[.agg #[hP, .pointer (some a), .int .u64 150]]).run Tryd.prog w = .ok (.iface 90 (.agg #[hP])) w := by kernel_rfl
theorem as_mk (h : Value) (w : World) : (Go.method 232 90 (.agg #[h]) "Kind").run Tryd.prog w = .ok (48, h) w := by kernel_rfl
theorem as_me (h : Value) (w : World) : (Go.method 232 90 (.agg #[h]) "Elem").run Tryd.prog w = .ok (58, .agg #[h]) w := by kernel_rfl
theorem as_mi (h : Value) (w : World) : (Go.method 232 90 (.agg #[h]) "Implements").run Tryd.prog w = .ok (59, .agg #[h]) w := by kernel_rfl
theorem as_ma (h : Value) (w : World) : (Go.method 232 90 (.agg #[h]) "AssignableTo").run Tryd.prog w = .ok (56, .agg #[h]) w := by kernel_rfl
theorem as_kp (w : World) : ((ReflectliteType.abiMethod fun t => (fun a : Nat => Value.int IntKind.u8 (a : Int)) <$> Rtype.kind t) #[hP]).run Tryd.prog w = .ok (.int .u8 22) w := by kernel_rfl
theorem as_ke (w : World) : ((ReflectliteType.abiMethod fun t => (fun a : Nat => Value.int IntKind.u8 (a : Int)) <$> Rtype.kind t) #[hE]).run Tryd.prog w = .ok (.int .u8 2) w := by kernel_rfl
theorem as_el (w : World) : (ReflectliteType.method ReflectliteType.elem #[.agg #[hP]]).run Tryd.prog w = .ok (.iface 90 (.agg #[hE])) w := by kernel_rfl
theorem as_im (w : World) : (ReflectliteType.relation "Implements" ReflectliteType.implements_ #[.agg #[hE], errT]).run Tryd.prog w = .ok (.bool true) w := by kernel_rfl
theorem as_to (v : Value) (w : World) : (ReflectliteType.typeOf #[.iface 43 v]).run Tryd.prog w = .ok (.iface 90 (.agg #[hE])) w := by kernel_rfl
theorem as_as (w : World) : (ReflectliteType.relation "AssignableTo" ReflectliteType.assignableTo #[.agg #[hE], .iface 90 (.agg #[hE])]).run Tryd.prog w = .ok (.bool true) w := by kernel_rfl
theorem as_m (z : Sem Value) (f : TypeId → Addr → Nat → Nat → Sem Value) (v : Value) : ReflectliteValue.method z f #[v] = (do match ← ReflectliteValue.parts v with | none => z | some (t, a, fl) => f t a fl (fl % 32)) := rfl
theorem as_pp (a : Addr) (w : World) : (ReflectliteValue.parts (.agg #[hP, .pointer (some a), .int .u64 150])).run Tryd.prog w = .ok (some (62, a, 150)) w := by kernel_rfl
theorem as_pa (a : Addr) (w : World) : (ReflectliteValue.parts (.agg #[hE, .pointer (some a), .int .u64 386])).run Tryd.prog w = .ok (some (43, a, 386)) w := by kernel_rfl
theorem as_pe (a : Addr) (w : World) : (ReflectliteValue.parts (.agg #[hE, .pointer (some a), .int .u64 130])).run Tryd.prog w = .ok (some (43, a, 130)) w := by kernel_rfl
theorem as_nil (a p : Addr) (W : World) (ha : W.cell? a = some (.pointer (some p))) :
    (ReflectliteValue.method (ReflectliteValue.valueError "reflectlite.Value.IsNil" 0) ReflectliteValue.isNil #[.agg #[hP, .pointer (some a), .int .u64 150]]).run Tryd.prog W = .ok (.bool false) W := by
  rw [as_m]
  simp only [Sem.run_bind, as_pp, Result.andThen]
  simp [ReflectliteValue.isNil, loadVar, isAgg, underlying, Tryd.underlying62, ha, Result.andThen]
theorem as_eo (w : World) : (Rtype.elem? 62).run Tryd.prog w = .ok (some 43) w := by kernel_rfl
theorem as_mv (p : Addr) (w : World) : (ReflectliteValue.mk 43 p ReflectliteValue.flagAddr).run Tryd.prog w = .ok (.agg #[hE, .pointer (some p), .int .u64 386]) w := by kernel_rfl
theorem as_elv (a p : Addr) (W : World) (ha : W.cell? a = some (.pointer (some p))) :
    (ReflectliteValue.method (ReflectliteValue.valueError "reflectlite.Value.Elem" 0) ReflectliteValue.elem #[.agg #[hP, .pointer (some a), .int .u64 150]]).run Tryd.prog W = .ok (.agg #[hE, .pointer (some p), .int .u64 386]) W := by
  rw [as_m]
  simp only [Sem.run_bind, as_pp, Result.andThen]
  simp [ReflectliteValue.elem, loadVar, isAgg, underlying, Tryd.underlying62, ha, Result.andThen, as_eo, as_mv]
theorem as_s (v x : Value) : ReflectliteValue.set #[v, x] = (do
    let (some (dst, a, fl), some (src, b, _)) := (← ReflectliteValue.parts v, ← ReflectliteValue.parts x)
      | unsupported (.noEntry "extern/(internal/reflectlite.Value).Set.zeroValue")
    if fl / ReflectliteValue.flagAddr % 2 == 0 then unsupported (.noEntry "extern/(internal/reflectlite.Value).Set.unaddressable")
    let val ← loadVar src b
    if ← Rtype.directlyAssignable dst src then storeVar dst a val
    else if ← Rtype.implements dst src then
      if (← Rtype.kind src) == 20 then
        match val with
        | .nilIface => unsupported (.noEntry "extern/reflectlite: a nil value of one interface type handed on as a value of another")
        | _ => storeVar dst a val
      else storeVar dst a (.iface src val)
    else panicString ("reflectlite.Set: value of type " ++ (← Rtype.spelt src) ++ " is not assignable to type " ++ (← Rtype.spelt dst))
    pure (.tuple #[])) := rfl
theorem as_da (w : World) : (Rtype.directlyAssignable 43 43).run Tryd.prog w = .ok true w := by kernel_rfl
theorem as_set (ta b : Addr) (x : Int) (old : Value) (W : World) (hb : W.cell? b = some (.int .i64 x)) (ht : W.cell? ta = some old) (hf : W.frozen? ta = false) :
    (ReflectliteValue.set #[.agg #[hE, .pointer (some ta), .int .u64 386], .agg #[hE, .pointer (some b), .int .u64 130]]).run Tryd.prog W = .ok (.tuple #[]) (W.setCell ta (.int .i64 x)) := by
  rw [as_s]
  simp only [Sem.run_bind, as_pa, as_pe, Result.andThen]
  simp [ReflectliteValue.flagAddr, loadVar, isAgg, underlying, Tryd.underlying43, hb, Result.andThen, as_da, storeVar, Value.cells, storeCells, Addr.add]
  rw [run_store Tryd.prog W ta _ _ (by rfl)]
  simp [ht, hf]
end
set_option maxHeartbeats 4000000 in
theorem as_errno (x : Int) (t : Addr) (old : Value) (w : World) (hg : Etype w) (ht0 : w.cell? t = some old) (hf0 : w.frozen? t = false) :
    Calls Tryd.prog 17 #[.iface 43 (.int .i64 x), .iface 62 (.pointer (some t))] w fun ev w' => ev = .returned (.bool true) ∧ ∃ W1, Below w.heap.size w W1 ∧ w' = W1.setCell t (.int .i64 x) := by
  have h6 := @run_callFunc_extern Tryd.prog 24 _ (fun args => ReflectliteValue.unpack (args.getD 0 (.tuple #[]))) Tryd.func24 (by kernel_rfl) (by kernel_rfl) (by kernel_rfl) (by kernel_rfl)
  have h7 := @run_callFunc_extern Tryd.prog 25 _ (ReflectliteValue.methodAny (ReflectliteValue.valueError "reflectlite.Value.Type" 0) (fun t _ _ _ => ReflectliteType.toType t)) Tryd.func25 (by kernel_rfl) (by kernel_rfl) (by kernel_rfl) (by kernel_rfl)
  have h8 := @run_callFunc_extern Tryd.prog 26 _ (ReflectliteValue.method (ReflectliteValue.valueError "reflectlite.Value.IsNil" 0) ReflectliteValue.isNil) Tryd.func26 (by kernel_rfl) (by kernel_rfl) (by kernel_rfl) (by kernel_rfl)
  have h9 := @run_callFunc_extern Tryd.prog 48 _ (ReflectliteType.abiMethod fun t => do pure (.int .u8 (← Rtype.kind t))) Tryd.func48 (by kernel_rfl) (by kernel_rfl) (by kernel_rfl) (by kernel_rfl)
  have h10 := @run_callFunc_extern Tryd.prog 58 _ (ReflectliteType.method ReflectliteType.elem) Tryd.func58 (by kernel_rfl) (by kernel_rfl) (by kernel_rfl) (by kernel_rfl)
  have h11 := @run_callFunc_extern Tryd.prog 59 _ (ReflectliteType.relation "Implements" ReflectliteType.implements_) Tryd.func59 (by kernel_rfl) (by kernel_rfl) (by kernel_rfl) (by kernel_rfl)
  have h12 := @run_callFunc_extern Tryd.prog 30 _ ReflectliteType.typeOf Tryd.func30 (by kernel_rfl) (by kernel_rfl) (by kernel_rfl) (by kernel_rfl)
  have h13 := @run_callFunc_extern Tryd.prog 56 _ (ReflectliteType.relation "AssignableTo" ReflectliteType.assignableTo) Tryd.func56 (by kernel_rfl) (by kernel_rfl) (by kernel_rfl) (by kernel_rfl)
  have h14 := @run_callFunc_extern Tryd.prog 31 _ (ReflectliteValue.method (ReflectliteValue.valueError "reflectlite.Value.Elem" 0) ReflectliteValue.elem) Tryd.func31 (by kernel_rfl) (by kernel_rfl) (by kernel_rfl) (by kernel_rfl)
  have h15 := @run_callFunc_extern Tryd.prog 32 _ ReflectliteValue.set Tryd.func32 (by kernel_rfl) (by kernel_rfl) (by kernel_rfl) (by kernel_rfl)
  have g1 := as_to
  have g2 := as_ma
  have g3 := as_as
  have g4 := as_ve
  have g5 := as_vp
  have g6 := as_ty
  have g7 := as_mk
  have g8 := as_me
  have g9 := as_mi
  have g10 := as_kp
  have g11 := as_ke
  have g12 := as_el
  have g13 := as_im
  obtain ⟨o1, ho1⟩ : ∃ o1 : Obj, o1 = .cells #[.pointer (some t)] 62 := ⟨_, rfl⟩
  have hlt := hg.pos
  have hg0 : w.cell? ⟨0, 0, none⟩ = some errT := hg
  have htl : t.block < w.heap.size := by
    rcases Nat.lt_or_ge t.block w.heap.size with h | h
    · exact h
    · simp [World.cell?, Array.getElem?_eq_none h] at ht0
  have n8 := as_nil ⟨w.heap.size, 0, none⟩ t ((w.alloc (.cells #[.pointer (some t)] 62)).alloc (.cells #[hP, .pointer (some ⟨w.heap.size, 0, none⟩), .int .u64 150] 78)) (by simp)
  have hg2 : ((w.alloc (.cells #[.pointer (some t)] 62)).alloc (.cells #[hP, .pointer (some ⟨w.heap.size, 0, none⟩), .int .u64 150] 78)).cell? ⟨0, 0, none⟩ = some errT := by
    rw [World.cell?_alloc_lt _ _ ⟨0, 0, none⟩ (by simp), World.cell?_alloc_lt _ _ ⟨0, 0, none⟩ hlt]; exact hg0
  have el := as_elv ⟨w.heap.size, 0, none⟩ t (((w.alloc (.cells #[.pointer (some t)] 62)).alloc (.cells #[hP, .pointer (some ⟨w.heap.size, 0, none⟩), .int .u64 150] 78)).alloc (.cells #[hP, .pointer (some ⟨w.heap.size, 0, none⟩), .int .u64 150] 78)) (by rw [World.cell?_alloc_lt _ _ ⟨w.heap.size, 0, none⟩ (by simp; omega)]; simp)
  have st := as_set t ⟨w.heap.size + 1 + 1 + 1, 0, none⟩ x old ((((w.alloc (.cells #[.pointer (some t)] 62)).alloc (.cells #[hP, .pointer (some ⟨w.heap.size, 0, none⟩), .int .u64 150] 78)).alloc (.cells #[hP, .pointer (some ⟨w.heap.size, 0, none⟩), .int .u64 150] 78)).alloc (.cells #[.int .i64 x] 43))
    (by rw [World.cell?_alloc_at _ _ _ _ (by simp)]; rfl)
    (by rw [World.cell?_alloc_lt _ _ t (by simp; omega), World.cell?_alloc_lt _ _ t (by simp; omega), World.cell?_alloc_lt _ _ t (by simp; omega), World.cell?_alloc_lt _ _ t htl]; exact ht0)
    (by rw [World.frozen?_alloc_old _ _ t (by simp; omega), World.frozen?_alloc_old _ _ t (by simp; omega), World.frozen?_alloc_old _ _ t (by simp; omega), World.frozen?_alloc_old _ _ t (Nat.ne_of_lt htl)]; exact hf0)
  go_enter Tryd.func17, Tryd.ntmps17
  go_wp2
  refine wp_loop_rounds 1 ?_
  rw [rounds_succ]
  go_wp2
  go_ret
  refine ⟨rfl, _, ?_, rfl⟩
  exact ((((Below.refl _ _).alloc (Nat.le_refl _) _).alloc (by simp) _).alloc (by simp; omega) _).alloc (by simp; omega) _
theorem number_none (w : World) : Calls Tryd.prog 7 #[.nilIface] w fun e w' => e = .returned (.int .i64 0) ∧ Below w.heap.size w w' := by
  go_enter Tryd.func7, Tryd.ntmps7
  go_wp2_with fail
  refine (as_none _ _).mono ?_
  rintro e w1 ⟨rfl, rfl⟩
  go_wp2_with fail
  go_ret
  exact ⟨rfl, (Below.refl _ _).alloc (Nat.le_refl _) _⟩
theorem number_errno (x : Int) (w : World) (hg : Etype w) : Calls Tryd.prog 7 #[.iface 43 (.int .i64 x)] w fun e w' => e = .returned (.int .i64 x) ∧ Below w.heap.size w w' := by
  have hb : Below w.heap.size w (w.alloc (.cells #[.int .i64 0] 43)) := (Below.refl _ _).alloc (Nat.le_refl _) _
  have AE := Lib.hid (as_errno x ⟨w.heap.size, 0, none⟩ (.int .i64 0) (w.alloc (.cells #[.int .i64 0] 43)) (hg.keep (Nat.le_refl _) hb) (by simp) (by simp))
  have HB := Lib.hid hb
  clear hb hg
  go_enter Tryd.func7, Tryd.ntmps7
  go_wp2_with fail
  refine AE.out.mono ?_
  clear AE
  rintro e w1 ⟨rfl, W1, hb1, rfl⟩
  have hc : (W1.setCell ⟨w.heap.size, 0, none⟩ (.int .i64 x)).cell? ⟨w.heap.size, 0, none⟩ = some (.int .i64 x) := by
    refine World.cell?_setCell_same W1 _ _ (u := .int .i64 0) ?_
    rw [World.cell?_of_block (a := ⟨w.heap.size, 0, none⟩) (hb1.block w.heap.size (by simp))]; simp
  have hbel := Lib.hid ((HB.out.trans (hb1.mono (by simp))).setCell (p := ⟨w.heap.size, 0, none⟩) (Nat.le_refl _) (.int .i64 x))
  clear hb1
  go_wp2_with fail
  go_ret
  exact ⟨rfl, hbel.out⟩
end Go.Proofs.YtpopnlbpeboiiaaDoor
namespace Go.Proofs.YtpopnlbpeboiiaaDoor
open Go.ChangeShapes Go.WideShapes Go.RowKit
theorem laid_et : Tryd.prog.globalNamed "errors.errorType" = some 0 := by kernel_rfl
theorem laid_rt : (Tryd.prog.cutTypes.find? (·.1 == "internal/reflectlite.rtype")).map (·.2) = some 90 := by kernel_rfl
theorem laid_row : ((List.range 132).filter fun t => Tryd.prog.rowNamed t [101, 114, 114, 111, 114]) = [45] := by kernel_rfl
theorem laid_size : Tryd.prog.types.size = 132 := by kernel_rfl
/-- The rows' list. -/
abbrev laidE : List (String × DataW Unit) := [("errors.errorType", Rows.laid_errors_errorType)]
theorem etype_of_laid {W : World} (h : laidMetH Tryd.prog laidE W) : Etype W := by
  have h' : laidMet Tryd.prog [] W ∧ handlesMet Tryd.prog laidE W := h
  obtain ⟨name, u, ty, e1, e2, e3, e4, e5⟩ := h'.2 _ (List.mem_singleton.2 rfl)
  have en : name = [101, 114, 114, 111, 114] := (Option.some.inj e1).symm
  subst en
  obtain rfl := Option.some.inj (laid_rt.symm.trans e2)
  have hm : ty ∈ (List.range 132).filter fun t => Tryd.prog.rowNamed t [101, 114, 114, 111, 114] := List.mem_filter.2 ⟨List.mem_range.2 (by rw [← laid_size]; exact e3), e4⟩
  rw [laid_row] at hm
  obtain rfl := List.mem_singleton.1 hm
  have hh : typeHandle Tryd.prog 45 = .pointer (some ⟨1, 45, none⟩) := by kernel_rfl
  rw [hh] at e5
  have e6 := World.var?_cell laid_et e5 0
  unfold Etype
  simpa using e6
/-- The settled world, the variable's cell laid. -/
noncomputable def laidWorld (os : Os) : World :=
  let w0 := World.holding Tryd.prog os ⟨#[], #[], []⟩
  { w0 with heap := w0.heap.modify 0 fun
      | .cells _ t fz => .cells #[.iface 90 (.agg #[.pointer (some ⟨1, 45, none⟩)])] t fz
      | o => o }
theorem laidWorld_met (os : Os) (args : Array Value) : laidMetH Tryd.prog laidE ((laidWorld os).forCall (fun _ _ => 0) ⟨#[], args, []⟩).memory :=
  laidMetH_of_parts (laidMet_nil _ _) (by kernel_rfl)
end Go.Proofs.YtpopnlbpeboiiaaDoor
namespace Go.Proofs.YtpopnlbpeboiiaaDoor
open Go.RowKit
set_option linter.unusedVariables false
set_option linter.unusedSimpArgs false
set_option maxRecDepth 20000
attribute [local simp] putsF isV wordOf Deps Region.binds Region.wanted Act.put wantedX isB
/-- A slice of entries, as it reads. -/
def TV (w : World) (v : Value) (es : List EntT) : Prop := ∃ V C, v = .slice V es.length C ∧ Sl w w.heap.size 19 V es.length (flatE es) ∧ ((V = none ∧ es.length = 0 ∧ C = 0) ∨ ∃ g, V = some ⟨g, 0, none⟩ ∧ g < w.heap.size) ∧ es.length ≤ C ∧ C ≤ maxLen
theorem TV.of {B : Nat} {W w : World} {v : Value} {es : List EntT} {m : Nat} (h : OBM 19 B W v m (flatE es) w) (hm : es.length = m) : TV w v es := by
  obtain ⟨V, C, rfl, h1, h2, h3⟩ := h.slice3
  subst hm
  refine ⟨V, C, rfl, h.sl, ?_, h1, h2⟩
  rcases h3 with h3 | ⟨g, h3, -, h4⟩
  · exact .inl h3
  · exact .inr ⟨g, h3, h4⟩
theorem TV.below {w w' : World} {v : Value} {es : List EntT} (h : TV w v es) (hb : Below w.heap.size w w') : TV w' v es := by
  obtain ⟨V, C, rfl, h1, h2, h3, h4⟩ := h
  refine ⟨V, C, rfl, (h1.below hb).more hb.size, ?_, h3, h4⟩
  rcases h2 with h2 | ⟨g, h2, h5⟩
  · exact .inl h2
  · exact .inr ⟨g, h2, Nat.lt_of_lt_of_le h5 hb.size⟩
theorem TV.nil (w : World) : TV w (.slice none 0 0) [] := ⟨none, 0, rfl, Sl.nil _ _ _ _, .inl ⟨rfl, rfl, rfl⟩, Nat.le_refl _, Nat.zero_le _⟩
theorem TV.ents {w : World} {V : Option Addr} {m C : Nat} {es : List EntT} (h : TV w (.slice V m C) es) (hm : es.length = m) : EntsV w w.heap.size V m es := by
  obtain ⟨V', C', he, h1, h2, h3, h4⟩ := h
  injection he with he1 he2 he3
  subst he1 he2 he3
  refine ⟨h1.ents (Nat.le_refl _) rfl, rfl, fun ad had => ?_⟩
  rcases h2 with ⟨h2, -⟩ | ⟨g, h2, h5⟩
  · rw [h2] at had; cases had
  · rw [h2] at had; injection had with had; subst had; exact h5
theorem TV.src {P : Program} {w : World} {V : Option Addr} {m C : Nat} {es : List EntT} (h : TV w (.slice V m C) es) {tx e' : TypeId} (hk : P.underlying tx = some (.slice e')) (hm : es.length = m) : Src P 19 tx (.slice V m C) m (flatE es) w := by
  obtain ⟨V', C', he, h1, h2, h3, h4⟩ := h
  injection he with he1 he2 he3
  subst he1 he2 he3
  refine Sl.srcM hk h1 (fun hn => ?_) (flatE_one es)
  rcases h2 with ⟨-, h2, -⟩ | ⟨g, h2, -⟩
  · exact h2
  · rw [hn] at h2; cases h2
theorem until_mono {k : Nat} {p : Value → World → Prop} {d : Nat → Bool} {K : Nat} {v : Value} {w : World} (h : until_ k p d v w) : until_ k p (setD d K) v w := fun hk => h (setD_false hk)
theorem any_take {es : List EntT} {k : Nat} {e : EntT} (q : EntT → Bool) (he : es[k]? = some e) : (es.take (k + 1)).any q = ((es.take k).any q || q e) := by rw [List.take_add_one, he]; simp
theorem TV.cells {w : World} {b o m C : Nat} {es : List EntT} (h : TV w (.slice (some ⟨b, o, none⟩) m C) es) : b < w.heap.size ∧ ∀ j u, (flatE es)[j]? = some u → w.cell? ⟨b, o + j, none⟩ = some u := by
  obtain ⟨V', C', he, h1, h2, h3, h4⟩ := h
  injection he with he1 he2 he3
  subst he1 he2 he3
  rcases h2 with ⟨h2, -⟩ | ⟨g, h2, h5⟩
  · cases h2
  · injection h2 with h2; injection h2 with h2 h3; subst h2 h3
    refine ⟨h5, fun j u hu => ?_⟩
    have := h1.cells_at _ rfl j u hu
    rwa [Addr.add_lit] at this
theorem flatE_append (xs ys : List EntT) : flatE (xs ++ ys) = flatE xs ++ flatE ys := by unfold flatE; simp
theorem TV.take {P : Program} {w : World} {b o m C : Nat} {es : List EntT} (h : TV w (.slice (some ⟨b, o, none⟩) m C) es) {tx e' : TypeId} (hk : P.underlying tx = some (.slice e')) (a C' : Nat) (ha : (es.take a).length = a) : Src P 19 tx (.slice (some ⟨b, o, none⟩) a C') a (flatE (es.take a)) w := by
  refine Src.ofSlice _ hk ⟨b, o, none⟩ a C' _ (by rw [flatE_len, ha]) (fun j u hu => ?_) (flatE_one _)
  rw [Addr.add_lit]
  refine h.cells.2 j u ?_
  have e : flatE es = flatE (es.take a) ++ flatE (es.drop a) := by rw [← flatE_append, List.take_append_drop]
  rw [e, List.getElem?_append_left (List.getElem?_eq_some_iff.1 hu).1]
  exact hu
theorem TV.drop {P : Program} {w : World} {b o m C : Nat} {es : List EntT} (h : TV w (.slice (some ⟨b, o, none⟩) m C) es) {tx e' : TypeId} (hk : P.underlying tx = some (.slice e')) (a r C' : Nat) (ha : a ≤ es.length) (hr : (es.drop a).length = r) : Src P 19 tx (.slice (some ⟨b, o + a * 19, none⟩) r C') r (flatE (es.drop a)) w := by
  refine Src.ofSlice _ hk ⟨b, o + a * 19, none⟩ r C' _ (by rw [flatE_len, hr]) (fun j u hu => ?_) (flatE_one _)
  rw [Addr.add_lit]
  have e : flatE es = flatE (es.take a) ++ flatE (es.drop a) := by rw [← flatE_append, List.take_append_drop]
  have hl : (flatE (es.take a)).length = a * 19 := by rw [flatE_len, List.length_take, Nat.min_eq_left ha]
  have := h.cells.2 (a * 19 + j) u (by rw [e, List.getElem?_append_right (by omega), hl, Nat.add_sub_cancel_left]; exact hu)
  rwa [← Nat.add_assoc] at this
theorem src_nothing {P : Program} {w : World} {tx e' : TypeId} (hk : P.underlying tx = some (.slice e')) (ad : Addr) (C : Nat) : Src P 19 tx (.slice (some ad) 0 C) 0 [] w :=
  Src.ofSlice _ hk ad 0 C [] rfl (fun j u hu => by simp at hu) (by simp)
theorem small_facts (a q C : Nat) (h1 : a < q) (h2 : q ≤ 16) (h3 : q ≤ C) : wrap64 ((a : Int) + 1) = (a : Int) + 1 ∧ IntKind.i64.wrap ((a : Int) + 1) = (a : Int) + 1 ∧ (a : Int) ≤ C ∧ (a : Int) + 1 ≤ q ∧ (q : Int) ≤ C ∧ (0 : Int) ≤ (a : Int) + 1 ∧ ((a : Int) + 1).toNat = a + 1 := by
  refine ⟨by unfold wrap64; omega, by rw [IntKind.wrap_i64]; omega, by omega, by omega, by omega, by omega, by omega⟩
theorem sub_facts (a q : Nat) (h1 : a < q) (h2 : q ≤ 16) : 0 + a ≤ maxLen ∧ (0 + a) * 184 ≤ 140737488355328 ∧ a + (q - (a + 1)) ≤ maxLen ∧ (a + (q - (a + 1))) * 184 ≤ 140737488355328 ∧ a + (q - (a + 1)) = q - 1 ∧ q - 1 ≤ 1048576 := by
  unfold maxLen
  refine ⟨by omega, by omega, by omega, by omega, by omega, by omega⟩
theorem cap_of {w : World} {V : Option Addr} {q C : Nat} {es : List EntT} (h : TV w (.slice V q C) es) : q ≤ C := by
  obtain ⟨V', C', he, -, -, h3, -⟩ := h
  injection he with he1 he2 he3
  subst he2 he3
  exact h3
/-- Those that are over at a time, and the others. -/
def goneE (t : Int) (es : List EntT) : List EntT := es.filter fun x => decide (x.2.2.2.2.2 ≤ t)
def stayE (t : Int) (es : List EntT) : List EntT := es.filter fun x => !decide (x.2.2.2.2.2 ≤ t)
theorem goneE_next (t : Int) {es : List EntT} {q : Nat} {y : EntT} (hy : es[q]? = some y) : goneE t (es.take (q + 1)) = goneE t (es.take q) ++ (if decide (y.2.2.2.2.2 ≤ t) then [y] else []) := by
  unfold goneE
  rw [List.take_add_one, hy, Option.toList_some, List.filter_append]
  congr 1
  cases h : decide (y.2.2.2.2.2 ≤ t) <;> simp [h]
theorem stayE_next (t : Int) {es : List EntT} {q : Nat} {y : EntT} (hy : es[q]? = some y) : stayE t (es.take (q + 1)) = stayE t (es.take q) ++ (if !decide (y.2.2.2.2.2 ≤ t) then [y] else []) := by
  unfold stayE
  rw [List.take_add_one, hy, Option.toList_some, List.filter_append]
  congr 1
  cases h : decide (y.2.2.2.2.2 ≤ t) <;> simp [h]
theorem goneE_le (t : Int) (es : List EntT) (q : Nat) : (goneE t (es.take q)).length ≤ q := Nat.le_trans (List.length_filter_le _ _) (by rw [List.length_take]; omega)
theorem stayE_le (t : Int) (es : List EntT) (q : Nat) : (stayE t (es.take q)).length ≤ q := Nat.le_trans (List.length_filter_le _ _) (by rw [List.length_take]; omega)
/-- The place of the first one that is hit among so many; -1, if there is none. -/
def AtOf (p : EntT → Bool) (es : List EntT) (q : Nat) (pi : Int) : Prop := (pi = -1 ∧ (es.take q).any p = false) ∨ ∃ a : Nat, ∃ _ : a < q, ∃ ha : a < es.length, pi = a ∧ p es[a] = true ∧ ∀ i (hi : i < es.length), i < a → p es[i] = false
theorem AtOf.cases {p : EntT → Bool} {es : List EntT} {q : Nat} {pi : Int} (h : AtOf p es q pi) : pi = -1 ∨ ∃ a : Nat, pi = a := by
  rcases h with ⟨h, -⟩ | ⟨a, -, -, h, -⟩
  · exact .inl h
  · exact .inr ⟨a, h⟩
theorem AtOf.next {p : EntT → Bool} {es : List EntT} {q : Nat} {pi : Int} {y : EntT} (h : AtOf p es q pi) (hy : es[q]? = some y) :
    (p y = false → AtOf p es (q + 1) pi) ∧ (p y = true → pi = -1 → AtOf p es (q + 1) q) ∧ (0 ≤ pi → AtOf p es (q + 1) pi) := by
  obtain ⟨hq, hye⟩ := List.getElem?_eq_some_iff.1 hy
  have hany := any_take p hy
  refine ⟨fun hp => ?_, fun hp hpi => ?_, fun hpi => ?_⟩
  · rcases h with ⟨h1, h2⟩ | ⟨a, h1, h2, h3, h4, h5⟩
    · exact .inl ⟨h1, by rw [hany, h2, hp]; rfl⟩
    · exact .inr ⟨a, by omega, h2, h3, h4, h5⟩
  · rcases h with ⟨h1, h2⟩ | ⟨a, h1, h2, h3, h4, h5⟩
    · refine .inr ⟨q, by omega, hq, rfl, by rw [hye]; exact hp, fun i hi hlt => ?_⟩
      rw [List.any_eq_false] at h2
      have := h2 es[i] (by rw [List.mem_iff_getElem]; exact ⟨i, by rw [List.length_take]; omega, by rw [List.getElem_take]⟩)
      simpa using this
    · omega
  · rcases h with ⟨h1, h2⟩ | ⟨a, h1, h2, h3, h4, h5⟩
    · omega
    · exact .inr ⟨a, by omega, h2, h3, h4, h5⟩
/-- The first 'if' whose way begins with a region. -/
noncomputable def ifAt (n : Nat) : Code → Option Code
  | .cond c x y => if (match x with | .seq (.region k _ _) _ => k == n | _ => false) = true then some (.cond c x y) else match ifAt n x with
    | some z => some z
    | none => ifAt n y
  | .seq x y => match ifAt n x with
    | some z => some z
    | none => ifAt n y
  | .block _ x => ifAt n x
  | .loop x => ifAt n x
  | .scope x => ifAt n x
  | _ => none
/-- The three ways of a deed. -/
noncomputable def penSwitch : Code := ((Tryd.f3.body).bind (ifAt 25)).getD .skip
end Go.Proofs.YtpopnlbpeboiiaaDoor
