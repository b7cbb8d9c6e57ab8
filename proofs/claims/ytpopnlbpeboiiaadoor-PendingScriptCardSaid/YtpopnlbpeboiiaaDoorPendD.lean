/- Entries parted by a condition: the contract of split, whatever the condition is. -/
import Derived.Test.YtpopnlbpeboiiaaDoorPendC
import Derived.Outline
namespace Go.Proofs.YtpopnlbpeboiiaaDoor
open Go.RowKit
set_option linter.unusedVariables false
set_option linter.unusedSimpArgs false
set_option maxRecDepth 20000
/-- Those whose place is named. -/
def pickE (p : Nat → Bool) (es : List EntT) : List EntT := (es.zipIdx.filter (fun x => p x.2)).map (·.1)
theorem pickE_next (p : Nat → Bool) {es : List EntT} {k : Nat} {e : EntT} (he : es[k]? = some e) : pickE p (es.take (k + 1)) = pickE p (es.take k) ++ (if p k then [e] else []) := by
  have hk : k ≤ es.length := by have := (List.getElem?_eq_some_iff.1 he).1; omega
  unfold pickE
  rw [List.take_add_one, he, Option.toList_some, List.zipIdx_append, List.filter_append, List.map_append]
  congr 1
  rw [List.length_take, Nat.min_eq_left hk]
  cases h : p k <;> simp [h]
theorem pickE_le (p : Nat → Bool) (es : List EntT) : (pickE p es).length ≤ es.length := by
  unfold pickE
  rw [List.length_map]
  exact Nat.le_trans (List.length_filter_le _ _) (by simp)
theorem pickE_filter (q : EntT → Bool) : ∀ (p : Nat → Bool) (es : List EntT) , (∀ i e, es[i]? = some e → p i = q e) → pickE p es = es.filter q := by
  intro p es h
  unfold pickE
  have key : ∀ (l : List EntT) (k : Nat), (∀ i e, l[i]? = some e → p (k + i) = q e) → ((l.zipIdx k).filter (fun x => p x.2)).map (·.1) = l.filter q := by
    intro l
    induction l with
    | nil => intro k _; rfl
    | cons a l ih =>
      intro k hk
      have h0 := hk 0 a (by simp)
      rw [Nat.add_zero] at h0
      have := ih (k + 1) (fun i e he => by rw [show k + 1 + i = k + (i + 1) by omega]; exact hk (i + 1) e (by simpa using he))
      rw [List.zipIdx_cons, List.filter_cons, List.filter_cons]
      simp only [h0]
      split
      · rw [List.map_cons, this]
      · exact this
  exact key es 0 (fun i e he => by rw [Nat.zero_add]; exact h i e he)
theorem Ents.belowB {w w' : World} {A : Option Addr} {es : List EntT} {B : Nat} (h : Ents w A es) (hb : Below B w w') (hs : w.heap.size ≤ w'.heap.size) (hA : ∀ ad, A = some ad → ad.block < B) : Ents w' A es := by
  intro i e he
  obtain ⟨b, off, hAe, hl, hc⟩ := h i e he
  have hB : b < B := hA _ hAe
  exact ⟨b, off, hAe, Nat.lt_of_lt_of_le hl hs, fun j u hu => (hb.cell (p := ⟨b, off + i * 19 + j, none⟩) hB).trans (hc j u hu)⟩
/-- What lies between the two stays. -/
def Mid (N : Nat) (w w' : World) : Prop := w.heap.size ≤ w'.heap.size ∧ ∀ q, N ≤ q → q < w.heap.size → w'.heap[q]? = w.heap[q]?
/-- What lies below stays. -/
def Low (N : Nat) (w w' : World) : Prop := N ≤ w'.heap.size ∧ ∀ q, q < N → w'.heap[q]? = w.heap[q]?
theorem Low.of_below {N : Nat} {w w' : World} (h : Below w.heap.size w w') (hN : N ≤ w.heap.size) : Low N w w' := ⟨Nat.le_trans hN h.size, fun q hq => h.block q (by omega)⟩
theorem ent_zero : (Tryd.prog.info? 41).map (fun i => (i.zero, i.size, i.bytes)) = some (some (.agg #[.int .u16 0, .int .u16 0, .bool false, .int .i64 0, .bool false, .bool false, .bool false, .bool false, .int .i64 0, .string ⟨#[]⟩, .int .u16 0, .slice none 0 0, .slice none 0 0, .slice none 0 0, .int .i64 0, .string ⟨#[]⟩, .int .i64 0, .bool false, .int .i64 0]), 19, 184) := by kernel_rfl
set_option maxHeartbeats 6400000 in
theorem split_add (g0 : Nat) (A : Option Addr) (n c : Nat) (es : List EntT) (p : Nat → Bool) (B : Nat) (Inv : Nat → World → Prop) (w : World)
    (h : Ents w A es) (hl : es.length = n) (hn : n ≤ 1048576) (hA : ∀ ad, A = some ad → ad.block < B) (hB : B ≤ w.heap.size) (h0 : Inv 0 w)
    (hst : ∀ k w1 w2, Inv k w1 → Low w.heap.size w1 w2 → Inv k w2)
    (hF : ∀ k e w1, es[k]? = some e → Inv k w1 → Below B w w1 → w.heap.size ≤ w1.heap.size → Calls Tryd.prog 15 #[entA e, .pointer (some ⟨g0, 0, none⟩)] w1 fun r w2 => r = .returned (.bool (p k)) ∧ Inv (k + 1) w2 ∧ Below B w1 w2 ∧ Mid w.heap.size w1 w2) :
    Calls Tryd.prog 14 #[.slice A n c, .func (.func 15) #[] #[.pointer (some ⟨g0, 0, none⟩)]] w fun r w' => ∃ v1 v2, r = .returned (.tuple #[v1, v2]) ∧ OBM 19 B w v1 (pickE p es).length (flatE (pickE p es)) w' ∧
      OBM 19 B w v2 (pickE (fun i => !p i) es).length (flatE (pickE (fun i => !p i) es)) w' ∧ (∀ q, v1.ownBlock = some q → w.heap.size ≤ q) ∧ (∀ q, v2.ownBlock = some q → w.heap.size ≤ q) ∧ (∀ q, v1.ownBlock = some q → v2.ownBlock ≠ some q) ∧ Inv n w' := by
  have H := Lib.hid h
  have HL := Lib.hid hl
  have HN := Lib.hid hn
  have HA := Lib.hid hA
  have HB := Lib.hid hB
  have HST := Lib.hid hst
  have HF := Lib.hid hF
  have H0 := Lib.hid h0
  obtain ⟨i0, hi, hz0, hz1, hz2⟩ := info_parts4 ent_zero
  clear h hl hn hA hB hst hF h0
  go_enter Tryd.func14, Tryd.ntmps14
  go_wp2_with fail
  go_loopw [6, 7, 12] (fun v1 v2 i wr => ∃ (k : Nat), k ≤ n ∧ i = .int .i64 k ∧ Hid (OBM 19 B w v1 (pickE p (es.take k)).length (flatE (pickE p (es.take k))) wr) ∧ Hid (OBM 19 B w v2 (pickE (fun i => !p i) (es.take k)).length (flatE (pickE (fun i => !p i) (es.take k))) wr) ∧
    Hid (∀ q, v1.ownBlock = some q → w.heap.size ≤ q) ∧ Hid (∀ q, v2.ownBlock = some q → w.heap.size ≤ q) ∧ Hid (∀ q, v1.ownBlock = some q → v2.ownBlock ≠ some q) ∧ Hid (Inv k wr) ∧ Hid (w.heap.size ≤ wr.heap.size)) (fun _ _ i _ => n - (intOf i).toNat)
  case atStart => exact ⟨0, Nat.zero_le _, rfl, Lib.hid (by simpa [pickE, flatE] using OBM.nil (sz := 19) (Below.refl B w) HB.out), Lib.hid (by simpa [pickE, flatE] using OBM.nil (sz := 19) (Below.refl B w) HB.out), Lib.hid (fun q hq => by cases hq), Lib.hid (fun q hq => by cases hq), Lib.hid (fun q hq => by cases hq), H0, Lib.hid (Nat.le_refl _)⟩
  case round =>
    obtain ⟨k, hk, rfl, HO1, HO2, HW1, HW2, HD, HI, HZ⟩ := hrel
    by_cases hlt : k < n
    · have hlt' : (k : Int) < n := by omega
      obtain ⟨e, he⟩ : ∃ r, es[k]? = some r := ⟨_, List.getElem?_eq_getElem (by rw [HL.out]; omega)⟩
      obtain ⟨bb, off, rfl, hbb, hc⟩ := (H.out.belowB HO1.out.bel HZ.out HA.out) k _ he
      have hnx1 := pickE_next p he
      have hnx2 := pickE_next (fun i => !p i) he
      have hl1 := pickE_le p (es.take k)
      have hl2 := pickE_le (fun i => !p i) (es.take k)
      rw [List.length_take] at hl1 hl2
      have CF := HF.out k e
      have HCF := Lib.hid (fun w1 h1 h2 h3 => CF w1 he h1 h2 h3)
      obtain ⟨e0, e1, e2, e3, e4, e5⟩ := e
      have HOW : Hid (∀ w, Calls Tryd.prog 16 #[.agg #[.int .u16 e0, .int .u16 0, .bool false, .int .i64 0, .bool false, .bool false, .bool false, .bool false, .int .i64 0, .string e1, .int .u16 e2, .slice none 0 0, .slice none 0 0, .slice none 0 0, .int .i64 0, .string e3, .int .i64 e4, .bool false, .int .i64 e5]] w fun r w' => r = .returned (.agg #[.int .u16 e0, .int .u16 0, .bool false, .int .i64 0, .bool false, .bool false, .bool false, .bool false, .int .i64 0, .string e1, .int .u16 e2, .slice none 0 0, .slice none 0 0, .slice none 0 0, .int .i64 0, .string e3, .int .i64 e4, .bool false, .int .i64 e5]) ∧ Below w.heap.size w w') := Lib.hid (fun w => own_any (e0, e1, e2, e3, e4, e5) w)
      have hrg : wr.rangeAt bb (off + k * 19) [.int .u16 e0, .int .u16 0, .bool false, .int .i64 0, .bool false, .bool false, .bool false, .bool false, .int .i64 0, .string e1, .int .u16 e2, .slice none 0 0, .slice none 0 0, .slice none 0 0, .int .i64 0, .string e3, .int .i64 e4, .bool false, .int .i64 e5] := fun j v hv => hc j v hv
      have HRG := Lib.hid hrg
      have HNX1 := Lib.hid hnx1
      have HNX2 := Lib.hid hnx2
      have HK1 := Lib.hid (show (pickE p (es.take k)).length < 1048576 by have := HN.out; omega)
      have HK2 := Lib.hid (show (pickE (fun i => !p i) (es.take k)).length < 1048576 by have := HN.out; omega)
      have HE := Lib.hid he
      clear hnx1 hnx2 hl1 hl2 CF hc hrg he
      generalize hp1 : pickE p (es.take k) = L1 at *
      generalize hp2 : pickE (fun i => !p i) (es.take k) = L2 at *
      clear hp1 hp2
      obtain ⟨V1, C1, rfl, -, -, -⟩ := HO1.out.slice
      obtain ⟨V2, C2, rfl, -, -, -⟩ := HO2.out.slice
      have hbZ : Below wr.heap.size wr ((wr.alloc (.cells #[.int .u16 0, .int .u16 0, .bool false, .int .i64 0, .bool false, .bool false, .bool false, .bool false, .int .i64 0, .string ⟨#[]⟩, .int .u16 0, .slice none 0 0, .slice none 0 0, .slice none 0 0, .int .i64 0, .string ⟨#[]⟩, .int .i64 0, .bool false, .int .i64 0] 41)).setCells wr.heap.size 0 [.int .u16 e0, .int .u16 0, .bool false, .int .i64 0, .bool false, .bool false, .bool false, .bool false, .int .i64 0, .string e1, .int .u16 e2, .slice none 0 0, .slice none 0 0, .slice none 0 0, .int .i64 0, .string e3, .int .i64 e4, .bool false, .int .i64 e5]) := below_setCells' (Nat.le_refl _) _ 0 ((Below.refl _ _).alloc (Nat.le_refl _) _)
      have hZ := Cs.new wr #[.int .u16 0, .int .u16 0, .bool false, .int .i64 0, .bool false, .bool false, .bool false, .bool false, .int .i64 0, .string ⟨#[]⟩, .int .u16 0, .slice none 0 0, .slice none 0 0, .slice none 0 0, .int .i64 0, .string ⟨#[]⟩, .int .i64 0, .bool false, .int .i64 0] 41 [.int .u16 0, .int .u16 0, .bool false, .int .i64 0, .bool false, .bool false, .bool false, .bool false, .int .i64 0, .string ⟨#[]⟩, .int .u16 0, .slice none 0 0, .slice none 0 0, .slice none 0 0, .int .i64 0, .string ⟨#[]⟩, .int .i64 0, .bool false, .int .i64 0]
      have HTH := Lib.hid (hZ.there 19 rfl)
      have hM5 := hZ.mid [.int .u16 e0, .int .u16 0, .bool false, .int .i64 0, .bool false, .bool false, .bool false, .bool false, .int .i64 0, .string e1, .int .u16 e2, .slice none 0 0, .slice none 0 0, .slice none 0 0, .int .i64 0, .string e3, .int .i64 e4, .bool false, .int .i64 e5] rfl
      have H5 := Lib.hid (And.intro hM5 hbZ)
      clear hbZ hZ hM5
      go_upto_region 6 with (first
        | refine wpList_load_mid rfl 41 _ rfl bb (off + k * 19) rfl _ _ HRG.out Tryd.underlying41 rfl (by kernel_rfl) ?_
        | refine wpList_store_mid rfl 41 _ _ rfl wr.heap.size 0 #[.int .u16 e0, .int .u16 0, .bool false, .int .i64 0, .bool false, .bool false, .bool false, .bool false, .int .i64 0, .string e1, .int .u16 e2, .slice none 0 0, .slice none 0 0, .slice none 0 0, .int .i64 0, .string e3, .int .i64 e4, .bool false, .int .i64 e5] rfl rfl HTH.out (by kernel_rfl) (by simp [Value.oneCell']) ?_)
      obtain ⟨hM5, hb5⟩ := H5.out
      obtain ⟨g2, hg2⟩ : ∃ g, g = wr.heap.size := ⟨_, rfl⟩
      generalize (wr.alloc (.cells #[.int .u16 0, .int .u16 0, .bool false, .int .i64 0, .bool false, .bool false, .bool false, .bool false, .int .i64 0, .string ⟨#[]⟩, .int .u16 0, .slice none 0 0, .slice none 0 0, .slice none 0 0, .int .i64 0, .string ⟨#[]⟩, .int .i64 0, .bool false, .int .i64 0] 41)).setCells wr.heap.size 0 [.int .u16 e0, .int .u16 0, .bool false, .int .i64 0, .bool false, .bool false, .bool false, .bool false, .int .i64 0, .string e1, .int .u16 e2, .slice none 0 0, .slice none 0 0, .slice none 0 0, .int .i64 0, .string e3, .int .i64 e4, .bool false, .int .i64 e5] = w5 at *
      rw [← hg2] at hM5 ⊢
      have HG2 := Lib.hid hg2
      have HR5 := Lib.hid hM5.range
      have HM5 := Lib.hid hM5
      have hO1 := HO1.out.keep hb5 (Nat.le_refl _)
      have hO2 := HO2.out.keep hb5 (Nat.le_refl _)
      have hI5 := HST.out _ _ _ HI.out (Low.of_below hb5 HZ.out)
      have H5 := Lib.hid (And.intro hO1 (And.intro hO2 hI5))
      have HZ5 := Lib.hid (Nat.le_trans HZ.out hb5.size)
      clear hO1 hO2 hI5 hg2 hM5 hb5 HTH HRG HO1 HO2 HI
      go_wp2_with (first | refine wpList_load_mid rfl 41 _ rfl g2 0 rfl _ _ HR5.out Tryd.underlying41 rfl (by kernel_rfl) ?_)
      refine (HCF.out _ H5.out.2.2 H5.out.1.bel HZ5.out).mono ?_
      rintro r w6 ⟨rfl, hI6, hb6, hm6⟩
      have hO1 := H5.out.1.block (H5.out.1.bel.trans hb6) hm6.1 (fun q hq => hm6.2 q (HW1.out q hq) (H5.out.1.lt q hq).2)
      have hO2 := H5.out.2.1.block (H5.out.2.1.bel.trans hb6) hm6.1 (fun q hq => hm6.2 q (HW2.out q hq) (H5.out.2.1.lt q hq).2)
      have hM6 := HM5.out.block (hm6.2 g2 (by rw [HG2.out]; exact HZ.out) HM5.out.lt) hm6.1
      have H6 := Lib.hid (And.intro hO1 (And.intro hO2 hI6))
      have HR6 := Lib.hid hM6.range
      have HZ6 := Lib.hid (Nat.le_trans HZ5.out hm6.1)
      clear hO1 hO2 hM6 hI6 hb6 hm6 H5 HR5 HM5 HCF
      cases hpk : p k with
      | true =>
        go_upto_region 7 with fail
        go_wp2_with (first | refine wpList_load_mid rfl 41 _ rfl g2 0 rfl _ _ HR6.out Tryd.underlying41 rfl (by kernel_rfl) ?_)
        refine (HOW.out _).mono ?_
        rintro r w7 ⟨rfl, hb7⟩
        have ho := Lib.hid ((H6.out.1.keep hb7 (Nat.le_refl _)).alloc (.cells #[.int .u16 e0, .int .u16 0, .bool false, .int .i64 0, .bool false, .bool false, .bool false, .bool false, .int .i64 0, .string e1, .int .u16 e2, .slice none 0 0, .slice none 0 0, .slice none 0 0, .int .i64 0, .string e3, .int .i64 e4, .bool false, .int .i64 e5] 41))
        have hS : Hid (Src Tryd.prog 19 24 (.slice (some ⟨w7.heap.size, 0, none⟩) 1 1) 1 [.int .u16 e0, .int .u16 0, .bool false, .int .i64 0, .bool false, .bool false, .bool false, .bool false, .int .i64 0, .string e1, .int .u16 e2, .slice none 0 0, .slice none 0 0, .slice none 0 0, .int .i64 0, .string e3, .int .i64 e4, .bool false, .int .i64 e5] (w7.alloc (.cells #[.int .u16 e0, .int .u16 0, .bool false, .int .i64 0, .bool false, .bool false, .bool false, .bool false, .int .i64 0, .string e1, .int .u16 e2, .slice none 0 0, .slice none 0 0, .slice none 0 0, .int .i64 0, .string e3, .int .i64 e4, .bool false, .int .i64 e5] 41))) := by
          refine Lib.hid (Src.ofSlice _ Tryd.underlying24 _ 1 1 _ rfl ?_ ?_)
          · exact news_at w7 #[.int .u16 e0, .int .u16 0, .bool false, .int .i64 0, .bool false, .bool false, .bool false, .bool false, .int .i64 0, .string e1, .int .u16 e2, .slice none 0 0, .slice none 0 0, .slice none 0 0, .int .i64 0, .string e3, .int .i64 e4, .bool false, .int .i64 e5] _
          · exact entCells_one (e0, e1, e2, e3, e4, e5)
        have H7 := Lib.hid (And.intro ((H6.out.2.1.keep hb7 (Nat.le_refl _)).alloc (.cells #[.int .u16 e0, .int .u16 0, .bool false, .int .i64 0, .bool false, .bool false, .bool false, .bool false, .int .i64 0, .string e1, .int .u16 e2, .slice none 0 0, .slice none 0 0, .slice none 0 0, .int .i64 0, .string e3, .int .i64 e4, .bool false, .int .i64 e5] 41)) (HST.out _ _ _ H6.out.2.2 (Low.of_below (hb7.alloc hb7.size (.cells #[.int .u16 e0, .int .u16 0, .bool false, .int .i64 0, .bool false, .bool false, .bool false, .bool false, .int .i64 0, .string e1, .int .u16 e2, .slice none 0 0, .slice none 0 0, .slice none 0 0, .int .i64 0, .string e3, .int .i64 e4, .bool false, .int .i64 e5] 41)) HZ6.out)))
        have HZ7 := Lib.hid (show w.heap.size ≤ w7.heap.size from Nat.le_trans HZ6.out hb7.size)
        clear hb7
        go_wp2_with (first | (at_builtin; (refine wpList_append_obm rfl _ _ 24 24 rfl 41 i0 _ 184 Tryd.underlying24 hi hz0 hz1 hz2 rfl ho.out rfl rfl hS.out rfl (by have := HK1.out; unfold maxLen; omega) (by have := HK1.out; omega) ?_)))
        intro v' w' p1 p2 p3 p4
        have P1 := Lib.hid p1
        have HP2 := Lib.hid (H7.out.1.block p1.bel (by simpa using p2) (fun q hq => p3 q (by have := (H7.out.1.lt q hq).2; simpa using this) (fun hh => HD.out q hh.symm hq)))
        have HP3 := Lib.hid (show ∀ q, v'.ownBlock = some q → w.heap.size ≤ q by
          intro q hq
          rcases p4 with hh | hh
          · rw [hh] at hq; exact HW1.out q hq
          · rw [hh] at hq; injection hq with hq; have := HZ7.out; omega)
        have HP4 := Lib.hid (show ∀ q, v'.ownBlock = some q → (Value.slice V2 L2.length C2).ownBlock ≠ some q by
          intro q hq
          rcases p4 with hh | hh
          · rw [hh] at hq; exact HD.out q hq
          · rw [hh] at hq; injection hq with hq
            intro h2
            have := (H7.out.1.lt q h2).2
            simp at this
            omega)
        have HP5 := Lib.hid (HST.out _ _ _ H7.out.2 ⟨by have := HZ7.out; omega, fun q hq => p3 q (by have := HZ7.out; omega) (fun hh => by have := HW1.out q hh.symm; omega)⟩)
        have HP6 := Lib.hid (show w.heap.size ≤ w'.heap.size by have := HZ7.out; omega)
        clear p1 p2 p3 p4 ho hS H7 H6
        have hnv := HN.out
        go_wp2_with fail
        go_round
        case rel =>
          refine ⟨k + 1, by omega, by go_num, ?_, ?_, HP3, HW2, HP4, HP5, HP6⟩
          · rw [HNX1.out, hpk, if_pos rfl, List.length_append, flatE_snoc]; exact P1
          · rw [HNX2.out]; simp only [hpk]; simp only [Bool.not_true, Bool.false_eq_true, if_false, List.append_nil]; exact HP2
        case measure => simp [intOf]; omega
      | false =>
        go_upto_region 8 with fail
        go_wp2_with (first | refine wpList_load_mid rfl 41 _ rfl g2 0 rfl _ _ HR6.out Tryd.underlying41 rfl (by kernel_rfl) ?_)
        refine (HOW.out _).mono ?_
        rintro r w7 ⟨rfl, hb7⟩
        have ho := Lib.hid ((H6.out.2.1.keep hb7 (Nat.le_refl _)).alloc (.cells #[.int .u16 e0, .int .u16 0, .bool false, .int .i64 0, .bool false, .bool false, .bool false, .bool false, .int .i64 0, .string e1, .int .u16 e2, .slice none 0 0, .slice none 0 0, .slice none 0 0, .int .i64 0, .string e3, .int .i64 e4, .bool false, .int .i64 e5] 41))
        have hS : Hid (Src Tryd.prog 19 25 (.slice (some ⟨w7.heap.size, 0, none⟩) 1 1) 1 [.int .u16 e0, .int .u16 0, .bool false, .int .i64 0, .bool false, .bool false, .bool false, .bool false, .int .i64 0, .string e1, .int .u16 e2, .slice none 0 0, .slice none 0 0, .slice none 0 0, .int .i64 0, .string e3, .int .i64 e4, .bool false, .int .i64 e5] (w7.alloc (.cells #[.int .u16 e0, .int .u16 0, .bool false, .int .i64 0, .bool false, .bool false, .bool false, .bool false, .int .i64 0, .string e1, .int .u16 e2, .slice none 0 0, .slice none 0 0, .slice none 0 0, .int .i64 0, .string e3, .int .i64 e4, .bool false, .int .i64 e5] 41))) := by
          refine Lib.hid (Src.ofSlice _ Tryd.underlying25 _ 1 1 _ rfl ?_ ?_)
          · exact news_at w7 #[.int .u16 e0, .int .u16 0, .bool false, .int .i64 0, .bool false, .bool false, .bool false, .bool false, .int .i64 0, .string e1, .int .u16 e2, .slice none 0 0, .slice none 0 0, .slice none 0 0, .int .i64 0, .string e3, .int .i64 e4, .bool false, .int .i64 e5] _
          · exact entCells_one (e0, e1, e2, e3, e4, e5)
        have H7 := Lib.hid (And.intro ((H6.out.1.keep hb7 (Nat.le_refl _)).alloc (.cells #[.int .u16 e0, .int .u16 0, .bool false, .int .i64 0, .bool false, .bool false, .bool false, .bool false, .int .i64 0, .string e1, .int .u16 e2, .slice none 0 0, .slice none 0 0, .slice none 0 0, .int .i64 0, .string e3, .int .i64 e4, .bool false, .int .i64 e5] 41)) (HST.out _ _ _ H6.out.2.2 (Low.of_below (hb7.alloc hb7.size (.cells #[.int .u16 e0, .int .u16 0, .bool false, .int .i64 0, .bool false, .bool false, .bool false, .bool false, .int .i64 0, .string e1, .int .u16 e2, .slice none 0 0, .slice none 0 0, .slice none 0 0, .int .i64 0, .string e3, .int .i64 e4, .bool false, .int .i64 e5] 41)) HZ6.out)))
        have HZ7 := Lib.hid (show w.heap.size ≤ w7.heap.size from Nat.le_trans HZ6.out hb7.size)
        clear hb7
        go_wp2_with (first | (at_builtin; (refine wpList_append_obm rfl _ _ 25 25 rfl 41 i0 _ 184 Tryd.underlying25 hi hz0 hz1 hz2 rfl ho.out rfl rfl hS.out rfl (by have := HK2.out; unfold maxLen; omega) (by have := HK2.out; omega) ?_)))
        intro v' w' p1 p2 p3 p4
        have P1 := Lib.hid p1
        have HP2 := Lib.hid (H7.out.1.block p1.bel (by simpa using p2) (fun q hq => p3 q (by have := (H7.out.1.lt q hq).2; simpa using this) (fun hh => HD.out q hq hh.symm)))
        have HP3 := Lib.hid (show ∀ q, v'.ownBlock = some q → w.heap.size ≤ q by
          intro q hq
          rcases p4 with hh | hh
          · rw [hh] at hq; exact HW2.out q hq
          · rw [hh] at hq; injection hq with hq; have := HZ7.out; omega)
        have HP4 := Lib.hid (show ∀ q, (Value.slice V1 L1.length C1).ownBlock = some q → v'.ownBlock ≠ some q by
          intro q h2
          rcases p4 with hh | hh
          · rw [hh]; exact HD.out q h2
          · rw [hh]
            intro hq
            injection hq with hq
            have := (H7.out.1.lt q h2).2
            simp at this
            omega)
        have HP5 := Lib.hid (HST.out _ _ _ H7.out.2 ⟨by have := HZ7.out; omega, fun q hq => p3 q (by have := HZ7.out; omega) (fun hh => by have := HW2.out q hh.symm; omega)⟩)
        have HP6 := Lib.hid (show w.heap.size ≤ w'.heap.size by have := HZ7.out; omega)
        clear p1 p2 p3 p4 ho hS H7 H6
        have hnv := HN.out
        go_wp2_with fail
        go_round
        case rel =>
          refine ⟨k + 1, by omega, by go_num, ?_, ?_, HW1, HP3, HP4, HP5, HP6⟩
          · rw [HNX1.out, hpk]; simp only [Bool.false_eq_true, if_false, List.append_nil]; exact HP2
          · rw [HNX2.out]; simp only [hpk]; simp only [Bool.not_false, if_true, List.length_append, flatE_snoc]; exact P1
        case measure => simp [intOf]; omega
    · have hlt' : ¬ (k : Int) < n := by omega
      obtain rfl : k = n := by omega
      have hkn : es.take k = es := List.take_of_length_le (by rw [HL.out]; omega)
      rw [hkn] at HO1 HO2
      clear hkn hk
      go_wp2_with fail
      refine bodyPost_ret (v := .tuple #[u6, u7]) (by simp [results, Tryd.results14, go_sem]) rfl ⟨u6, u7, rfl, HO1.out, HO2.out, HW1.out, HW2.out, HD.out, HI.out⟩
set_option maxHeartbeats 6400000 in
theorem split_exp (g0 : Nat) (A : Option Addr) (n c : Nat) (es : List EntT) (p : Nat → Bool) (B : Nat) (Inv : Nat → World → Prop) (w : World)
    (h : Ents w A es) (hl : es.length = n) (hn : n ≤ 1048576) (hA : ∀ ad, A = some ad → ad.block < B) (hB : B ≤ w.heap.size) (h0 : Inv 0 w)
    (hst : ∀ k w1 w2, Inv k w1 → Low w.heap.size w1 w2 → Inv k w2)
    (hF : ∀ k e w1, es[k]? = some e → Inv k w1 → Below B w w1 → w.heap.size ≤ w1.heap.size → Calls Tryd.prog 20 #[entA e, .pointer (some ⟨g0, 0, none⟩)] w1 fun r w2 => r = .returned (.bool (p k)) ∧ Inv (k + 1) w2 ∧ Below B w1 w2 ∧ Mid w.heap.size w1 w2) :
    Calls Tryd.prog 14 #[.slice A n c, .func (.func 20) #[] #[.pointer (some ⟨g0, 0, none⟩)]] w fun r w' => ∃ v1 v2, r = .returned (.tuple #[v1, v2]) ∧ OBM 19 B w v1 (pickE p es).length (flatE (pickE p es)) w' ∧
      OBM 19 B w v2 (pickE (fun i => !p i) es).length (flatE (pickE (fun i => !p i) es)) w' ∧ (∀ q, v1.ownBlock = some q → w.heap.size ≤ q) ∧ (∀ q, v2.ownBlock = some q → w.heap.size ≤ q) ∧ (∀ q, v1.ownBlock = some q → v2.ownBlock ≠ some q) ∧ Inv n w' := by
  have H := Lib.hid h
  have HL := Lib.hid hl
  have HN := Lib.hid hn
  have HA := Lib.hid hA
  have HB := Lib.hid hB
  have HST := Lib.hid hst
  have HF := Lib.hid hF
  have H0 := Lib.hid h0
  obtain ⟨i0, hi, hz0, hz1, hz2⟩ := info_parts4 ent_zero
  clear h hl hn hA hB hst hF h0
  go_enter Tryd.func14, Tryd.ntmps14
  go_wp2_with fail
  go_loopw [6, 7, 12] (fun v1 v2 i wr => ∃ (k : Nat), k ≤ n ∧ i = .int .i64 k ∧ Hid (OBM 19 B w v1 (pickE p (es.take k)).length (flatE (pickE p (es.take k))) wr) ∧ Hid (OBM 19 B w v2 (pickE (fun i => !p i) (es.take k)).length (flatE (pickE (fun i => !p i) (es.take k))) wr) ∧
    Hid (∀ q, v1.ownBlock = some q → w.heap.size ≤ q) ∧ Hid (∀ q, v2.ownBlock = some q → w.heap.size ≤ q) ∧ Hid (∀ q, v1.ownBlock = some q → v2.ownBlock ≠ some q) ∧ Hid (Inv k wr) ∧ Hid (w.heap.size ≤ wr.heap.size)) (fun _ _ i _ => n - (intOf i).toNat)
  case atStart => exact ⟨0, Nat.zero_le _, rfl, Lib.hid (by simpa [pickE, flatE] using OBM.nil (sz := 19) (Below.refl B w) HB.out), Lib.hid (by simpa [pickE, flatE] using OBM.nil (sz := 19) (Below.refl B w) HB.out), Lib.hid (fun q hq => by cases hq), Lib.hid (fun q hq => by cases hq), Lib.hid (fun q hq => by cases hq), H0, Lib.hid (Nat.le_refl _)⟩
  case round =>
    obtain ⟨k, hk, rfl, HO1, HO2, HW1, HW2, HD, HI, HZ⟩ := hrel
    by_cases hlt : k < n
    · have hlt' : (k : Int) < n := by omega
      obtain ⟨e, he⟩ : ∃ r, es[k]? = some r := ⟨_, List.getElem?_eq_getElem (by rw [HL.out]; omega)⟩
      obtain ⟨bb, off, rfl, hbb, hc⟩ := (H.out.belowB HO1.out.bel HZ.out HA.out) k _ he
      have hnx1 := pickE_next p he
      have hnx2 := pickE_next (fun i => !p i) he
      have hl1 := pickE_le p (es.take k)
      have hl2 := pickE_le (fun i => !p i) (es.take k)
      rw [List.length_take] at hl1 hl2
      have CF := HF.out k e
      have HCF := Lib.hid (fun w1 h1 h2 h3 => CF w1 he h1 h2 h3)
      obtain ⟨e0, e1, e2, e3, e4, e5⟩ := e
      have HOW : Hid (∀ w, Calls Tryd.prog 16 #[.agg #[.int .u16 e0, .int .u16 0, .bool false, .int .i64 0, .bool false, .bool false, .bool false, .bool false, .int .i64 0, .string e1, .int .u16 e2, .slice none 0 0, .slice none 0 0, .slice none 0 0, .int .i64 0, .string e3, .int .i64 e4, .bool false, .int .i64 e5]] w fun r w' => r = .returned (.agg #[.int .u16 e0, .int .u16 0, .bool false, .int .i64 0, .bool false, .bool false, .bool false, .bool false, .int .i64 0, .string e1, .int .u16 e2, .slice none 0 0, .slice none 0 0, .slice none 0 0, .int .i64 0, .string e3, .int .i64 e4, .bool false, .int .i64 e5]) ∧ Below w.heap.size w w') := Lib.hid (fun w => own_any (e0, e1, e2, e3, e4, e5) w)
      have hrg : wr.rangeAt bb (off + k * 19) [.int .u16 e0, .int .u16 0, .bool false, .int .i64 0, .bool false, .bool false, .bool false, .bool false, .int .i64 0, .string e1, .int .u16 e2, .slice none 0 0, .slice none 0 0, .slice none 0 0, .int .i64 0, .string e3, .int .i64 e4, .bool false, .int .i64 e5] := fun j v hv => hc j v hv
      have HRG := Lib.hid hrg
      have HNX1 := Lib.hid hnx1
      have HNX2 := Lib.hid hnx2
      have HK1 := Lib.hid (show (pickE p (es.take k)).length < 1048576 by have := HN.out; omega)
      have HK2 := Lib.hid (show (pickE (fun i => !p i) (es.take k)).length < 1048576 by have := HN.out; omega)
      have HE := Lib.hid he
      clear hnx1 hnx2 hl1 hl2 CF hc hrg he
      generalize hp1 : pickE p (es.take k) = L1 at *
      generalize hp2 : pickE (fun i => !p i) (es.take k) = L2 at *
      clear hp1 hp2
      obtain ⟨V1, C1, rfl, -, -, -⟩ := HO1.out.slice
      obtain ⟨V2, C2, rfl, -, -, -⟩ := HO2.out.slice
      have hbZ : Below wr.heap.size wr ((wr.alloc (.cells #[.int .u16 0, .int .u16 0, .bool false, .int .i64 0, .bool false, .bool false, .bool false, .bool false, .int .i64 0, .string ⟨#[]⟩, .int .u16 0, .slice none 0 0, .slice none 0 0, .slice none 0 0, .int .i64 0, .string ⟨#[]⟩, .int .i64 0, .bool false, .int .i64 0] 41)).setCells wr.heap.size 0 [.int .u16 e0, .int .u16 0, .bool false, .int .i64 0, .bool false, .bool false, .bool false, .bool false, .int .i64 0, .string e1, .int .u16 e2, .slice none 0 0, .slice none 0 0, .slice none 0 0, .int .i64 0, .string e3, .int .i64 e4, .bool false, .int .i64 e5]) := below_setCells' (Nat.le_refl _) _ 0 ((Below.refl _ _).alloc (Nat.le_refl _) _)
      have hZ := Cs.new wr #[.int .u16 0, .int .u16 0, .bool false, .int .i64 0, .bool false, .bool false, .bool false, .bool false, .int .i64 0, .string ⟨#[]⟩, .int .u16 0, .slice none 0 0, .slice none 0 0, .slice none 0 0, .int .i64 0, .string ⟨#[]⟩, .int .i64 0, .bool false, .int .i64 0] 41 [.int .u16 0, .int .u16 0, .bool false, .int .i64 0, .bool false, .bool false, .bool false, .bool false, .int .i64 0, .string ⟨#[]⟩, .int .u16 0, .slice none 0 0, .slice none 0 0, .slice none 0 0, .int .i64 0, .string ⟨#[]⟩, .int .i64 0, .bool false, .int .i64 0]
      have HTH := Lib.hid (hZ.there 19 rfl)
      have hM5 := hZ.mid [.int .u16 e0, .int .u16 0, .bool false, .int .i64 0, .bool false, .bool false, .bool false, .bool false, .int .i64 0, .string e1, .int .u16 e2, .slice none 0 0, .slice none 0 0, .slice none 0 0, .int .i64 0, .string e3, .int .i64 e4, .bool false, .int .i64 e5] rfl
      have H5 := Lib.hid (And.intro hM5 hbZ)
      clear hbZ hZ hM5
      go_upto_region 6 with (first
        | refine wpList_load_mid rfl 41 _ rfl bb (off + k * 19) rfl _ _ HRG.out Tryd.underlying41 rfl (by kernel_rfl) ?_
        | refine wpList_store_mid rfl 41 _ _ rfl wr.heap.size 0 #[.int .u16 e0, .int .u16 0, .bool false, .int .i64 0, .bool false, .bool false, .bool false, .bool false, .int .i64 0, .string e1, .int .u16 e2, .slice none 0 0, .slice none 0 0, .slice none 0 0, .int .i64 0, .string e3, .int .i64 e4, .bool false, .int .i64 e5] rfl rfl HTH.out (by kernel_rfl) (by simp [Value.oneCell']) ?_)
      obtain ⟨hM5, hb5⟩ := H5.out
      obtain ⟨g2, hg2⟩ : ∃ g, g = wr.heap.size := ⟨_, rfl⟩
      generalize (wr.alloc (.cells #[.int .u16 0, .int .u16 0, .bool false, .int .i64 0, .bool false, .bool false, .bool false, .bool false, .int .i64 0, .string ⟨#[]⟩, .int .u16 0, .slice none 0 0, .slice none 0 0, .slice none 0 0, .int .i64 0, .string ⟨#[]⟩, .int .i64 0, .bool false, .int .i64 0] 41)).setCells wr.heap.size 0 [.int .u16 e0, .int .u16 0, .bool false, .int .i64 0, .bool false, .bool false, .bool false, .bool false, .int .i64 0, .string e1, .int .u16 e2, .slice none 0 0, .slice none 0 0, .slice none 0 0, .int .i64 0, .string e3, .int .i64 e4, .bool false, .int .i64 e5] = w5 at *
      rw [← hg2] at hM5 ⊢
      have HG2 := Lib.hid hg2
      have HR5 := Lib.hid hM5.range
      have HM5 := Lib.hid hM5
      have hO1 := HO1.out.keep hb5 (Nat.le_refl _)
      have hO2 := HO2.out.keep hb5 (Nat.le_refl _)
      have hI5 := HST.out _ _ _ HI.out (Low.of_below hb5 HZ.out)
      have H5 := Lib.hid (And.intro hO1 (And.intro hO2 hI5))
      have HZ5 := Lib.hid (Nat.le_trans HZ.out hb5.size)
      clear hO1 hO2 hI5 hg2 hM5 hb5 HTH HRG HO1 HO2 HI
      go_wp2_with (first | refine wpList_load_mid rfl 41 _ rfl g2 0 rfl _ _ HR5.out Tryd.underlying41 rfl (by kernel_rfl) ?_)
      refine (HCF.out _ H5.out.2.2 H5.out.1.bel HZ5.out).mono ?_
      rintro r w6 ⟨rfl, hI6, hb6, hm6⟩
      have hO1 := H5.out.1.block (H5.out.1.bel.trans hb6) hm6.1 (fun q hq => hm6.2 q (HW1.out q hq) (H5.out.1.lt q hq).2)
      have hO2 := H5.out.2.1.block (H5.out.2.1.bel.trans hb6) hm6.1 (fun q hq => hm6.2 q (HW2.out q hq) (H5.out.2.1.lt q hq).2)
      have hM6 := HM5.out.block (hm6.2 g2 (by rw [HG2.out]; exact HZ.out) HM5.out.lt) hm6.1
      have H6 := Lib.hid (And.intro hO1 (And.intro hO2 hI6))
      have HR6 := Lib.hid hM6.range
      have HZ6 := Lib.hid (Nat.le_trans HZ5.out hm6.1)
      clear hO1 hO2 hM6 hI6 hb6 hm6 H5 HR5 HM5 HCF
      cases hpk : p k with
      | true =>
        go_upto_region 7 with fail
        go_wp2_with (first | refine wpList_load_mid rfl 41 _ rfl g2 0 rfl _ _ HR6.out Tryd.underlying41 rfl (by kernel_rfl) ?_)
        refine (HOW.out _).mono ?_
        rintro r w7 ⟨rfl, hb7⟩
        have ho := Lib.hid ((H6.out.1.keep hb7 (Nat.le_refl _)).alloc (.cells #[.int .u16 e0, .int .u16 0, .bool false, .int .i64 0, .bool false, .bool false, .bool false, .bool false, .int .i64 0, .string e1, .int .u16 e2, .slice none 0 0, .slice none 0 0, .slice none 0 0, .int .i64 0, .string e3, .int .i64 e4, .bool false, .int .i64 e5] 41))
        have hS : Hid (Src Tryd.prog 19 24 (.slice (some ⟨w7.heap.size, 0, none⟩) 1 1) 1 [.int .u16 e0, .int .u16 0, .bool false, .int .i64 0, .bool false, .bool false, .bool false, .bool false, .int .i64 0, .string e1, .int .u16 e2, .slice none 0 0, .slice none 0 0, .slice none 0 0, .int .i64 0, .string e3, .int .i64 e4, .bool false, .int .i64 e5] (w7.alloc (.cells #[.int .u16 e0, .int .u16 0, .bool false, .int .i64 0, .bool false, .bool false, .bool false, .bool false, .int .i64 0, .string e1, .int .u16 e2, .slice none 0 0, .slice none 0 0, .slice none 0 0, .int .i64 0, .string e3, .int .i64 e4, .bool false, .int .i64 e5] 41))) := by
          refine Lib.hid (Src.ofSlice _ Tryd.underlying24 _ 1 1 _ rfl ?_ ?_)
          · exact news_at w7 #[.int .u16 e0, .int .u16 0, .bool false, .int .i64 0, .bool false, .bool false, .bool false, .bool false, .int .i64 0, .string e1, .int .u16 e2, .slice none 0 0, .slice none 0 0, .slice none 0 0, .int .i64 0, .string e3, .int .i64 e4, .bool false, .int .i64 e5] _
          · exact entCells_one (e0, e1, e2, e3, e4, e5)
        have H7 := Lib.hid (And.intro ((H6.out.2.1.keep hb7 (Nat.le_refl _)).alloc (.cells #[.int .u16 e0, .int .u16 0, .bool false, .int .i64 0, .bool false, .bool false, .bool false, .bool false, .int .i64 0, .string e1, .int .u16 e2, .slice none 0 0, .slice none 0 0, .slice none 0 0, .int .i64 0, .string e3, .int .i64 e4, .bool false, .int .i64 e5] 41)) (HST.out _ _ _ H6.out.2.2 (Low.of_below (hb7.alloc hb7.size (.cells #[.int .u16 e0, .int .u16 0, .bool false, .int .i64 0, .bool false, .bool false, .bool false, .bool false, .int .i64 0, .string e1, .int .u16 e2, .slice none 0 0, .slice none 0 0, .slice none 0 0, .int .i64 0, .string e3, .int .i64 e4, .bool false, .int .i64 e5] 41)) HZ6.out)))
        have HZ7 := Lib.hid (show w.heap.size ≤ w7.heap.size from Nat.le_trans HZ6.out hb7.size)
        clear hb7
        go_wp2_with (first | (at_builtin; (refine wpList_append_obm rfl _ _ 24 24 rfl 41 i0 _ 184 Tryd.underlying24 hi hz0 hz1 hz2 rfl ho.out rfl rfl hS.out rfl (by have := HK1.out; unfold maxLen; omega) (by have := HK1.out; omega) ?_)))
        intro v' w' p1 p2 p3 p4
        have P1 := Lib.hid p1
        have HP2 := Lib.hid (H7.out.1.block p1.bel (by simpa using p2) (fun q hq => p3 q (by have := (H7.out.1.lt q hq).2; simpa using this) (fun hh => HD.out q hh.symm hq)))
        have HP3 := Lib.hid (show ∀ q, v'.ownBlock = some q → w.heap.size ≤ q by
          intro q hq
          rcases p4 with hh | hh
          · rw [hh] at hq; exact HW1.out q hq
          · rw [hh] at hq; injection hq with hq; have := HZ7.out; omega)
        have HP4 := Lib.hid (show ∀ q, v'.ownBlock = some q → (Value.slice V2 L2.length C2).ownBlock ≠ some q by
          intro q hq
          rcases p4 with hh | hh
          · rw [hh] at hq; exact HD.out q hq
          · rw [hh] at hq; injection hq with hq
            intro h2
            have := (H7.out.1.lt q h2).2
            simp at this
            omega)
        have HP5 := Lib.hid (HST.out _ _ _ H7.out.2 ⟨by have := HZ7.out; omega, fun q hq => p3 q (by have := HZ7.out; omega) (fun hh => by have := HW1.out q hh.symm; omega)⟩)
        have HP6 := Lib.hid (show w.heap.size ≤ w'.heap.size by have := HZ7.out; omega)
        clear p1 p2 p3 p4 ho hS H7 H6
        have hnv := HN.out
        go_wp2_with fail
        go_round
        case rel =>
          refine ⟨k + 1, by omega, by go_num, ?_, ?_, HP3, HW2, HP4, HP5, HP6⟩
          · rw [HNX1.out, hpk, if_pos rfl, List.length_append, flatE_snoc]; exact P1
          · rw [HNX2.out]; simp only [hpk]; simp only [Bool.not_true, Bool.false_eq_true, if_false, List.append_nil]; exact HP2
        case measure => simp [intOf]; omega
      | false =>
        go_upto_region 8 with fail
        go_wp2_with (first | refine wpList_load_mid rfl 41 _ rfl g2 0 rfl _ _ HR6.out Tryd.underlying41 rfl (by kernel_rfl) ?_)
        refine (HOW.out _).mono ?_
        rintro r w7 ⟨rfl, hb7⟩
        have ho := Lib.hid ((H6.out.2.1.keep hb7 (Nat.le_refl _)).alloc (.cells #[.int .u16 e0, .int .u16 0, .bool false, .int .i64 0, .bool false, .bool false, .bool false, .bool false, .int .i64 0, .string e1, .int .u16 e2, .slice none 0 0, .slice none 0 0, .slice none 0 0, .int .i64 0, .string e3, .int .i64 e4, .bool false, .int .i64 e5] 41))
        have hS : Hid (Src Tryd.prog 19 25 (.slice (some ⟨w7.heap.size, 0, none⟩) 1 1) 1 [.int .u16 e0, .int .u16 0, .bool false, .int .i64 0, .bool false, .bool false, .bool false, .bool false, .int .i64 0, .string e1, .int .u16 e2, .slice none 0 0, .slice none 0 0, .slice none 0 0, .int .i64 0, .string e3, .int .i64 e4, .bool false, .int .i64 e5] (w7.alloc (.cells #[.int .u16 e0, .int .u16 0, .bool false, .int .i64 0, .bool false, .bool false, .bool false, .bool false, .int .i64 0, .string e1, .int .u16 e2, .slice none 0 0, .slice none 0 0, .slice none 0 0, .int .i64 0, .string e3, .int .i64 e4, .bool false, .int .i64 e5] 41))) := by
          refine Lib.hid (Src.ofSlice _ Tryd.underlying25 _ 1 1 _ rfl ?_ ?_)
          · exact news_at w7 #[.int .u16 e0, .int .u16 0, .bool false, .int .i64 0, .bool false, .bool false, .bool false, .bool false, .int .i64 0, .string e1, .int .u16 e2, .slice none 0 0, .slice none 0 0, .slice none 0 0, .int .i64 0, .string e3, .int .i64 e4, .bool false, .int .i64 e5] _
          · exact entCells_one (e0, e1, e2, e3, e4, e5)
        have H7 := Lib.hid (And.intro ((H6.out.1.keep hb7 (Nat.le_refl _)).alloc (.cells #[.int .u16 e0, .int .u16 0, .bool false, .int .i64 0, .bool false, .bool false, .bool false, .bool false, .int .i64 0, .string e1, .int .u16 e2, .slice none 0 0, .slice none 0 0, .slice none 0 0, .int .i64 0, .string e3, .int .i64 e4, .bool false, .int .i64 e5] 41)) (HST.out _ _ _ H6.out.2.2 (Low.of_below (hb7.alloc hb7.size (.cells #[.int .u16 e0, .int .u16 0, .bool false, .int .i64 0, .bool false, .bool false, .bool false, .bool false, .int .i64 0, .string e1, .int .u16 e2, .slice none 0 0, .slice none 0 0, .slice none 0 0, .int .i64 0, .string e3, .int .i64 e4, .bool false, .int .i64 e5] 41)) HZ6.out)))
        have HZ7 := Lib.hid (show w.heap.size ≤ w7.heap.size from Nat.le_trans HZ6.out hb7.size)
        clear hb7
        go_wp2_with (first | (at_builtin; (refine wpList_append_obm rfl _ _ 25 25 rfl 41 i0 _ 184 Tryd.underlying25 hi hz0 hz1 hz2 rfl ho.out rfl rfl hS.out rfl (by have := HK2.out; unfold maxLen; omega) (by have := HK2.out; omega) ?_)))
        intro v' w' p1 p2 p3 p4
        have P1 := Lib.hid p1
        have HP2 := Lib.hid (H7.out.1.block p1.bel (by simpa using p2) (fun q hq => p3 q (by have := (H7.out.1.lt q hq).2; simpa using this) (fun hh => HD.out q hq hh.symm)))
        have HP3 := Lib.hid (show ∀ q, v'.ownBlock = some q → w.heap.size ≤ q by
          intro q hq
          rcases p4 with hh | hh
          · rw [hh] at hq; exact HW2.out q hq
          · rw [hh] at hq; injection hq with hq; have := HZ7.out; omega)
        have HP4 := Lib.hid (show ∀ q, (Value.slice V1 L1.length C1).ownBlock = some q → v'.ownBlock ≠ some q by
          intro q h2
          rcases p4 with hh | hh
          · rw [hh]; exact HD.out q h2
          · rw [hh]
            intro hq
            injection hq with hq
            have := (H7.out.1.lt q h2).2
            simp at this
            omega)
        have HP5 := Lib.hid (HST.out _ _ _ H7.out.2 ⟨by have := HZ7.out; omega, fun q hq => p3 q (by have := HZ7.out; omega) (fun hh => by have := HW2.out q hh.symm; omega)⟩)
        have HP6 := Lib.hid (show w.heap.size ≤ w'.heap.size by have := HZ7.out; omega)
        clear p1 p2 p3 p4 ho hS H7 H6
        have hnv := HN.out
        go_wp2_with fail
        go_round
        case rel =>
          refine ⟨k + 1, by omega, by go_num, ?_, ?_, HW1, HP3, HP4, HP5, HP6⟩
          · rw [HNX1.out, hpk]; simp only [Bool.false_eq_true, if_false, List.append_nil]; exact HP2
          · rw [HNX2.out]; simp only [hpk]; simp only [Bool.not_false, if_true, List.length_append, flatE_snoc]; exact P1
        case measure => simp [intOf]; omega
    · have hlt' : ¬ (k : Int) < n := by omega
      obtain rfl : k = n := by omega
      have hkn : es.take k = es := List.take_of_length_le (by rw [HL.out]; omega)
      rw [hkn] at HO1 HO2
      clear hkn hk
      go_wp2_with fail
      refine bodyPost_ret (v := .tuple #[u6, u7]) (by simp [results, Tryd.results14, go_sem]) rfl ⟨u6, u7, rfl, HO1.out, HO2.out, HW1.out, HW2.out, HD.out, HI.out⟩
set_option maxHeartbeats 6400000 in
theorem split_match (g0 g1 g3 : Nat) (A : Option Addr) (n c : Nat) (es : List EntT) (p : Nat → Bool) (B : Nat) (Inv : Nat → World → Prop) (w : World)
    (h : Ents w A es) (hl : es.length = n) (hn : n ≤ 1048576) (hA : ∀ ad, A = some ad → ad.block < B) (hB : B ≤ w.heap.size) (h0 : Inv 0 w)
    (hst : ∀ k w1 w2, Inv k w1 → Low w.heap.size w1 w2 → Inv k w2)
    (hF : ∀ k e w1, es[k]? = some e → Inv k w1 → Below B w w1 → w.heap.size ≤ w1.heap.size → Calls Tryd.prog 18 #[entA e, .pointer (some ⟨g0, 0, none⟩), .pointer (some ⟨g1, 0, none⟩), .pointer (some ⟨g3, 0, none⟩)] w1 fun r w2 => r = .returned (.bool (p k)) ∧ Inv (k + 1) w2 ∧ Below B w1 w2 ∧ Mid w.heap.size w1 w2) :
    Calls Tryd.prog 14 #[.slice A n c, .func (.func 18) #[] #[.pointer (some ⟨g0, 0, none⟩), .pointer (some ⟨g1, 0, none⟩), .pointer (some ⟨g3, 0, none⟩)]] w fun r w' => ∃ v1 v2, r = .returned (.tuple #[v1, v2]) ∧ OBM 19 B w v1 (pickE p es).length (flatE (pickE p es)) w' ∧
      OBM 19 B w v2 (pickE (fun i => !p i) es).length (flatE (pickE (fun i => !p i) es)) w' ∧ (∀ q, v1.ownBlock = some q → w.heap.size ≤ q) ∧ (∀ q, v2.ownBlock = some q → w.heap.size ≤ q) ∧ (∀ q, v1.ownBlock = some q → v2.ownBlock ≠ some q) ∧ Inv n w' := by
  have H := Lib.hid h
  have HL := Lib.hid hl
  have HN := Lib.hid hn
  have HA := Lib.hid hA
  have HB := Lib.hid hB
  have HST := Lib.hid hst
  have HF := Lib.hid hF
  have H0 := Lib.hid h0
  obtain ⟨i0, hi, hz0, hz1, hz2⟩ := info_parts4 ent_zero
  clear h hl hn hA hB hst hF h0
  go_enter Tryd.func14, Tryd.ntmps14
  go_wp2_with fail
  go_loopw [6, 7, 12] (fun v1 v2 i wr => ∃ (k : Nat), k ≤ n ∧ i = .int .i64 k ∧ Hid (OBM 19 B w v1 (pickE p (es.take k)).length (flatE (pickE p (es.take k))) wr) ∧ Hid (OBM 19 B w v2 (pickE (fun i => !p i) (es.take k)).length (flatE (pickE (fun i => !p i) (es.take k))) wr) ∧
    Hid (∀ q, v1.ownBlock = some q → w.heap.size ≤ q) ∧ Hid (∀ q, v2.ownBlock = some q → w.heap.size ≤ q) ∧ Hid (∀ q, v1.ownBlock = some q → v2.ownBlock ≠ some q) ∧ Hid (Inv k wr) ∧ Hid (w.heap.size ≤ wr.heap.size)) (fun _ _ i _ => n - (intOf i).toNat)
  case atStart => exact ⟨0, Nat.zero_le _, rfl, Lib.hid (by simpa [pickE, flatE] using OBM.nil (sz := 19) (Below.refl B w) HB.out), Lib.hid (by simpa [pickE, flatE] using OBM.nil (sz := 19) (Below.refl B w) HB.out), Lib.hid (fun q hq => by cases hq), Lib.hid (fun q hq => by cases hq), Lib.hid (fun q hq => by cases hq), H0, Lib.hid (Nat.le_refl _)⟩
  case round =>
    obtain ⟨k, hk, rfl, HO1, HO2, HW1, HW2, HD, HI, HZ⟩ := hrel
    by_cases hlt : k < n
    · have hlt' : (k : Int) < n := by omega
      obtain ⟨e, he⟩ : ∃ r, es[k]? = some r := ⟨_, List.getElem?_eq_getElem (by rw [HL.out]; omega)⟩
      obtain ⟨bb, off, rfl, hbb, hc⟩ := (H.out.belowB HO1.out.bel HZ.out HA.out) k _ he
      have hnx1 := pickE_next p he
      have hnx2 := pickE_next (fun i => !p i) he
      have hl1 := pickE_le p (es.take k)
      have hl2 := pickE_le (fun i => !p i) (es.take k)
      rw [List.length_take] at hl1 hl2
      have CF := HF.out k e
      have HCF := Lib.hid (fun w1 h1 h2 h3 => CF w1 he h1 h2 h3)
      obtain ⟨e0, e1, e2, e3, e4, e5⟩ := e
      have HOW : Hid (∀ w, Calls Tryd.prog 16 #[.agg #[.int .u16 e0, .int .u16 0, .bool false, .int .i64 0, .bool false, .bool false, .bool false, .bool false, .int .i64 0, .string e1, .int .u16 e2, .slice none 0 0, .slice none 0 0, .slice none 0 0, .int .i64 0, .string e3, .int .i64 e4, .bool false, .int .i64 e5]] w fun r w' => r = .returned (.agg #[.int .u16 e0, .int .u16 0, .bool false, .int .i64 0, .bool false, .bool false, .bool false, .bool false, .int .i64 0, .string e1, .int .u16 e2, .slice none 0 0, .slice none 0 0, .slice none 0 0, .int .i64 0, .string e3, .int .i64 e4, .bool false, .int .i64 e5]) ∧ Below w.heap.size w w') := Lib.hid (fun w => own_any (e0, e1, e2, e3, e4, e5) w)
      have hrg : wr.rangeAt bb (off + k * 19) [.int .u16 e0, .int .u16 0, .bool false, .int .i64 0, .bool false, .bool false, .bool false, .bool false, .int .i64 0, .string e1, .int .u16 e2, .slice none 0 0, .slice none 0 0, .slice none 0 0, .int .i64 0, .string e3, .int .i64 e4, .bool false, .int .i64 e5] := fun j v hv => hc j v hv
      have HRG := Lib.hid hrg
      have HNX1 := Lib.hid hnx1
      have HNX2 := Lib.hid hnx2
      have HK1 := Lib.hid (show (pickE p (es.take k)).length < 1048576 by have := HN.out; omega)
      have HK2 := Lib.hid (show (pickE (fun i => !p i) (es.take k)).length < 1048576 by have := HN.out; omega)
      have HE := Lib.hid he
      clear hnx1 hnx2 hl1 hl2 CF hc hrg he
      generalize hp1 : pickE p (es.take k) = L1 at *
      generalize hp2 : pickE (fun i => !p i) (es.take k) = L2 at *
      clear hp1 hp2
      obtain ⟨V1, C1, rfl, -, -, -⟩ := HO1.out.slice
      obtain ⟨V2, C2, rfl, -, -, -⟩ := HO2.out.slice
      have hbZ : Below wr.heap.size wr ((wr.alloc (.cells #[.int .u16 0, .int .u16 0, .bool false, .int .i64 0, .bool false, .bool false, .bool false, .bool false, .int .i64 0, .string ⟨#[]⟩, .int .u16 0, .slice none 0 0, .slice none 0 0, .slice none 0 0, .int .i64 0, .string ⟨#[]⟩, .int .i64 0, .bool false, .int .i64 0] 41)).setCells wr.heap.size 0 [.int .u16 e0, .int .u16 0, .bool false, .int .i64 0, .bool false, .bool false, .bool false, .bool false, .int .i64 0, .string e1, .int .u16 e2, .slice none 0 0, .slice none 0 0, .slice none 0 0, .int .i64 0, .string e3, .int .i64 e4, .bool false, .int .i64 e5]) := below_setCells' (Nat.le_refl _) _ 0 ((Below.refl _ _).alloc (Nat.le_refl _) _)
      have hZ := Cs.new wr #[.int .u16 0, .int .u16 0, .bool false, .int .i64 0, .bool false, .bool false, .bool false, .bool false, .int .i64 0, .string ⟨#[]⟩, .int .u16 0, .slice none 0 0, .slice none 0 0, .slice none 0 0, .int .i64 0, .string ⟨#[]⟩, .int .i64 0, .bool false, .int .i64 0] 41 [.int .u16 0, .int .u16 0, .bool false, .int .i64 0, .bool false, .bool false, .bool false, .bool false, .int .i64 0, .string ⟨#[]⟩, .int .u16 0, .slice none 0 0, .slice none 0 0, .slice none 0 0, .int .i64 0, .string ⟨#[]⟩, .int .i64 0, .bool false, .int .i64 0]
      have HTH := Lib.hid (hZ.there 19 rfl)
      have hM5 := hZ.mid [.int .u16 e0, .int .u16 0, .bool false, .int .i64 0, .bool false, .bool false, .bool false, .bool false, .int .i64 0, .string e1, .int .u16 e2, .slice none 0 0, .slice none 0 0, .slice none 0 0, .int .i64 0, .string e3, .int .i64 e4, .bool false, .int .i64 e5] rfl
      have H5 := Lib.hid (And.intro hM5 hbZ)
      clear hbZ hZ hM5
      go_upto_region 6 with (first
        | refine wpList_load_mid rfl 41 _ rfl bb (off + k * 19) rfl _ _ HRG.out Tryd.underlying41 rfl (by kernel_rfl) ?_
        | refine wpList_store_mid rfl 41 _ _ rfl wr.heap.size 0 #[.int .u16 e0, .int .u16 0, .bool false, .int .i64 0, .bool false, .bool false, .bool false, .bool false, .int .i64 0, .string e1, .int .u16 e2, .slice none 0 0, .slice none 0 0, .slice none 0 0, .int .i64 0, .string e3, .int .i64 e4, .bool false, .int .i64 e5] rfl rfl HTH.out (by kernel_rfl) (by simp [Value.oneCell']) ?_)
      obtain ⟨hM5, hb5⟩ := H5.out
      obtain ⟨g2, hg2⟩ : ∃ g, g = wr.heap.size := ⟨_, rfl⟩
      generalize (wr.alloc (.cells #[.int .u16 0, .int .u16 0, .bool false, .int .i64 0, .bool false, .bool false, .bool false, .bool false, .int .i64 0, .string ⟨#[]⟩, .int .u16 0, .slice none 0 0, .slice none 0 0, .slice none 0 0, .int .i64 0, .string ⟨#[]⟩, .int .i64 0, .bool false, .int .i64 0] 41)).setCells wr.heap.size 0 [.int .u16 e0, .int .u16 0, .bool false, .int .i64 0, .bool false, .bool false, .bool false, .bool false, .int .i64 0, .string e1, .int .u16 e2, .slice none 0 0, .slice none 0 0, .slice none 0 0, .int .i64 0, .string e3, .int .i64 e4, .bool false, .int .i64 e5] = w5 at *
      rw [← hg2] at hM5 ⊢
      have HG2 := Lib.hid hg2
      have HR5 := Lib.hid hM5.range
      have HM5 := Lib.hid hM5
      have hO1 := HO1.out.keep hb5 (Nat.le_refl _)
      have hO2 := HO2.out.keep hb5 (Nat.le_refl _)
      have hI5 := HST.out _ _ _ HI.out (Low.of_below hb5 HZ.out)
      have H5 := Lib.hid (And.intro hO1 (And.intro hO2 hI5))
      have HZ5 := Lib.hid (Nat.le_trans HZ.out hb5.size)
      clear hO1 hO2 hI5 hg2 hM5 hb5 HTH HRG HO1 HO2 HI
      go_wp2_with (first | refine wpList_load_mid rfl 41 _ rfl g2 0 rfl _ _ HR5.out Tryd.underlying41 rfl (by kernel_rfl) ?_)
      refine (HCF.out _ H5.out.2.2 H5.out.1.bel HZ5.out).mono ?_
      rintro r w6 ⟨rfl, hI6, hb6, hm6⟩
      have hO1 := H5.out.1.block (H5.out.1.bel.trans hb6) hm6.1 (fun q hq => hm6.2 q (HW1.out q hq) (H5.out.1.lt q hq).2)
      have hO2 := H5.out.2.1.block (H5.out.2.1.bel.trans hb6) hm6.1 (fun q hq => hm6.2 q (HW2.out q hq) (H5.out.2.1.lt q hq).2)
      have hM6 := HM5.out.block (hm6.2 g2 (by rw [HG2.out]; exact HZ.out) HM5.out.lt) hm6.1
      have H6 := Lib.hid (And.intro hO1 (And.intro hO2 hI6))
      have HR6 := Lib.hid hM6.range
      have HZ6 := Lib.hid (Nat.le_trans HZ5.out hm6.1)
      clear hO1 hO2 hM6 hI6 hb6 hm6 H5 HR5 HM5 HCF
      cases hpk : p k with
      | true =>
        go_upto_region 7 with fail
        go_wp2_with (first | refine wpList_load_mid rfl 41 _ rfl g2 0 rfl _ _ HR6.out Tryd.underlying41 rfl (by kernel_rfl) ?_)
        refine (HOW.out _).mono ?_
        rintro r w7 ⟨rfl, hb7⟩
        have ho := Lib.hid ((H6.out.1.keep hb7 (Nat.le_refl _)).alloc (.cells #[.int .u16 e0, .int .u16 0, .bool false, .int .i64 0, .bool false, .bool false, .bool false, .bool false, .int .i64 0, .string e1, .int .u16 e2, .slice none 0 0, .slice none 0 0, .slice none 0 0, .int .i64 0, .string e3, .int .i64 e4, .bool false, .int .i64 e5] 41))
        have hS : Hid (Src Tryd.prog 19 24 (.slice (some ⟨w7.heap.size, 0, none⟩) 1 1) 1 [.int .u16 e0, .int .u16 0, .bool false, .int .i64 0, .bool false, .bool false, .bool false, .bool false, .int .i64 0, .string e1, .int .u16 e2, .slice none 0 0, .slice none 0 0, .slice none 0 0, .int .i64 0, .string e3, .int .i64 e4, .bool false, .int .i64 e5] (w7.alloc (.cells #[.int .u16 e0, .int .u16 0, .bool false, .int .i64 0, .bool false, .bool false, .bool false, .bool false, .int .i64 0, .string e1, .int .u16 e2, .slice none 0 0, .slice none 0 0, .slice none 0 0, .int .i64 0, .string e3, .int .i64 e4, .bool false, .int .i64 e5] 41))) := by
          refine Lib.hid (Src.ofSlice _ Tryd.underlying24 _ 1 1 _ rfl ?_ ?_)
          · exact news_at w7 #[.int .u16 e0, .int .u16 0, .bool false, .int .i64 0, .bool false, .bool false, .bool false, .bool false, .int .i64 0, .string e1, .int .u16 e2, .slice none 0 0, .slice none 0 0, .slice none 0 0, .int .i64 0, .string e3, .int .i64 e4, .bool false, .int .i64 e5] _
          · exact entCells_one (e0, e1, e2, e3, e4, e5)
        have H7 := Lib.hid (And.intro ((H6.out.2.1.keep hb7 (Nat.le_refl _)).alloc (.cells #[.int .u16 e0, .int .u16 0, .bool false, .int .i64 0, .bool false, .bool false, .bool false, .bool false, .int .i64 0, .string e1, .int .u16 e2, .slice none 0 0, .slice none 0 0, .slice none 0 0, .int .i64 0, .string e3, .int .i64 e4, .bool false, .int .i64 e5] 41)) (HST.out _ _ _ H6.out.2.2 (Low.of_below (hb7.alloc hb7.size (.cells #[.int .u16 e0, .int .u16 0, .bool false, .int .i64 0, .bool false, .bool false, .bool false, .bool false, .int .i64 0, .string e1, .int .u16 e2, .slice none 0 0, .slice none 0 0, .slice none 0 0, .int .i64 0, .string e3, .int .i64 e4, .bool false, .int .i64 e5] 41)) HZ6.out)))
        have HZ7 := Lib.hid (show w.heap.size ≤ w7.heap.size from Nat.le_trans HZ6.out hb7.size)
        clear hb7
        go_wp2_with (first | (at_builtin; (refine wpList_append_obm rfl _ _ 24 24 rfl 41 i0 _ 184 Tryd.underlying24 hi hz0 hz1 hz2 rfl ho.out rfl rfl hS.out rfl (by have := HK1.out; unfold maxLen; omega) (by have := HK1.out; omega) ?_)))
        intro v' w' p1 p2 p3 p4
        have P1 := Lib.hid p1
        have HP2 := Lib.hid (H7.out.1.block p1.bel (by simpa using p2) (fun q hq => p3 q (by have := (H7.out.1.lt q hq).2; simpa using this) (fun hh => HD.out q hh.symm hq)))
        have HP3 := Lib.hid (show ∀ q, v'.ownBlock = some q → w.heap.size ≤ q by
          intro q hq
          rcases p4 with hh | hh
          · rw [hh] at hq; exact HW1.out q hq
          · rw [hh] at hq; injection hq with hq; have := HZ7.out; omega)
        have HP4 := Lib.hid (show ∀ q, v'.ownBlock = some q → (Value.slice V2 L2.length C2).ownBlock ≠ some q by
          intro q hq
          rcases p4 with hh | hh
          · rw [hh] at hq; exact HD.out q hq
          · rw [hh] at hq; injection hq with hq
            intro h2
            have := (H7.out.1.lt q h2).2
            simp at this
            omega)
        have HP5 := Lib.hid (HST.out _ _ _ H7.out.2 ⟨by have := HZ7.out; omega, fun q hq => p3 q (by have := HZ7.out; omega) (fun hh => by have := HW1.out q hh.symm; omega)⟩)
        have HP6 := Lib.hid (show w.heap.size ≤ w'.heap.size by have := HZ7.out; omega)
        clear p1 p2 p3 p4 ho hS H7 H6
        have hnv := HN.out
        go_wp2_with fail
        go_round
        case rel =>
          refine ⟨k + 1, by omega, by go_num, ?_, ?_, HP3, HW2, HP4, HP5, HP6⟩
          · rw [HNX1.out, hpk, if_pos rfl, List.length_append, flatE_snoc]; exact P1
          · rw [HNX2.out]; simp only [hpk]; simp only [Bool.not_true, Bool.false_eq_true, if_false, List.append_nil]; exact HP2
        case measure => simp [intOf]; omega
      | false =>
        go_upto_region 8 with fail
        go_wp2_with (first | refine wpList_load_mid rfl 41 _ rfl g2 0 rfl _ _ HR6.out Tryd.underlying41 rfl (by kernel_rfl) ?_)
        refine (HOW.out _).mono ?_
        rintro r w7 ⟨rfl, hb7⟩
        have ho := Lib.hid ((H6.out.2.1.keep hb7 (Nat.le_refl _)).alloc (.cells #[.int .u16 e0, .int .u16 0, .bool false, .int .i64 0, .bool false, .bool false, .bool false, .bool false, .int .i64 0, .string e1, .int .u16 e2, .slice none 0 0, .slice none 0 0, .slice none 0 0, .int .i64 0, .string e3, .int .i64 e4, .bool false, .int .i64 e5] 41))
        have hS : Hid (Src Tryd.prog 19 25 (.slice (some ⟨w7.heap.size, 0, none⟩) 1 1) 1 [.int .u16 e0, .int .u16 0, .bool false, .int .i64 0, .bool false, .bool false, .bool false, .bool false, .int .i64 0, .string e1, .int .u16 e2, .slice none 0 0, .slice none 0 0, .slice none 0 0, .int .i64 0, .string e3, .int .i64 e4, .bool false, .int .i64 e5] (w7.alloc (.cells #[.int .u16 e0, .int .u16 0, .bool false, .int .i64 0, .bool false, .bool false, .bool false, .bool false, .int .i64 0, .string e1, .int .u16 e2, .slice none 0 0, .slice none 0 0, .slice none 0 0, .int .i64 0, .string e3, .int .i64 e4, .bool false, .int .i64 e5] 41))) := by
          refine Lib.hid (Src.ofSlice _ Tryd.underlying25 _ 1 1 _ rfl ?_ ?_)
          · exact news_at w7 #[.int .u16 e0, .int .u16 0, .bool false, .int .i64 0, .bool false, .bool false, .bool false, .bool false, .int .i64 0, .string e1, .int .u16 e2, .slice none 0 0, .slice none 0 0, .slice none 0 0, .int .i64 0, .string e3, .int .i64 e4, .bool false, .int .i64 e5] _
          · exact entCells_one (e0, e1, e2, e3, e4, e5)
        have H7 := Lib.hid (And.intro ((H6.out.1.keep hb7 (Nat.le_refl _)).alloc (.cells #[.int .u16 e0, .int .u16 0, .bool false, .int .i64 0, .bool false, .bool false, .bool false, .bool false, .int .i64 0, .string e1, .int .u16 e2, .slice none 0 0, .slice none 0 0, .slice none 0 0, .int .i64 0, .string e3, .int .i64 e4, .bool false, .int .i64 e5] 41)) (HST.out _ _ _ H6.out.2.2 (Low.of_below (hb7.alloc hb7.size (.cells #[.int .u16 e0, .int .u16 0, .bool false, .int .i64 0, .bool false, .bool false, .bool false, .bool false, .int .i64 0, .string e1, .int .u16 e2, .slice none 0 0, .slice none 0 0, .slice none 0 0, .int .i64 0, .string e3, .int .i64 e4, .bool false, .int .i64 e5] 41)) HZ6.out)))
        have HZ7 := Lib.hid (show w.heap.size ≤ w7.heap.size from Nat.le_trans HZ6.out hb7.size)
        clear hb7
        go_wp2_with (first | (at_builtin; (refine wpList_append_obm rfl _ _ 25 25 rfl 41 i0 _ 184 Tryd.underlying25 hi hz0 hz1 hz2 rfl ho.out rfl rfl hS.out rfl (by have := HK2.out; unfold maxLen; omega) (by have := HK2.out; omega) ?_)))
        intro v' w' p1 p2 p3 p4
        have P1 := Lib.hid p1
        have HP2 := Lib.hid (H7.out.1.block p1.bel (by simpa using p2) (fun q hq => p3 q (by have := (H7.out.1.lt q hq).2; simpa using this) (fun hh => HD.out q hq hh.symm)))
        have HP3 := Lib.hid (show ∀ q, v'.ownBlock = some q → w.heap.size ≤ q by
          intro q hq
          rcases p4 with hh | hh
          · rw [hh] at hq; exact HW2.out q hq
          · rw [hh] at hq; injection hq with hq; have := HZ7.out; omega)
        have HP4 := Lib.hid (show ∀ q, (Value.slice V1 L1.length C1).ownBlock = some q → v'.ownBlock ≠ some q by
          intro q h2
          rcases p4 with hh | hh
          · rw [hh]; exact HD.out q h2
          · rw [hh]
            intro hq
            injection hq with hq
            have := (H7.out.1.lt q h2).2
            simp at this
            omega)
        have HP5 := Lib.hid (HST.out _ _ _ H7.out.2 ⟨by have := HZ7.out; omega, fun q hq => p3 q (by have := HZ7.out; omega) (fun hh => by have := HW2.out q hh.symm; omega)⟩)
        have HP6 := Lib.hid (show w.heap.size ≤ w'.heap.size by have := HZ7.out; omega)
        clear p1 p2 p3 p4 ho hS H7 H6
        have hnv := HN.out
        go_wp2_with fail
        go_round
        case rel =>
          refine ⟨k + 1, by omega, by go_num, ?_, ?_, HW1, HP3, HP4, HP5, HP6⟩
          · rw [HNX1.out, hpk]; simp only [Bool.false_eq_true, if_false, List.append_nil]; exact HP2
          · rw [HNX2.out]; simp only [hpk]; simp only [Bool.not_false, if_true, List.length_append, flatE_snoc]; exact P1
        case measure => simp [intOf]; omega
    · have hlt' : ¬ (k : Int) < n := by omega
      obtain rfl : k = n := by omega
      have hkn : es.take k = es := List.take_of_length_le (by rw [HL.out]; omega)
      rw [hkn] at HO1 HO2
      clear hkn hk
      go_wp2_with fail
      refine bodyPost_ret (v := .tuple #[u6, u7]) (by simp [results, Tryd.results14, go_sem]) rfl ⟨u6, u7, rfl, HO1.out, HO2.out, HW1.out, HW2.out, HD.out, HI.out⟩
end Go.Proofs.YtpopnlbpeboiiaaDoor
