/- The contracts of the statements' records by numbers: all of them; whether two rows of records are the same. -/
import Derived.Test.YtlmhmkpoaebokaaRecA
namespace Go.Proofs.Ytlmhmkpoaebokaa
open Go.RowKit
set_option linter.unusedVariables false
set_option linter.unusedSimpArgs false
set_option maxRecDepth 20000
/-- The records' cells, one behind the other. -/
def flatR (rs : List RecT) : List Value := rs.flatMap recCells
theorem flatR_len (rs : List RecT) : (flatR rs).length = rs.length * 4 := by
  unfold flatR
  induction rs with
  | nil => rfl
  | cons r rs ih => rw [List.flatMap_cons, List.length_append, ih, List.length_cons, show (recCells r).length = 4 from rfl]; omega
theorem flatR_snoc (rs : List RecT) (r : RecT) : flatR (rs ++ [r]) = flatR rs ++ recCells r := by unfold flatR; simp
theorem flatR_one : ∀ (rs : List RecT), ∀ u ∈ flatR rs, u.oneCell' = true := by
  intro rs u hu
  obtain ⟨r, -, hr⟩ := List.mem_flatMap.1 hu
  unfold recCells at hr
  simp at hr
  rcases hr with rfl | rfl | rfl | rfl <;> rfl
theorem flatR_get : ∀ (rs : List RecT) (i : Nat) (r : RecT), rs[i]? = some r → (flatR rs)[i * 4]? = some (.string r.1) ∧ (flatR rs)[i * 4 + 1]? = some (.int .u16 r.2.1) ∧ (flatR rs)[i * 4 + 2]? = some (.int .u32 r.2.2.1) ∧ (flatR rs)[i * 4 + 3]? = some (.string r.2.2.2)
  | [], i, r, h => by simp at h
  | q :: rs, 0, r, h => by simp at h; subst h; exact ⟨rfl, rfl, rfl, rfl⟩
  | q :: rs, i + 1, r, h => by
    have := flatR_get rs i r (by simpa using h)
    have e : flatR (q :: rs) = recCells q ++ flatR rs := rfl
    have l : (recCells q).length = 4 := rfl
    rw [e]
    refine ⟨?_, ?_, ?_, ?_⟩ <;> rw [List.getElem?_append_right (by rw [l]; omega), l]
    · rw [show (i + 1) * 4 - 4 = i * 4 by omega]; exact this.1
    · rw [show (i + 1) * 4 + 1 - 4 = i * 4 + 1 by omega]; exact this.2.1
    · rw [show (i + 1) * 4 + 2 - 4 = i * 4 + 2 by omega]; exact this.2.2.1
    · rw [show (i + 1) * 4 + 3 - 4 = i * 4 + 3 by omega]; exact this.2.2.2
/-- Cells that lie as records are records. -/
theorem Sl.recs {w : World} {C n : Nat} {A : Option Addr} {rs : List RecT} (h : Sl w C 4 A n (flatR rs)) (hC : C ≤ w.heap.size) (hn : rs.length = n) : Recs w A rs := by
  intro i r hr
  have hi := (List.getElem?_eq_some_iff.1 hr).1
  obtain ⟨b, off, rfl, hb, hc⟩ := h.2 (by omega)
  obtain ⟨g0, g1, g2, g3⟩ := flatR_get rs i r hr
  exact ⟨b, off, rfl, by omega, hc _ _ g0, by have := hc _ _ g1; rwa [← Nat.add_assoc] at this, by have := hc _ _ g2; rwa [← Nat.add_assoc] at this, by have := hc _ _ g3; rwa [← Nat.add_assoc] at this⟩
theorem OBM.recs {B n c : Nat} {W w : World} {A : Option Addr} {rs : List RecT} (h : OBM 4 B W (.slice A n c) n (flatR rs) w) (hn : rs.length = n) : Recs w A rs := h.sl.recs (Nat.le_refl _) hn
/-- Records by numbers, five cells each. -/
structure ActsAt (w : World) (A : Option Addr) (n : Nat) (ds : List ActT) : Prop where
  len : ds.length = n
  ok : ∀ a ∈ ds, ActOk w a
  cells : ∀ i a, ds[i]? = some a → ∃ b off, A = some ⟨b, off, none⟩ ∧ b < w.heap.size ∧ w.cell? ⟨b, off + i * 5, none⟩ = some (rowV a.1) ∧ w.cell? ⟨b, off + i * 5 + 1, none⟩ = some (.int .u8 a.2.1) ∧ w.cell? ⟨b, off + i * 5 + 2, none⟩ = some (.int .u32 a.2.2.1) ∧
    w.cell? ⟨b, off + i * 5 + 3, none⟩ = some (rowV a.2.2.2.1) ∧ w.cell? ⟨b, off + i * 5 + 4, none⟩ = some (.string a.2.2.2.2)
theorem ActsAt.below {w w' : World} {A : Option Addr} {n : Nat} {ds : List ActT} (h : ActsAt w A n ds) (hb : Below w.heap.size w w') : ActsAt w' A n ds := by
  refine ⟨h.len, fun a ha => (h.ok a ha).below hb, fun i a hi => ?_⟩
  obtain ⟨b, off, rfl, hlt, g0, g1, g2, g3, g4⟩ := h.cells i a hi
  exact ⟨b, off, rfl, Nat.lt_of_lt_of_le hlt hb.size, (hb.cell (p := ⟨b, _, none⟩) hlt).trans g0, (hb.cell (p := ⟨b, _, none⟩) hlt).trans g1, (hb.cell (p := ⟨b, _, none⟩) hlt).trans g2, (hb.cell (p := ⟨b, _, none⟩) hlt).trans g3, (hb.cell (p := ⟨b, _, none⟩) hlt).trans g4⟩
theorem u8_wf {z : Int} (h : (Lit.int .u8 z).wf = true) : 0 ≤ z ∧ z < 256 := by
  have : IntKind.u8.min ≤ z ∧ z ≤ IntKind.u8.max := by simpa [Lit.wf] using h
  have a : IntKind.u8.min = 0 := rfl
  have b : IntKind.u8.max = 255 := rfl
  omega
theorem u32_wf {z : Int} (h : (Lit.int .u32 z).wf = true) : 0 ≤ z ∧ z < 4294967296 := by
  have : IntKind.u32.min ≤ z ∧ z ≤ IntKind.u32.max := by simpa [Lit.wf] using h
  have a : IntKind.u32.min = 0 := rfl
  have b : IntKind.u32.max = 4294967295 := rfl
  omega
theorem Acts5.at_ {w : World} {A : Option Addr} {n c : Nat} {ds : List ActT} (h : Acts5 w A n c ds) : ActsAt w A n ds := by
  refine ⟨h.len, fun a ha => ?_, fun i a hi => ?_⟩
  · obtain ⟨h1, h2, h3, h4, h5⟩ := h.ok a ha
    exact ⟨h1.1.sl, Nat.le_trans h1.1.le h1.1.max, u8_wf h2, u32_wf h3, h4.1.sl, Nat.le_trans h4.1.le h4.1.max, h5⟩
  · have hlt := (List.getElem?_eq_some_iff.1 hi).1
    obtain ⟨b, off, he, hb, hc⟩ := h.cells (by have := h.len; omega)
    exact ⟨b, off, he, hb, hc i a hi⟩
theorem Acts5.most {w : World} {A : Option Addr} {n c : Nat} {ds : List ActT} (h : Acts5 w A n c ds) : n ≤ maxLen := Nat.le_trans h.le h.max
/-- The records of numbers, up to so many. -/
def recsOf (ds : List ActT) (most : Nat) : List RecT := (ds.take most).map recOf
theorem recsOf_len (ds : List ActT) (most : Nat) : (recsOf ds most).length = min most ds.length := by unfold recsOf; simp
theorem recsOf_next {ds : List ActT} {most k : Nat} {a : ActT} (hk : k < most) (ha : ds[k]? = some a) : recsOf (ds.take (k + 1)) most = recsOf (ds.take k) most ++ [recOf a] := by
  unfold recsOf
  rw [List.take_take, List.take_take, Nat.min_eq_right (by omega), Nat.min_eq_right (by omega), List.take_add_one, ha]
  simp
theorem recsOf_more {ds : List ActT} {most k : Nat} (hk : ¬ k < most) : recsOf (ds.take (k + 1)) most = recsOf (ds.take k) most := by
  unfold recsOf
  rw [List.take_take, List.take_take, Nat.min_eq_left (by omega), Nat.min_eq_left (by omega)]
set_option maxHeartbeats 1600000 in
theorem records_any (A : Option Addr) (n c most : Nat) (ds : List ActT) (w : World) (h : ActsAt w A n ds) (hn : n ≤ maxLen) (hm : most ≤ 1000) :
    Calls Try.prog 15 #[.slice A n c, .int .i64 (most : Nat)] w fun e w' => ∃ v, e = .returned v ∧ OBM 4 w.heap.size w v (recsOf ds most).length (flatR (recsOf ds most)) w' := by
  unfold maxLen at hn
  have hl := h.len
  obtain ⟨i0, hi, hz0, hz1, hz2⟩ := info_parts4 rec_info
  have H := Lib.hid h
  have HL := Lib.hid hl
  clear h hl
  go_enter Try.func15, Try.ntmps15
  go_wp2_with fail
  go_loopw [5, 10] (fun v i wr => ∃ k : Nat, k ≤ n ∧ i = .int .i64 k ∧ Hid (OBM 4 w.heap.size w v (recsOf (ds.take k) most).length (flatR (recsOf (ds.take k) most)) wr)) (fun _ i _ => n - (intOf i).toNat)
  case atStart => exact ⟨0, Nat.zero_le _, rfl, Lib.hid (by have := OBM.start (sz := 4) w; simpa [recsOf, flatR] using this)⟩
  case round =>
    obtain ⟨k, hk, rfl, HB⟩ := hrel
    by_cases hlt : k < n
    · have hlt' : (k : Int) < n := by omega
      obtain ⟨a, ha⟩ : ∃ r, ds[k]? = some r := ⟨_, List.getElem?_eq_getElem (by rw [HL.out]; omega)⟩
      have hA := H.out.below (HB.out.bel)
      obtain ⟨b, off, rfl, hb, g0, g1, g2, g3, g4⟩ := hA.cells k a ha
      have hok := hA.ok a (List.mem_of_getElem? ha)
      unfold rowV at g0 g3
      have HA := Lib.hid ha
      have HAA := Lib.hid hA
      clear ha hA
      by_cases hm' : k < most
      · have hmi : (k : Int) < most := by omega
        have RC := Lib.hid (fun w h => record_any a w h)
        unfold actA rowV at RC
        have HO := Lib.hid hok
        clear hok
        have hlen := recsOf_len (ds.take k) most
        have hl2 : (recsOf (ds.take k) most).length ≤ 1000 := by omega
        have HL2 := Lib.hid hl2
        clear hlen hl2
        generalize hrs : recsOf (ds.take k) most = rs at *
        have HRS := Lib.hid hrs
        clear hrs
        obtain ⟨r, hr⟩ : ∃ r, recOf a = r := ⟨_, rfl⟩
        rw [hr] at RC
        have HR := Lib.hid hr
        clear hr
        obtain ⟨r0, r1, r2, r3⟩ := r
        unfold recV at RC
        simp only at RC
        go_wp2_with fail
        refine (RC.out _ (HO.out.below ((Below.refl _ _).alloc (Nat.le_refl _) _))).mono ?_
        rintro e w2 ⟨rfl, hb2⟩
        have ho := Lib.hid (((HB.out.alloc _).keep hb2 (Nat.le_refl _)).alloc (.cells #[.string r0, .int .u16 r1, .int .u32 r2, .string r3] 44))
        have hS : Hid (Src Try.prog 4 29 (.slice (some ⟨w2.heap.size, 0, none⟩) 1 1) 1 (recCells (r0, r1, r2, r3)) (w2.alloc (.cells #[.string r0, .int .u16 r1, .int .u32 r2, .string r3] 44))) := by
          refine Lib.hid (Src.ofSlice _ Try.underlying29 _ 1 1 _ rfl ?_ ?_)
          · exact news_at w2 #[.string r0, .int .u16 r1, .int .u32 r2, .string r3] _
          · intro u hu
            unfold recCells at hu
            simp at hu
            rcases hu with rfl | rfl | rfl | rfl <;> rfl
        clear hb2
        go_wp2_with (at_builtin; go_loud (refine wpList_append_obm rfl _ _ 29 29 rfl 44 i0 _ 40 Try.underlying29 hi hz0 hz1 hz2 rfl ho.out rfl rfl hS.out rfl (by have := HL2.out; unfold maxLen; omega) (by have := HL2.out; omega) ?_))
        intro v' w' q1 q2 q3 q4
        clear q2 q3 q4
        have Q1 := Lib.hid q1
        clear q1
        go_wp2_with fail
        go_round
        case rel => exact ⟨k + 1, by omega, by go_num, Lib.hid (by rw [recsOf_next hm' HA.out, HRS.out, HR.out, flatR_snoc, List.length_append]; exact Q1.out)⟩
        case measure => simp [intOf]; omega
      · have hmi : ¬ (k : Int) < most := by omega
        go_wp2_with fail
        go_round
        case rel => exact ⟨k + 1, by omega, by go_num, Lib.hid (by rw [recsOf_more hm']; exact HB.out.alloc _)⟩
        case measure => simp [intOf]; omega
    · have hlt' : ¬ (k : Int) < n := by omega
      go_wp2_with fail
      go_ret
      have := HB.out
      rw [List.take_of_length_le (by rw [HL.out]; omega)] at this
      exact ⟨_, rfl, this⟩
end Go.Proofs.Ytlmhmkpoaebokaa
