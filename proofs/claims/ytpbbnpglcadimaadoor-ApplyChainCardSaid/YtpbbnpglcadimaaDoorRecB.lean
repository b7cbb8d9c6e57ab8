/- The contracts of the statements' records by numbers: all of them; whether two rows of records are the same. -/
import Derived.Test.YtpbbnpglcadimaaDoorRecA
namespace Go.Proofs.YtpbbnpglcadimaaDoor
open Go.RowKit
set_option linter.unusedVariables false
set_option linter.unusedSimpArgs false
set_option maxRecDepth 20000
/-- The records' cells, one behind the other. -/
def flatR (rs : List RecT) : List Value := rs.flatMap recCells
theorem flatR_len (rs : List RecT) : (flatR rs).length = rs.length * 4 := by
  unfold flatR
  induction rs with
  | nil => rfl
  | cons r rs ih => rw [List.flatMap_cons, List.length_append, ih, List.length_cons, show (recCells r).length = 4 from rfl]; omega
theorem flatR_snoc (rs : List RecT) (r : RecT) : flatR (rs ++ [r]) = flatR rs ++ recCells r := by unfold flatR; simp
theorem flatR_one : ∀ (rs : List RecT), ∀ u ∈ flatR rs, u.oneCell' = true := by
  intro rs u hu
  obtain ⟨r, -, hr⟩ := List.mem_flatMap.1 hu
  unfold recCells at hr
  simp at hr
  rcases hr with rfl | rfl | rfl | rfl <;> rfl
theorem flatR_get : ∀ (rs : List RecT) (i : Nat) (r : RecT), rs[i]? = some r → (flatR rs)[i * 4]? = some (.string r.1) ∧ (flatR rs)[i * 4 + 1]? = some (.int .u16 r.2.1) ∧ (flatR rs)[i * 4 + 2]? = some (.int .u32 r.2.2.1) ∧ (flatR rs)[i * 4 + 3]? = some (.string r.2.2.2)
  | [], i, r, h => by simp at h
  | q :: rs, 0, r, h => by simp at h; subst h; exact ⟨rfl, rfl, rfl, rfl⟩
  | q :: rs, i + 1, r, h => by
    have := flatR_get rs i r (by simpa using h)
    have e : flatR (q :: rs) = recCells q ++ flatR rs := rfl
    have l : (recCells q).length = 4 := rfl
    rw [e]
    refine ⟨?_, ?_, ?_, ?_⟩ <;> rw [List.getElem?_append_right (by rw [l]; omega), l]
    · rw [show (i + 1) * 4 - 4 = i * 4 by omega]; exact this.1
    · rw [show (i + 1) * 4 + 1 - 4 = i * 4 + 1 by omega]; exact this.2.1
    · rw [show (i + 1) * 4 + 2 - 4 = i * 4 + 2 by omega]; exact this.2.2.1
    · rw [show (i + 1) * 4 + 3 - 4 = i * 4 + 3 by omega]; exact this.2.2.2
/-- Cells that lie as records are records. -/
theorem Sl.recs {w : World} {C n : Nat} {A : Option Addr} {rs : List RecT} (h : Sl w C 4 A n (flatR rs)) (hC : C ≤ w.heap.size) (hn : rs.length = n) : Recs w A rs := by
  intro i r hr
  have hi := (List.getElem?_eq_some_iff.1 hr).1
  obtain ⟨b, off, rfl, hb, hc⟩ := h.2 (by omega)
  obtain ⟨g0, g1, g2, g3⟩ := flatR_get rs i r hr
  exact ⟨b, off, rfl, by omega, hc _ _ g0, by have := hc _ _ g1; rwa [← Nat.add_assoc] at this, by have := hc _ _ g2; rwa [← Nat.add_assoc] at this, by have := hc _ _ g3; rwa [← Nat.add_assoc] at this⟩
theorem OBM.recs {B n c : Nat} {W w : World} {A : Option Addr} {rs : List RecT} (h : OBM 4 B W (.slice A n c) n (flatR rs) w) (hn : rs.length = n) : Recs w A rs := h.sl.recs (Nat.le_refl _) hn
/-- Records by numbers, five cells each. -/
structure ActsAt (w : World) (A : Option Addr) (n : Nat) (ds : List ActT) : Prop where
  len : ds.length = n
  ok : ∀ a ∈ ds, ActOk w a
  cells : ∀ i a, ds[i]? = some a → ∃ b off, A = some ⟨b, off, none⟩ ∧ b < w.heap.size ∧ w.cell? ⟨b, off + i * 5, none⟩ = some (rowV a.1) ∧ w.cell? ⟨b, off + i * 5 + 1, none⟩ = some (.int .u8 a.2.1) ∧ w.cell? ⟨b, off + i * 5 + 2, none⟩ = some (.int .u32 a.2.2.1) ∧
    w.cell? ⟨b, off + i * 5 + 3, none⟩ = some (rowV a.2.2.2.1) ∧ w.cell? ⟨b, off + i * 5 + 4, none⟩ = some (.string a.2.2.2.2)
theorem ActsAt.below {w w' : World} {A : Option Addr} {n : Nat} {ds : List ActT} (h : ActsAt w A n ds) (hb : Below w.heap.size w w') : ActsAt w' A n ds := by
  refine ⟨h.len, fun a ha => (h.ok a ha).below hb, fun i a hi => ?_⟩
  obtain ⟨b, off, rfl, hlt, g0, g1, g2, g3, g4⟩ := h.cells i a hi
  exact ⟨b, off, rfl, Nat.lt_of_lt_of_le hlt hb.size, (hb.cell (p := ⟨b, _, none⟩) hlt).trans g0, (hb.cell (p := ⟨b, _, none⟩) hlt).trans g1, (hb.cell (p := ⟨b, _, none⟩) hlt).trans g2, (hb.cell (p := ⟨b, _, none⟩) hlt).trans g3, (hb.cell (p := ⟨b, _, none⟩) hlt).trans g4⟩
theorem u8_wf {z : Int} (h : (Lit.int .u8 z).wf = true) : 0 ≤ z ∧ z < 256 := by
  have : IntKind.u8.min ≤ z ∧ z ≤ IntKind.u8.max := by simpa [Lit.wf] using h
  have a : IntKind.u8.min = 0 := rfl
  have b : IntKind.u8.max = 255 := rfl
  omega
theorem u32_wf {z : Int} (h : (Lit.int .u32 z).wf = true) : 0 ≤ z ∧ z < 4294967296 := by
  have : IntKind.u32.min ≤ z ∧ z ≤ IntKind.u32.max := by simpa [Lit.wf] using h
  have a : IntKind.u32.min = 0 := rfl
  have b : IntKind.u32.max = 4294967295 := rfl
  omega
theorem Acts5.at_ {w : World} {A : Option Addr} {n c : Nat} {ds : List ActT} (h : Acts5 w A n c ds) : ActsAt w A n ds := by
  refine ⟨h.len, fun a ha => ?_, fun i a hi => ?_⟩
  · obtain ⟨h1, h2, h3, h4, h5⟩ := h.ok a ha
    exact ⟨h1.1.sl, Nat.le_trans h1.1.le h1.1.max, u8_wf h2, u32_wf h3, h4.1.sl, Nat.le_trans h4.1.le h4.1.max, h5⟩
  · have hlt := (List.getElem?_eq_some_iff.1 hi).1
    obtain ⟨b, off, he, hb, hc⟩ := h.cells (by have := h.len; omega)
    exact ⟨b, off, he, hb, hc i a hi⟩
theorem Acts5.most {w : World} {A : Option Addr} {n c : Nat} {ds : List ActT} (h : Acts5 w A n c ds) : n ≤ maxLen := Nat.le_trans h.le h.max
/-- The records of numbers, up to so many. -/
def recsOf (ds : List ActT) (most : Nat) : List RecT := (ds.take most).map recOf
theorem recsOf_len (ds : List ActT) (most : Nat) : (recsOf ds most).length = min most ds.length := by unfold recsOf; simp
theorem recsOf_next {ds : List ActT} {most k : Nat} {a : ActT} (hk : k < most) (ha : ds[k]? = some a) : recsOf (ds.take (k + 1)) most = recsOf (ds.take k) most ++ [recOf a] := by
  unfold recsOf
  rw [List.take_take, List.take_take, Nat.min_eq_right (by omega), Nat.min_eq_right (by omega), List.take_add_one, ha]
  simp
theorem recsOf_more {ds : List ActT} {most k : Nat} (hk : ¬ k < most) : recsOf (ds.take (k + 1)) most = recsOf (ds.take k) most := by
  unfold recsOf
  rw [List.take_take, List.take_take, Nat.min_eq_left (by omega), Nat.min_eq_left (by omega)]
end Go.Proofs.YtpbbnpglcadimaaDoor
