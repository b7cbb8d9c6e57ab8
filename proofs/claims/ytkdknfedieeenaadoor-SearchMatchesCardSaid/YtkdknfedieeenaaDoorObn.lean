/- Of slices that the call owns, whose elements take several cells: places written, blocks just laid, room to read. It speaks of no program. -/
import Derived.Test.YtkdknfedieeenaaDoorObm
namespace Go.Proofs.YtkdknfedieeenaaDoor
open Go.RowKit
set_option linter.unusedVariables false
section
variable {sz B : Nat} {W w w' : World} {v v' : Value} {n n' : Nat} {l l' : List Value}
theorem OBM.sl {A : Option Addr} {c : Nat} (h : OBM sz B W (.slice A n c) n l w) : Sl w w.heap.size sz A n l := by
  refine ⟨h.len, fun hn => ?_⟩
  rcases h.own with ⟨_, h0⟩ | ⟨g, cap, hv, _, hg, _, _, _, h6⟩
  · omega
  · have hA : A = some ⟨g, 0, none⟩ := by injection hv
    exact ⟨g, 0, hA, hg, fun j u hu => by rw [Nat.zero_add]; exact h6 j u hu⟩
theorem OBM.slice3 (h : OBM sz B W v n l w) : ∃ A c, v = .slice A n c ∧ n ≤ c ∧ c ≤ maxLen ∧ ((A = none ∧ n = 0 ∧ c = 0) ∨ ∃ g, A = some ⟨g, 0, none⟩ ∧ B ≤ g ∧ g < w.heap.size) := by
  rcases h.own with ⟨rfl, rfl⟩ | ⟨g, cap, rfl, hb, hg, h1, h2, _⟩
  · exact ⟨none, 0, rfl, Nat.le_refl _, Nat.zero_le _, .inl ⟨rfl, rfl, rfl⟩⟩
  · exact ⟨_, cap, rfl, h1, h2, .inr ⟨g, rfl, hb, hg⟩⟩
/-- A cell is written. -/
theorem OBM.set {g c : Nat} (h : OBM sz B W (.slice (some ⟨g, 0, none⟩) n c) n l w) (j : Nat) (hj : j < n * sz) (u : Value) : OBM sz B W (.slice (some ⟨g, 0, none⟩) n c) n (l.set j u) (w.setCell ⟨g, j, none⟩ u) := by
  rcases h.own with ⟨hv, _⟩ | ⟨g', cap, hv, h1, h2, h3, h4, h5, h6⟩
  · cases hv
  · injection hv with hv hv1 hv2; injection hv with hv; injection hv with hv; subst hv hv2
    have hjl : j < l.length := by rw [h.len]; exact hj
    refine ⟨h.bel.setCell h1 u, by simpa using h.base, by simpa using h.len, .inr ⟨g, c, rfl, h1, by simpa using h2, h3, h4, fun i hi => ?_, fun i x hx => ?_⟩⟩
    · rw [World.frozen?_setCell]
      refine ⟨?_, (h5 i hi).2⟩
      by_cases he : i = j
      · subst he
        rw [World.cell?_setCell_same w _ _ (h6 i l[i] (List.getElem?_eq_getElem hjl))]; rfl
      · rw [World.cell?_setCell_other w _ _ _ (by intro e; injection e with _ e2; exact he e2.symm)]
        exact (h5 i hi).1
    · by_cases he : i = j
      · subst he
        rw [List.getElem?_set_self hjl] at hx
        rw [World.cell?_setCell_same w _ _ (h6 i l[i] (List.getElem?_eq_getElem hjl))]
        exact hx
      · rw [List.getElem?_set_ne (fun e => he e.symm)] at hx
        rw [World.cell?_setCell_other w _ _ _ (by intro e; injection e with _ e2; exact he e2.symm)]
        exact h6 i x hx
/-- Cells in a row are written. -/
theorem OBM.sets {g c : Nat} : ∀ (us b p q : List Value) {w : World}, OBM sz B W (.slice (some ⟨g, 0, none⟩) n c) n (p ++ b ++ q) w → b.length = us.length →
    OBM sz B W (.slice (some ⟨g, 0, none⟩) n c) n (p ++ us ++ q) (w.setCells g p.length us)
  | [], b, p, q, w, h, hb => by
    obtain rfl := List.eq_nil_of_length_eq_zero hb
    exact h
  | u :: us, b, p, q, w, h, hb => by
    match b, hb with
    | x :: b, hb =>
      have hl := h.len
      simp only [List.length_append, List.length_cons] at hl hb
      have h1 := h.set p.length (by omega) u
      rw [show (p ++ x :: b ++ q).set p.length u = (p ++ [u]) ++ b ++ q by simp] at h1
      have h2 := OBM.sets us b (p ++ [u]) q h1 (by omega)
      rw [show (p ++ [u]) ++ us ++ q = p ++ u :: us ++ q by simp, show (p ++ [u]).length = p.length + 1 by simp] at h2
      exact h2
/-- A block that was just laid whole, with nothing spare. -/
theorem OBM.fresh (h : Below B W w) (hB : B ≤ w.heap.size) (cs : Array Value) (t : TypeId) (n : Nat) (l : List Value) (hx : cs.toList = l) (hn : cs.size = n * sz) (hm : n ≤ maxLen) :
    OBM sz B W (.slice (some ⟨w.heap.size, 0, none⟩) n n) n l (w.alloc (.cells cs t)) := by
  refine ⟨h.alloc hB _, by simp; omega, by rw [← hx, ← hn]; simp, .inr ⟨_, n, rfl, hB, by simp, Nat.le_refl _, hm, fun j hj => ?_, fun j u hu => ?_⟩⟩
  · have hg : (w.alloc (.cells cs t)).heap[w.heap.size]? = some (.cells cs t (0, 0)) := heap_alloc_new w _
    refine ⟨?_, frozen_of_row _ _ j _ t hg⟩
    rw [cell_of_row _ _ j _ t (0, 0) hg, Array.getElem?_eq_getElem (by omega)]; rfl
  · have := news_at w cs t j u (by rw [hx]; exact hu)
    rwa [Addr.add_lit, Nat.zero_add] at this
end
end Go.Proofs.YtkdknfedieeenaaDoor
