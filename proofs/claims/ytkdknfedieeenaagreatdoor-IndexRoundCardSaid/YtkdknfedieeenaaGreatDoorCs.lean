/- The cells of a block that the call laid. It speaks of no program. -/
import Derived.Test.YtkdknfedieeenaaGreatDoorBase
namespace Go.Proofs.YtkdknfedieeenaaGreatDoor
open Go.RowKit
set_option linter.unusedVariables false
/-- The block b has these cells, and all may be written. -/
def Cs (w : World) (b : Nat) (vs : List Value) : Prop := b < w.heap.size ∧ ∀ j (h : j < vs.length), w.cell? ⟨b, j, none⟩ = some vs[j] ∧ w.frozen? ⟨b, j, none⟩ = false
section
variable {w w' : World} {b : Nat} {vs : List Value}
theorem Cs.lt (h : Cs w b vs) : b < w.heap.size := h.1
theorem Cs.cell (h : Cs w b vs) (j : Nat) (hj : j < vs.length := by decide) : w.cell? ⟨b, j, none⟩ = some vs[j] := (h.2 j hj).1
theorem Cs.get (h : Cs w b vs) (j : Nat) (v : Value) (hv : vs[j]? = some v := by rfl) : w.cell? ⟨b, j, none⟩ = some v := by
  obtain ⟨hj, e⟩ := List.getElem?_eq_some_iff.1 hv
  rw [← e]; exact (h.2 j hj).1
theorem Cs.froz (h : Cs w b vs) (j : Nat) (hj : j < vs.length := by decide) : w.frozen? ⟨b, j, none⟩ = false := (h.2 j hj).2
theorem Cs.new (w : World) (cs : Array Value) (t : TypeId) (vs : List Value) (hv : cs.toList = vs := by rfl) : Cs (w.alloc (.cells cs t)) w.heap.size vs := by
  refine ⟨by simp, fun j hj => ⟨?_, World.frozen?_alloc_at _ _ _ _ rfl⟩⟩
  have := news_at w cs t j vs[j] (by rw [hv]; exact List.getElem?_eq_getElem hj)
  rwa [Addr.add_lit, Nat.zero_add] at this
theorem Cs.at_ (h : Cs w b vs) (B : Nat) (hB : b = B) : Cs w B vs := by subst hB; exact h
theorem Cs.sl (h : Cs w b vs) : Sl w w.heap.size 1 (some ⟨b, 0, none⟩) vs.length vs := ⟨by simp, fun _ => ⟨b, 0, rfl, h.1, fun j u hu => by
  obtain ⟨hj, e⟩ := List.getElem?_eq_some_iff.1 hu
  rw [Nat.zero_add, ← e]; exact (h.2 j hj).1⟩⟩
theorem Cs.below (h : Cs w b vs) (hb : Below w.heap.size w w') : Cs w' b vs := ⟨Nat.lt_of_lt_of_le h.1 hb.size, fun j hj =>
  ⟨(hb.cell (p := ⟨b, j, none⟩) h.1).trans (h.2 j hj).1, (hb.frozen (p := ⟨b, j, none⟩) h.1).trans (h.2 j hj).2⟩⟩
theorem Cs.alloc (h : Cs w b vs) (o : Obj) : Cs (w.alloc o) b vs := h.below ((Below.refl _ _).alloc (Nat.le_refl _) _)
theorem Cs.drewN (h : Cs w b vs) (k : Nat) : Cs (w.drewN k) b vs := h
theorem Cs.other (h : Cs w b vs) (g j : Nat) (u : Value) (hg : g ≠ b) : Cs (w.setCell ⟨g, j, none⟩ u) b vs := ⟨by simpa using h.1, fun i hi =>
  ⟨(World.cell?_of_block (w := w) (Below.heap_setCell w ⟨g, j, none⟩ u b (fun e => hg e.symm))).trans (h.2 i hi).1, (World.frozen?_of_block (w := w) (Below.heap_setCell w ⟨g, j, none⟩ u b (fun e => hg e.symm))).trans (h.2 i hi).2⟩⟩
end
theorem Cs.grown {w w' : World} {b : Nat} {vs : List Value} {r : Option Nat} (h : Cs w b vs) (hg : w.grownBy w' r) (hne : r ≠ some b) : Cs w' b vs := by
  have he := hg.block b h.1 (fun e => hne e.symm)
  exact ⟨Nat.lt_of_lt_of_le h.1 hg.size, fun i hi => ⟨(World.cell?_of_block (w := w) he).trans (h.2 i hi).1, (World.frozen?_of_block (w := w) he).trans (h.2 i hi).2⟩⟩
theorem Cs.set' {w : World} {b : Nat} {vs : List Value} (h : Cs w b vs) (j : Nat) (u : Value) (hj : j < vs.length) : Cs (w.setCell ⟨b, j, none⟩ u) b (vs.set j u) := by
  refine ⟨by simpa using h.1, fun i hi => ?_⟩
  simp only [List.length_set] at hi
  obtain ⟨q1, q2⟩ := h.2 i hi
  refine ⟨?_, (World.frozen?_setCell _ _ _ _).trans q2⟩
  by_cases e : j = i
  · subst e
    rw [World.cell?_setCell_same _ _ _ q1]; simp
  · rw [World.cell?_setCell_other _ _ _ _ (by intro h; injection h with _ h2; exact e h2), q1]; simp [e]
theorem Cs.block {w w' : World} {b : Nat} {vs : List Value} (h : Cs w b vs) (he : w'.heap[b]? = w.heap[b]?) (hs : w.heap.size ≤ w'.heap.size) : Cs w' b vs :=
  ⟨Nat.lt_of_lt_of_le h.1 hs, fun i hi => ⟨(World.cell?_of_block (w := w) he).trans (h.2 i hi).1, (World.frozen?_of_block (w := w) he).trans (h.2 i hi).2⟩⟩
end Go.Proofs.YtkdknfedieeenaaGreatDoor
