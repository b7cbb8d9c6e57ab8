/- The bytes of a string that were laid anew, and are written place by place. It speaks of no program. -/
import Derived.Test.YtkdknfedieeenaaGreatDoorBuf2
import Derived.Laws.IdiomStrings
namespace Go.Proofs.YtkdknfedieeenaaGreatDoor
open Go.RowKit
set_option linter.unusedVariables false

/-- The block b holds the bytes l from its beginning on, and they may be written. -/
def BR (w : World) (b : Nat) (l : List UInt8) : Prop := ∀ j (h : j < l.length), w.cell? ⟨b, j, none⟩ = some (bv l[j]) ∧ w.frozen? ⟨b, j, none⟩ = false
theorem BR.sl {w : World} {b : Nat} {l : List UInt8} (h : BR w b l) (hb : b < w.heap.size) : Sl w w.heap.size 1 (some ⟨b, 0, none⟩) l.length (l.map bv) := by
  refine ⟨by simp, fun _ => ⟨b, 0, rfl, hb, fun j u hu => ?_⟩⟩
  rw [List.getElem?_map] at hu
  obtain ⟨y, hy, rfl⟩ := Option.map_eq_some_iff.1 hu
  obtain ⟨hj, rfl⟩ := List.getElem?_eq_some_iff.1 hy
  rw [Nat.zero_add]
  exact (h j hj).1
theorem BR.set {w : World} {b j : Nat} {l : List UInt8} (h : BR w b l) (hj : j < l.length) (c : UInt8) : BR (w.setCell ⟨b, j, none⟩ (bv c)) b (l.set j c) := by
  intro k hk
  rw [List.length_set] at hk
  have h1 := h k hk
  by_cases he : k = j
  · subst he
    refine ⟨?_, ?_⟩
    · rw [List.getElem_set_self]
      exact World.cell?_setCell_same w _ _ h1.1
    · rw [World.frozen?_setCell]
      exact h1.2
  · refine ⟨?_, ?_⟩
    · rw [List.getElem_set_ne (by omega)]
      rw [World.cell?_setCell_other w _ _ _ (by intro e; injection e with _ e2; exact he e2.symm)]
      exact h1.1
    · rw [World.frozen?_setCell]
      exact h1.2
theorem BR.block {w w' : World} {b : Nat} {l : List UInt8} (h : BR w b l) (hb : w'.heap[b]? = w.heap[b]?) : BR w' b l := fun j hj =>
  ⟨(World.cell?_of_block (a := ⟨b, j, none⟩) hb).trans (h j hj).1, (World.frozen?_of_block (a := ⟨b, j, none⟩) hb).trans (h j hj).2⟩
theorem BR.new (w : World) (s : ByteArray) (c : Nat) (e : TypeId) (hc : s.size ≤ c) :
    BR (w.drew.alloc (.cells (bytesRow s c) e ((bytesRow s c).size, (bytesRow s c).size + 1))) w.heap.size s.data.toList := by
  have hsz : (bytesRow s c).size = c := by unfold bytesRow; simp; omega
  intro j hj
  have hj' : j < s.data.size := by simpa using hj
  refine ⟨?_, ?_⟩
  · have := World.cell?_alloc_mark w.drew (bytesRow s c) e ((bytesRow s c).size, (bytesRow s c).size + 1) j
    rw [show w.drew.heap.size = w.heap.size from rfl] at this
    rw [this, bytesRow_at s c j hj']
    rfl
  · have := World.frozen?_alloc_mark w.drew (bytesRow s c) e (bytesRow s c).size ((bytesRow s c).size + 1) j
    rw [show w.drew.heap.size = w.heap.size from rfl] at this
    rw [this, hsz]
    have : j < c := by have : s.data.size = s.size := rfl; omega
    simp; omega
end Go.Proofs.YtkdknfedieeenaaGreatDoor
