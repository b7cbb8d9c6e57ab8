/- slices.Equal of records, in general. -/
import Derived.Test.YtkdknfedieeenaaDoorActD
import Derived.Outline
import Derived.BigQuiet
namespace Go.Proofs.YtkdknfedieeenaaDoor
open Go.RowKit
set_option linter.unusedVariables false
set_option maxRecDepth 20000
theorem Recs.below {w w' : World} {A : Option Addr} {rs : List RecT} (h : Recs w A rs) (hb : Below w.heap.size w w') : Recs w' A rs := by
  intro i r hr
  obtain ⟨b, off, rfl, hlt, g0, g1, g2, g3⟩ := h i r hr
  exact ⟨b, off, rfl, Nat.lt_of_lt_of_le hlt hb.size, (hb.cell (p := ⟨b, _, none⟩) hlt).trans g0, (hb.cell (p := ⟨b, _, none⟩) hlt).trans g1, (hb.cell (p := ⟨b, _, none⟩) hlt).trans g2, (hb.cell (p := ⟨b, _, none⟩) hlt).trans g3⟩
theorem recs_snoc {rs rs' : List RecT} {k : Nat} {r r' : RecT} (h : rs.take k = rs'.take k) (hr : rs[k]? = some r) (hr' : rs'[k]? = some r') (e : r = r') : rs.take (k + 1) = rs'.take (k + 1) := by
  rw [List.take_add_one, List.take_add_one, h, hr, hr', e]
theorem rec_eq {r r' : RecT} (h : (!(r.1.toList == r'.1.toList && (r.2.1 == r'.2.1 && (r.2.2.1 == r'.2.2.1 && r.2.2.2.toList == r'.2.2.2.toList)))) = false) : r = r' := by
  obtain ⟨a, b, c, d⟩ := r
  obtain ⟨a', b', c', d'⟩ := r'
  simp only [Bool.not_eq_false', Bool.and_eq_true] at h
  have h0 : a = a' := by have := eq_of_beq h.1; rw [ByteArray.toList_eq, ByteArray.toList_eq] at this; exact ByteArray.ext (Array.ext' this)
  have h3 : d = d' := by have := eq_of_beq h.2.2.2; rw [ByteArray.toList_eq, ByteArray.toList_eq] at this; exact ByteArray.ext (Array.ext' this)
  have h1 : b = b' := eq_of_beq h.2.1
  have h2 : c = c' := eq_of_beq h.2.2.1
  rw [h0, h1, h2, h3]
theorem rec_ne {r r' : RecT} (h : (!(r.1.toList == r'.1.toList && (r.2.1 == r'.2.1 && (r.2.2.1 == r'.2.2.1 && r.2.2.2.toList == r'.2.2.2.toList)))) = true) : r ≠ r' := by
  rintro rfl
  simp at h
end Go.Proofs.YtkdknfedieeenaaDoor
