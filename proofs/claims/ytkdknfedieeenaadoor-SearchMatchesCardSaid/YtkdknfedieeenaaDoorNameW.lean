/- 'Words' and 'Name' of layer 2's statements: labels of few letters, and the name of such. -/
import Derived.Test.YtkdknfedieeenaaDoorNameC
import Derived.OpenShut
namespace Go.Proofs.YtkdknfedieeenaaDoor
open Go.RowKit
set_option linter.unusedVariables false

/-- The eight labels. -/
def eight : List (List UInt8) := [[97], [98], [99], [119, 119, 119], [101, 120], [111, 114, 103], [42], [114, 112, 122, 45, 105, 112]]
def wordZ (z : Int) : List UInt8 := eight[(z % 8).toNat]?.getD []
def wordsZ (zs : List Int) : List (List UInt8) := (zs.take 12).map wordZ
theorem eight_cell (w : World) (z : Int) (hz : 0 ≤ z) (T : TypeId) :
    (w.alloc (.cells #[.string ⟨#[97]⟩, .string ⟨#[98]⟩, .string ⟨#[99]⟩, .string ⟨#[119, 119, 119]⟩, .string ⟨#[101, 120]⟩, .string ⟨#[111, 114, 103]⟩, .string ⟨#[42]⟩, .string ⟨#[114, 112, 122, 45, 105, 112]⟩] T)).cell? ⟨w.heap.size, (z % 8).toNat, none⟩ = some (.string ⟨(wordZ z).toArray⟩) := by
  obtain ⟨k, hk, hk8⟩ : ∃ k : Nat, (z % 8).toNat = k ∧ k < 8 := ⟨_, rfl, by omega⟩
  have h := news_at w #[.string ⟨#[97]⟩, .string ⟨#[98]⟩, .string ⟨#[99]⟩, .string ⟨#[119, 119, 119]⟩, .string ⟨#[101, 120]⟩, .string ⟨#[111, 114, 103]⟩, .string ⟨#[42]⟩, .string ⟨#[114, 112, 122, 45, 105, 112]⟩] T k (.string ⟨(wordZ z).toArray⟩)
  rw [Addr.add_lit, Nat.zero_add] at h
  rw [hk]
  apply h
  unfold wordZ
  rw [hk]
  match k, hk8 with
  | 0, _ => rfl
  | 1, _ => rfl
  | 2, _ => rfl
  | 3, _ => rfl
  | 4, _ => rfl
  | 5, _ => rfl
  | 6, _ => rfl
  | 7, _ => rfl

theorem wordsZ_len (zs : List Int) : (wordsZ zs).length ≤ 12 := by unfold wordsZ; simp; omega
theorem eight_ok : ∀ x ∈ eight, okLabel x = true ∧ x.map fold8 = x ∧ x.length ≤ 6 := by decide
theorem wordZ_ok (z : Int) (hz : 0 ≤ z) : okLabel (wordZ z) = true ∧ (wordZ z).map fold8 = wordZ z ∧ (wordZ z).length ≤ 6 := by
  apply eight_ok
  unfold wordZ
  have h : (z % 8).toNat < eight.length := by have : eight.length = 8 := rfl; omega
  rw [List.getElem?_eq_getElem h]
  exact List.getElem_mem h
theorem wordsZ_ok (zs : List Int) (hz : ∀ z ∈ zs, 0 ≤ z ∧ z < 256) : ∀ x ∈ wordsZ zs, okLabel x = true ∧ x.map fold8 = x ∧ x.length ≤ 6 := by
  intro x hx
  unfold wordsZ at hx
  obtain ⟨z, hz', rfl⟩ := List.mem_map.1 hx
  exact wordZ_ok z (hz z (List.mem_of_mem_take hz')).1
theorem few_wire : ∀ (ls : List (List UInt8)), (∀ x ∈ ls, x.length ≤ 6) → (wire ls).length ≤ 7 * ls.length
  | [], _ => by simp [wire]
  | l :: ls, h => by
    have h1 := few_wire ls (fun x hx => h x (by simp [hx]))
    have h2 := h l (by simp)
    simp [wire] at *
    omega
theorem few_low {ls : List (List UInt8)} (h : ∀ x ∈ ls, okLabel x = true ∧ x.map fold8 = x ∧ x.length ≤ 6) : lowL ls = ls := by
  unfold lowL
  rw [List.map_congr_left (g := id) (fun x hx => (h x hx).2.1), List.map_id]
/-- The name of few labels of few letters. -/
theorem few_make {ls : List (List UInt8)} (h : ∀ x ∈ ls, okLabel x = true ∧ x.map fold8 = x ∧ x.length ≤ 6) (hl : ls.length ≤ 12) : makeL ls = some (wire ls) := by
  have h1 := few_low h
  have h2 := few_wire ls (fun x hx => (h x hx).2.2)
  unfold makeL
  rw [h1, if_pos]
  refine ⟨?_, by omega⟩
  rw [List.all_eq_true]
  intro x hx
  have := (h x hx).1
  simp only [okLabel, Bool.and_eq_true] at this
  exact this.1
theorem few_labels {ls : List (List UInt8)} (h : ∀ x ∈ ls, okLabel x = true ∧ x.map fold8 = x ∧ x.length ≤ 6) (hl : ls.length ≤ 12) : labelsOf ⟨(wire ls).toArray⟩ = some ls := by
  have h2 := few_wire ls (fun x hx => (h x hx).2.2)
  refine (nameLabels_iff _ _).2 ⟨by simp; omega, by simp, fun x hx => (h x hx).1⟩
def nameZ (zs : List Int) : List UInt8 := wire (wordsZ zs)

end Go.Proofs.YtkdknfedieeenaaDoor
