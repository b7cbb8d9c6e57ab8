/- What an argument of rows of bytes is, read off the statement's own reading of it. -/
import Derived.Test.YtdekaaclheoapaaView
import Derived.Test.YtdekaaclheoapaaOb
namespace Go.Proofs.Ytdekaaclheoapaa
open Go.ChangeShapes Go.WideShapes Go.ChangeAt Go.RowKit Go.Deep
set_option linter.unusedVariables false
theorem choose_list1 {α γ : Type} {f : γ → α} {p : γ → Prop} : ∀ (vs : List α), (∀ j, j < vs.length → ∃ x, vs[j]? = some (f x) ∧ p x) → ∃ xs : List γ, vs = xs.map f ∧ ∀ x ∈ xs, p x
  | [], _ => ⟨[], rfl, by simp⟩
  | v :: vs, h => by
    obtain ⟨x, hx, hp⟩ := h 0 (by simp)
    obtain ⟨xs, h1, h3⟩ := choose_list1 (f := f) (p := p) vs (fun j hj => by
      obtain ⟨x, a, c⟩ := h (j + 1) (by simpa using hj)
      exact ⟨x, by simpa using a, c⟩)
    simp at hx
    refine ⟨x :: xs, by simp [h1, hx], ?_⟩
    intro z hz
    rcases List.mem_cons.1 hz with rfl | hz
    · exact hp
    · exact h3 z hz
/-- A row: where it lies, how long it is, its room, its bytes. -/
abbrev RowT := Option Addr × Nat × Nat × List UInt8
def rowV (r : RowT) : Value := .slice r.1 r.2.1 r.2.2.1
def RowOk (w : World) (r : RowT) : Prop := SlView w r.1 r.2.1 r.2.2.1 (r.2.2.2.map bv) ∧ r.2.2.2.length = r.2.1
section
variable {H : Type} {enc : TypeId × Value → H} {P : Program} {w : World} {d : DataW H} {p : List MemPlace}
theorem view_rows {t e b : TypeId} (ht : P.underlying t = some (.slice e)) (he : P.underlying e = some (.slice b)) (hb : P.underlying b = some (.int .u8)) (hc : P.cellsOf e = 1) (hcb : P.cellsOf b = 1) {m : Nat} {cs : List Value}
    (h : DataW.trod enc P w 0 (fun _ => true) true m t cs = some (d, p)) :
    ∃ A n c, ∃ rs : List RowT, ∃ el : List (DataW H), cs = [.slice A n c] ∧ SlView w A n c (rs.map rowV) ∧ rs.length = n ∧ (∀ r ∈ rs, RowOk w r) ∧ el.length = n ∧ ((d = .nil ∧ n = 0 ∧ c = 0) ∨ ∃ sp, d = .slice el sp ∧ sp.length = c - n) := by
  obtain ⟨A, n, c, vs, hcs, hS, hl, hd⟩ := view_slice1 ht hc h
  rcases hd with ⟨rfl, rfl, rfl⟩ | ⟨el, sp, rfl, hel, hsp, hj⟩
  · obtain rfl : vs = [] := List.eq_nil_of_length_eq_zero hl
    exact ⟨A, 0, 0, [], [], hcs, hS, rfl, by simp, rfl, .inl ⟨rfl, rfl, rfl⟩⟩
  · obtain ⟨rs, h1, h3⟩ := choose_list1 (f := rowV) (p := RowOk w) vs (fun j hjj => by
      obtain ⟨u, D, pl, m', a, b', ht'⟩ := hj j (by omega)
      obtain ⟨A', n', c', zs, e1, hS', hl', hz', _⟩ := view_ints he hb hcb ht'
      simp only [List.cons.injEq, and_true] at e1
      obtain ⟨l, hl2⟩ := bytes_of zs hz'
      rw [hl2] at hS'
      refine ⟨(A', n', c', l), by rw [a, e1]; rfl, hS', ?_⟩
      have := congrArg List.length hl2
      simp at this
      show l.length = n'
      omega)
    subst h1
    exact ⟨A, n, c, rs, el, hcs, hS, by simpa using hl, h3, hel, .inr ⟨sp, rfl, hsp⟩⟩
end
end Go.Proofs.Ytdekaaclheoapaa
