/- What an argument of rows of bytes is, read off the statement's own reading of it. -/
import Derived.Test.YtkdknfedieeenaaGreatDoorView
import Derived.Test.YtkdknfedieeenaaGreatDoorOb
namespace Go.Proofs.YtkdknfedieeenaaGreatDoor
open Go.ChangeShapes Go.WideShapes Go.ChangeAt Go.RowKit Go.Deep
set_option linter.unusedVariables false
theorem choose_list1 {α γ : Type} {f : γ → α} {p : γ → Prop} : ∀ (vs : List α), (∀ j, j < vs.length → ∃ x, vs[j]? = some (f x) ∧ p x) → ∃ xs : List γ, vs = xs.map f ∧ ∀ x ∈ xs, p x
  | [], _ => ⟨[], rfl, by simp⟩
  | v :: vs, h => by
    obtain ⟨x, hx, hp⟩ := h 0 (by simp)
    obtain ⟨xs, h1, h3⟩ := choose_list1 (f := f) (p := p) vs (fun j hj => by
      obtain ⟨x, a, c⟩ := h (j + 1) (by simpa using hj)
      exact ⟨x, by simpa using a, c⟩)
    simp at hx
    refine ⟨x :: xs, by simp [h1, hx], ?_⟩
    intro z hz
    rcases List.mem_cons.1 hz with rfl | hz
    · exact hp
    · exact h3 z hz
/-- A row: where it lies, how long it is, its room, its bytes. -/
abbrev RowT := Option Addr × Nat × Nat × List UInt8
def rowV (r : RowT) : Value := .slice r.1 r.2.1 r.2.2.1
def RowOk (w : World) (r : RowT) : Prop := SlView w r.1 r.2.1 r.2.2.1 (r.2.2.2.map bv) ∧ r.2.2.2.length = r.2.1
section
variable {H : Type} {enc : TypeId × Value → H} {P : Program} {w : World} {d : DataW H} {p : List MemPlace}
theorem view_rows {t e b : TypeId} (ht : P.underlying t = some (.slice e)) (he : P.underlying e = some (.slice b)) (hb : P.underlying b = some (.int .u8)) (hc : P.cellsOf e = 1) (hcb : P.cellsOf b = 1) {m : Nat} {cs : List Value}
    (h : DataW.trod enc P w 0 (fun _ => true) true m t cs = some (d, p)) :
    ∃ A n c, ∃ rs : List RowT, ∃ el : List (DataW H), cs = [.slice A n c] ∧ SlView w A n c (rs.map rowV) ∧ rs.length = n ∧ (∀ r ∈ rs, RowOk w r) ∧ el.length = n ∧ ((d = .nil ∧ n = 0 ∧ c = 0) ∨ ∃ sp, d = .slice el sp ∧ sp.length = c - n) := by
  obtain ⟨A, n, c, vs, hcs, hS, hl, hd⟩ := view_slice1 ht hc h
  rcases hd with ⟨rfl, rfl, rfl⟩ | ⟨el, sp, rfl, hel, hsp, hj⟩
  · obtain rfl : vs = [] := List.eq_nil_of_length_eq_zero hl
    exact ⟨A, 0, 0, [], [], hcs, hS, rfl, by simp, rfl, .inl ⟨rfl, rfl, rfl⟩⟩
  · obtain ⟨rs, h1, h3⟩ := choose_list1 (f := rowV) (p := RowOk w) vs (fun j hjj => by
      obtain ⟨u, D, pl, m', a, b', ht'⟩ := hj j (by omega)
      obtain ⟨A', n', c', zs, e1, hS', hl', hz', _⟩ := view_ints he hb hcb ht'
      simp only [List.cons.injEq, and_true] at e1
      obtain ⟨l, hl2⟩ := bytes_of zs hz'
      rw [hl2] at hS'
      refine ⟨(A', n', c', l), by rw [a, e1]; rfl, hS', ?_⟩
      have := congrArg List.length hl2
      simp at this
      show l.length = n'
      omega)
    subst h1
    exact ⟨A, n, c, rs, el, hcs, hS, by simpa using hl, h3, hel, .inr ⟨sp, rfl, hsp⟩⟩
/-- The bytes of all rows. -/
def sumR (rs : List RowT) : Nat := (rs.map fun r => r.2.1).sum
theorem sumR_cons (r : RowT) (rs : List RowT) : sumR (r :: rs) = r.2.1 + sumR rs := by simp [sumR]
theorem bulk_row {D : DataW H} {n' c' : Nat} {zs : List Int} (hl : zs.length = n') (h : (D = .nil ∧ n' = 0 ∧ c' = 0) ∨ ∃ sp, D = .slice (zs.map fun z => DataW.lit (.int .u8 z)) sp ∧ sp.length = c' - n') : n' ≤ Rows.uptoBulk D := by
  rcases h with ⟨rfl, rfl, rfl⟩ | ⟨sp, rfl, _⟩
  · omega
  · rw [bulk_slice]
    have := bulk_len (zs.map fun z => DataW.lit (H := H) (.int .u8 z))
    simp at this; omega
theorem sum_bulk : ∀ (xs : List (RowT × DataW H)), (∀ x ∈ xs, x.1.2.1 ≤ Rows.uptoBulk x.2) → sumR (xs.map (·.1)) ≤ Rows.uptoBulkAll (xs.map (·.2))
  | [], _ => by simp [sumR]
  | x :: xs, h => by
    have h4 := sum_bulk xs (fun z hz => h z (by simp [hz]))
    have h5 := h x (by simp)
    rw [List.map_cons, List.map_cons, sumR_cons, bulk_cons]
    omega
theorem view_rows2 {t e b : TypeId} (ht : P.underlying t = some (.slice e)) (he : P.underlying e = some (.slice b)) (hb : P.underlying b = some (.int .u8)) (hc : P.cellsOf e = 1) (hcb : P.cellsOf b = 1) {m : Nat} {cs : List Value}
    (h : DataW.trod enc P w 0 (fun _ => true) true m t cs = some (d, p)) :
    ∃ A n c, ∃ rs : List RowT, ∃ el : List (DataW H), cs = [.slice A n c] ∧ SlView w A n c (rs.map rowV) ∧ rs.length = n ∧ (∀ r ∈ rs, RowOk w r) ∧ el.length = n ∧ ((d = .nil ∧ n = 0 ∧ c = 0) ∨ ∃ sp, d = .slice el sp ∧ sp.length = c - n) ∧ sumR rs ≤ Rows.uptoBulkAll el := by
  obtain ⟨A, n, c, vs, hcs, hS, hl, hd⟩ := view_slice1 ht hc h
  rcases hd with ⟨rfl, rfl, rfl⟩ | ⟨el, sp, rfl, hel, hsp, hj⟩
  · obtain rfl : vs = [] := List.eq_nil_of_length_eq_zero hl
    exact ⟨A, 0, 0, [], [], hcs, hS, rfl, by simp, rfl, .inl ⟨rfl, rfl, rfl⟩, by simp [sumR]⟩
  · obtain ⟨xs, h1, h2, h3⟩ := choose_list2 (γ := RowT × DataW H) (f := fun x => rowV x.1) (g := fun x => x.2) (p := fun x => RowOk w x.1 ∧ x.1.2.1 ≤ Rows.uptoBulk x.2) vs el (by omega) (fun j hjj => by
      obtain ⟨u, D, pl, m', a, b', ht'⟩ := hj j (by omega)
      obtain ⟨A', n', c', zs, e1, hS', hl', hz', hd'⟩ := view_ints he hb hcb ht'
      simp only [List.cons.injEq, and_true] at e1
      obtain ⟨l, hl2⟩ := bytes_of zs hz'
      rw [hl2] at hS'
      refine ⟨((A', n', c', l), D), by rw [a, e1]; rfl, b', ⟨hS', ?_⟩, bulk_row hl' hd'⟩
      have := congrArg List.length hl2
      simp at this
      show l.length = n'
      omega)
    subst h1 h2
    refine ⟨A, n, c, xs.map (·.1), _, hcs, by rw [List.map_map]; exact hS, by simpa using hl, ?_, by simpa using hl, .inr ⟨sp, rfl, hsp⟩, ?_⟩
    · intro r hr
      obtain ⟨x, hx, rfl⟩ := List.mem_map.1 hr
      exact (h3 x hx).1
    · exact sum_bulk xs (fun x hx => (h3 x hx).2)
theorem weightsAll_mem {e : TypeId} {D : DataW H} {n : Nat} : ∀ {l : List (DataW H)}, D ∈ l → n ∈ D.weights P e → n ∈ DataW.weightsAll P e l
  | x :: l, h, hn => by
    unfold DataW.weightsAll
    rcases List.mem_cons.1 h with rfl | h
    · exact List.mem_append.2 (.inl hn)
    · exact List.mem_append.2 (.inr (weightsAll_mem h hn))
theorem row_sized {ts : List TypeId} {ds : List (DataW H)} (h : (DataW.weightsEach P ts ds).all (· ≤ reachBytes) = true) {j : Nat} {t e : TypeId} {el sp : List (DataW H)} (ht : ts[j]? = some t) (hd : ds[j]? = some (.slice el sp)) (hu : P.underlying t = some (.slice e))
    {D : DataW H} {n : Nat} (hD : D ∈ el) (hn : n ∈ D.weights P e) : n ≤ reachBytes := by
  refine sized_any h ht hd ?_
  simp only [DataW.weights, hu, List.mem_cons, List.mem_append]
  exact .inr (.inl (weightsAll_mem hD hn))
theorem view_rows3 {t e b : TypeId} (ht : P.underlying t = some (.slice e)) (he : P.underlying e = some (.slice b)) (hb : P.underlying b = some (.int .u8)) (hc : P.cellsOf e = 1) (hcb : P.cellsOf b = 1) (hbb : P.bytesOf b = 1) {m : Nat} {cs : List Value}
    (h : DataW.trod enc P w 0 (fun _ => true) true m t cs = some (d, p)) :
    ∃ A n c, ∃ rs : List RowT, ∃ el : List (DataW H), cs = [.slice A n c] ∧ SlView w A n c (rs.map rowV) ∧ rs.length = n ∧ (∀ r ∈ rs, RowOk w r ∧ (r.2.2.1 = 0 ∨ ∃ D ∈ el, r.2.2.1 ∈ D.weights P e)) ∧ el.length = n ∧ ((d = .nil ∧ n = 0 ∧ c = 0) ∨ ∃ sp, d = .slice el sp ∧ sp.length = c - n) := by
  obtain ⟨A, n, c, vs, hcs, hS, hl, hd⟩ := view_slice1 ht hc h
  rcases hd with ⟨rfl, rfl, rfl⟩ | ⟨el, sp, rfl, hel, hsp, hj⟩
  · obtain rfl : vs = [] := List.eq_nil_of_length_eq_zero hl
    exact ⟨A, 0, 0, [], [], hcs, hS, rfl, by simp, rfl, .inl ⟨rfl, rfl, rfl⟩⟩
  · obtain ⟨xs, h1, h2, h3⟩ := choose_list2 (γ := RowT × DataW H) (f := fun x => rowV x.1) (g := fun x => x.2) (p := fun x => RowOk w x.1 ∧ (x.1.2.2.1 = 0 ∨ x.1.2.2.1 ∈ x.2.weights P e)) vs el (by omega) (fun j hjj => by
      obtain ⟨u, D, pl, m', a, b', ht'⟩ := hj j (by omega)
      obtain ⟨A', n', c', zs, e1, hS', hl', hz', hd'⟩ := view_ints he hb hcb ht'
      simp only [List.cons.injEq, and_true] at e1
      obtain ⟨l, hl2⟩ := bytes_of zs hz'
      rw [hl2] at hS'
      have hle := hS'.le
      refine ⟨((A', n', c', l), D), by rw [a, e1]; rfl, b', ⟨hS', ?_⟩, ?_⟩
      · have := congrArg List.length hl2
        simp at this
        show l.length = n'
        omega
      · show c' = 0 ∨ c' ∈ D.weights P e
        rcases hd' with ⟨_, _, h0⟩ | ⟨sp', rfl, hsp'⟩
        · exact .inl h0
        · right
          simp only [DataW.weights, he, List.mem_cons, List.length_map, hl', hsp', hbb]
          left; omega)
    subst h1 h2
    refine ⟨A, n, c, xs.map (·.1), _, hcs, by rw [List.map_map]; exact hS, by simpa using hl, ?_, by simpa using hl, .inr ⟨sp, rfl, hsp⟩⟩
    intro r hr
    obtain ⟨x, hx, rfl⟩ := List.mem_map.1 hr
    refine ⟨(h3 x hx).1, ?_⟩
    rcases (h3 x hx).2 with h4 | h4
    · exact .inl h4
    · exact .inr ⟨x.2, List.mem_map.2 ⟨x, hx, rfl⟩, h4⟩
end
end Go.Proofs.YtkdknfedieeenaaGreatDoor
