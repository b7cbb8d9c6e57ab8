/- What an argument is, read off the statement's own reading of it. -/
import Derived.Test.YtkdknfedieeenaaGreatDoorRows
import Derived.Test.YtkdknfedieeenaaGreatDoorBase
import Derived.ProofKit
import Derived.OpenShut
import Derived.ShutString
import Derived.ChangeOld
import Derived.Deep.Slices
import Derived.SizedLaws
import Derived.JoinedCond
namespace Go.Proofs.YtkdknfedieeenaaGreatDoor
open Go.ChangeShapes Go.WideShapes Go.ChangeAt Go.RowKit Go.Deep
set_option linter.unusedVariables false

theorem own : ownKnob Tryz.prog.godebug = none := by kernel_rfl
theorem laidOut : laidOutB Tryz.prog = true := by kernel_rfl

theorem choose_list2 {α β γ : Type} {f : γ → α} {g : γ → β} {p : γ → Prop} : ∀ (vs : List α) (el : List β), vs.length = el.length →
    (∀ j, j < vs.length → ∃ x, vs[j]? = some (f x) ∧ el[j]? = some (g x) ∧ p x) → ∃ xs : List γ, vs = xs.map f ∧ el = xs.map g ∧ ∀ x ∈ xs, p x
  | [], [], _, _ => ⟨[], rfl, rfl, by simp⟩
  | v :: vs, d :: el, hl, h => by
    obtain ⟨x, hx, hy, hp⟩ := h 0 (by simp)
    obtain ⟨xs, h1, h2, h3⟩ := choose_list2 (f := f) (g := g) (p := p) vs el (by simpa using hl) (fun j hj => by
      obtain ⟨x, a, b, c⟩ := h (j + 1) (by simpa using hj)
      exact ⟨x, by simpa using a, by simpa using b, c⟩)
    simp at hx hy
    refine ⟨x :: xs, by simp [h1, hx], by simp [h2, hy], ?_⟩
    intro z hz
    rcases List.mem_cons.1 hz with rfl | hz
    · exact hp
    · exact h3 z hz

section
variable {H : Type} {enc : TypeId × Value → H} {P : Program} {w : World} {r : Reach} {base : Nat} {v : Value} {d : DataW H} {p : List MemPlace}

/-- The part that all slices share. -/
structure SlView (w : World) (A : Option Addr) (n c : Nat) (vs : List Value) : Prop where
  sl : Sl w w.heap.size 1 A n vs
  none_ : A = none → n = 0 ∧ c = 0
  le : n ≤ c
  max : c ≤ maxLen

theorem view_slice1 {t e : TypeId} (ht : P.underlying t = some (.slice e)) (hc : P.cellsOf e = 1) {m : Nat} {cs : List Value} (h : DataW.trod enc P w 0 (fun _ => true) true m t cs = some (d, p)) :
    ∃ A n c vs, cs = [.slice A n c] ∧ SlView w A n c vs ∧ vs.length = n ∧
      ((d = .nil ∧ n = 0 ∧ c = 0) ∨ ∃ el sp, d = .slice el sp ∧ el.length = n ∧ sp.length = c - n ∧
        ∀ j, j < n → ∃ (u : Value) (D : DataW H) (pl : List MemPlace) (m' : Nat), vs[j]? = some u ∧ el[j]? = some D ∧ DataW.trod enc P w 0 (fun _ => true) true m' e [u] = some (D, pl)) := by
  rcases open_slice1 ht hc h with ⟨hcs, hx⟩ | ⟨a, len, cap, m, k, V, D, Pl, hcs, hb, hl, hm, hmm, hx, hi⟩
  · simp only [Prod.mk.injEq] at hx
    exact ⟨none, 0, 0, [], hcs, ⟨Sl.nil _ _ _ _, fun _ => ⟨rfl, rfl⟩, Nat.le_refl _, Nat.zero_le _⟩, rfl, .inl ⟨hx.1, rfl, rfl⟩⟩
  · simp only [if_true] at hmm
    simp only [Prod.mk.injEq] at hx
    refine ⟨some a, len, cap, (List.range len).map V, hcs, ⟨⟨by simp, fun hn => ?_⟩, (fun h => by cases h), hl, hm⟩, by simp, .inr ⟨_, _, hx.1, by simp, by simp; omega, fun j hj => ⟨V j, D j, Pl j, k, by simp [hj], by simp [hj], (hi j (by omega)).2⟩⟩⟩
    obtain ⟨b, off, spot⟩ := a
    have h0 := (hi 0 (by omega)).1
    have hspot : spot = none := by simpa [Addr.add] using World.cell?_spot h0
    subst hspot
    refine ⟨b, off, rfl, ?_, fun j u hu => ?_⟩
    · have := World.block_lt_of_cell? w _ h0
      rwa [Addr.add_lit] at this
    · have hj : j < len := by have := (List.getElem?_eq_some_iff.1 hu).1; simpa using this
      have := (hi j (by omega)).1
      rw [Addr.add_lit] at this
      rw [this]
      simpa [hj] using hu

theorem trod_cells {t : TypeId} (h : DataW.Trod enc P w base (fun _ => true) true t v d p) (hv : ∃ A n c, v = .slice A n c) : ∃ m, DataW.trod enc P w base (fun _ => true) true m t [v] = some (d, p) := by
  obtain ⟨A, n, c, rfl⟩ := hv
  obtain ⟨fuel, hf⟩ := h
  exact ⟨fuel, by simpa [Value.cells] using hf⟩

theorem view_ints {t e : TypeId} {k : IntKind} (ht : P.underlying t = some (.slice e)) (he : P.underlying e = some (.int k)) (hc : P.cellsOf e = 1) {m : Nat} {cs : List Value} (h : DataW.trod enc P w 0 (fun _ => true) true m t cs = some (d, p)) :
    ∃ A n c, ∃ zs : List Int, cs = [.slice A n c] ∧ SlView w A n c (zs.map (Value.int k)) ∧ zs.length = n ∧ (∀ z ∈ zs, (Lit.int k z).wf = true) ∧
      ((d = .nil ∧ n = 0 ∧ c = 0) ∨ ∃ sp, d = .slice (zs.map fun z => .lit (.int k z)) sp ∧ sp.length = c - n) := by
  obtain ⟨A, n, c, vs, hcs, hS, hl, hd⟩ := view_slice1 ht hc h
  rcases hd with ⟨rfl, rfl, rfl⟩ | ⟨el, sp, rfl, hel, hsp, hj⟩
  · obtain rfl : vs = [] := List.eq_nil_of_length_eq_zero hl
    exact ⟨A, 0, 0, [], hcs, hS, rfl, by simp, .inl ⟨rfl, rfl, rfl⟩⟩
  · obtain ⟨xs, h1, h2, h3⟩ := choose_list2 (f := Value.int k) (g := fun z => DataW.lit (.int k z)) (p := fun z => (Lit.int k z).wf = true) vs el (by omega) (fun j hjj => by
      obtain ⟨u, D, pl, m', a, b, ht'⟩ := hj j (by omega)
      obtain ⟨z, e1, e2, hw⟩ := DataW.trod_int he ht'
      simp only [Prod.mk.injEq, List.cons.injEq, and_true] at e1 e2
      exact ⟨z, by rw [a, e1], by rw [b, e2.1], hw⟩)
    subst h1 h2
    exact ⟨A, n, c, xs, hcs, hS, by simpa using hl, h3, .inr ⟨sp, rfl, hsp⟩⟩

theorem view_bools {t e : TypeId} (ht : P.underlying t = some (.slice e)) (he : P.underlying e = some .bool) (hc : P.cellsOf e = 1) {m : Nat} {cs : List Value} (h : DataW.trod enc P w 0 (fun _ => true) true m t cs = some (d, p)) :
    ∃ A n c, ∃ zs : List Bool, cs = [.slice A n c] ∧ SlView w A n c (zs.map Value.bool) ∧ zs.length = n ∧
      ((d = .nil ∧ n = 0 ∧ c = 0) ∨ ∃ sp, d = .slice (zs.map fun z => .lit (.bool z)) sp ∧ sp.length = c - n) := by
  obtain ⟨A, n, c, vs, hcs, hS, hl, hd⟩ := view_slice1 ht hc h
  rcases hd with ⟨rfl, rfl, rfl⟩ | ⟨el, sp, rfl, hel, hsp, hj⟩
  · obtain rfl : vs = [] := List.eq_nil_of_length_eq_zero hl
    exact ⟨A, 0, 0, [], hcs, hS, rfl, .inl ⟨rfl, rfl, rfl⟩⟩
  · obtain ⟨xs, h1, h2, h3⟩ := choose_list2 (f := Value.bool) (g := fun z => DataW.lit (.bool z)) (p := fun _ => True) vs el (by omega) (fun j hjj => by
      obtain ⟨u, D, pl, m', a, b, ht'⟩ := hj j (by omega)
      obtain ⟨z, e1, e2⟩ := DataW.trod_bool he ht'
      simp only [Prod.mk.injEq, List.cons.injEq, and_true] at e1 e2
      exact ⟨z, by rw [a, e1], by rw [b, e2.1], trivial⟩)
    subst h1 h2
    exact ⟨A, n, c, xs, hcs, hS, by simpa using hl, .inr ⟨sp, rfl, hsp⟩⟩

theorem view_strings {t e : TypeId} (ht : P.underlying t = some (.slice e)) (he : P.underlying e = some .string) (hc : P.cellsOf e = 1) {m : Nat} {cs : List Value} (h : DataW.trod enc P w 0 (fun _ => true) true m t cs = some (d, p)) :
    ∃ A n c, ∃ ss : List ByteArray, cs = [.slice A n c] ∧ SlView w A n c (ss.map Value.string) ∧ ss.length = n ∧ (∀ s ∈ ss, s.size ≤ maxLen) ∧
      ((d = .nil ∧ n = 0 ∧ c = 0) ∨ ∃ sp, d = .slice (ss.map fun s => .lit (.string s.data.toList)) sp ∧ sp.length = c - n) := by
  obtain ⟨A, n, c, vs, hcs, hS, hl, hd⟩ := view_slice1 ht hc h
  rcases hd with ⟨rfl, rfl, rfl⟩ | ⟨el, sp, rfl, hel, hsp, hj⟩
  · obtain rfl : vs = [] := List.eq_nil_of_length_eq_zero hl
    exact ⟨A, 0, 0, [], hcs, hS, rfl, by simp, .inl ⟨rfl, rfl, rfl⟩⟩
  · obtain ⟨xs, h1, h2, h3⟩ := choose_list2 (f := Value.string) (g := fun s => DataW.lit (.string s.data.toList)) (p := fun s => s.size ≤ maxLen) vs el (by omega) (fun j hjj => by
      obtain ⟨u, D, pl, m', a, b, ht'⟩ := hj j (by omega)
      obtain ⟨z, e1, e2, hw⟩ := DataW.trod_string he ht'
      simp only [Prod.mk.injEq, List.cons.injEq, and_true] at e1 e2
      exact ⟨z, by rw [a, e1], by rw [b, e2.1], hw⟩)
    subst h1 h2
    exact ⟨A, n, c, xs, hcs, hS, by simpa using hl, h3, .inr ⟨sp, rfl, hsp⟩⟩
end

/-! ### What the bound on the whole gives -/
theorem bulk_pos {H : Type} (d : DataW H) : 1 ≤ Rows.uptoBulk d := by
  cases d with
  | lit l => cases l <;> simp [Rows.uptoBulk]
  | nil => simp [Rows.uptoBulk]
  | ptr d => simp [Rows.uptoBulk]
  | slice elems spare => simp [Rows.uptoBulk]
  | agg parts => simp [Rows.uptoBulk]
  | iface t d => simp [Rows.uptoBulk]
  | map entries => simp [Rows.uptoBulk]
  | held h => simp [Rows.uptoBulk]
theorem bulk_len {H : Type} (l : List (DataW H)) : l.length ≤ Rows.uptoBulkAll l := by
  induction l with
  | nil => simp [Rows.uptoBulkAll]
  | cons x r ih => have := bulk_pos x; simp only [Rows.uptoBulkAll, List.length_cons]; omega
theorem bulk_slice {H : Type} (el sp : List (DataW H)) : Rows.uptoBulk (.slice el sp) = Rows.uptoBulkAll el + Rows.uptoBulkAll sp + 1 := by simp [Rows.uptoBulk]
theorem bulk_agg {H : Type} (l : List (DataW H)) : Rows.uptoBulk (.agg l) = Rows.uptoBulkAll l + 1 := by simp [Rows.uptoBulk]
theorem sized_any {H : Type} {P : Program} {ts : List TypeId} {ds : List (DataW H)} (h : (DataW.weightsEach P ts ds).all (· ≤ reachBytes) = true) {j : Nat} {t : TypeId} {d : DataW H} (ht : ts[j]? = some t) (hd : ds[j]? = some d) {n : Nat} (hn : n ∈ d.weights P t) : n ≤ reachBytes := by
  have := List.all_eq_true.1 h _ (DataW.weights_mem_each ht hd n hn)
  simpa using this
theorem bulk_string {H : Type} (l : List UInt8) : Rows.uptoBulk (DataW.lit (H := H) (.string l)) = l.length + 1 := by simp [Rows.uptoBulk]
theorem bulk_cons {H : Type} (d : DataW H) (l : List (DataW H)) : Rows.uptoBulkAll (d :: l) = Rows.uptoBulk d + Rows.uptoBulkAll l := by simp [Rows.uptoBulkAll]
theorem bulk_bound {H : Type} {l : List (DataW H)} (hk : Rows.uptoSmall H l = true) : Rows.uptoBulkAll l ≤ 1048576 := of_decide_eq_true hk
def sizes (ss : List ByteArray) : Nat := (ss.map fun s => s.size + 1).sum
theorem bulk_strings {H : Type} (ss : List ByteArray) : Rows.uptoBulkAll (ss.map fun s => DataW.lit (H := H) (.string s.data.toList)) = sizes ss := by
  induction ss with
  | nil => simp [Rows.uptoBulkAll, sizes]
  | cons s r ih => simp only [sizes, List.map_cons, List.sum_cons, Rows.uptoBulkAll, bulk_string] at *; rw [ih]; simp only [ByteArray.size, Array.length_toList]
/-- A slice's capacity is at most its bulk. -/
theorem bulk_cap {H : Type} {d : DataW H} {n c : Nat} {el : List (DataW H)} (hn : n ≤ c) (hl : el.length = n) (h : (d = .nil ∧ n = 0 ∧ c = 0) ∨ ∃ sp, d = .slice el sp ∧ sp.length = c - n) : c + 1 ≤ Rows.uptoBulk d := by
  rcases h with ⟨rfl, rfl, rfl⟩ | ⟨sp, rfl, hsp⟩
  · exact bulk_pos _
  · rw [bulk_slice]
    have h1 := bulk_len el
    have h2 := bulk_len sp
    omega
end Go.Proofs.YtkdknfedieeenaaGreatDoor
