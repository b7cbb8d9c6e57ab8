/- What an argument of deeds (structs of one-cell fields, one of them bytes) is, read off the own reading of the statement. -/
import Derived.Test.YtkdknfedieeenaaGreatDoorView2
import Derived.Lib.SmallJoins
import Derived.Deep.Strs
namespace Go.Proofs.YtkdknfedieeenaaGreatDoor
open Go.ChangeShapes Go.WideShapes Go.ChangeAt Go.RowKit Go.Deep
set_option linter.unusedVariables false
/-- A deed: its kind, its bytes, two numbers. -/
abbrev DeedT := Int × RowT × Int × Int
/-- The deeds lie one behind the other, four cells each. -/
structure Deeds4 (w : World) (A : Option Addr) (n c : Nat) (ds : List DeedT) : Prop where
  len : ds.length = n
  none_ : A = none → n = 0 ∧ c = 0
  le : n ≤ c
  max : c ≤ maxLen
  cells : 0 < n → ∃ b off, A = some ⟨b, off, none⟩ ∧ b < w.heap.size ∧ ∀ i a, ds[i]? = some a → w.cell? ⟨b, off + i * 4, none⟩ = some (.int .u8 a.1) ∧ w.cell? ⟨b, off + i * 4 + 1, none⟩ = some (rowV a.2.1) ∧ w.cell? ⟨b, off + i * 4 + 2, none⟩ = some (.int .u8 a.2.2.1) ∧ w.cell? ⟨b, off + i * 4 + 3, none⟩ = some (.int .i8 a.2.2.2)
  ok : ∀ a ∈ ds, (Lit.int .u8 a.1).wf = true ∧ RowOk w a.2.1 ∧ (Lit.int .u8 a.2.2.1).wf = true ∧ (Lit.int .i8 a.2.2.2).wf = true
/-- A deed: its kind, its bytes, a number. -/
abbrev Deed3 := Int × RowT × Int
/-- The deeds lie one behind the other, three cells each. -/
structure Deeds3 (w : World) (A : Option Addr) (n c : Nat) (ds : List Deed3) : Prop where
  len : ds.length = n
  none_ : A = none → n = 0 ∧ c = 0
  le : n ≤ c
  max : c ≤ maxLen
  cells : 0 < n → ∃ b off, A = some ⟨b, off, none⟩ ∧ b < w.heap.size ∧ ∀ i a, ds[i]? = some a → w.cell? ⟨b, off + i * 3, none⟩ = some (.int .u8 a.1) ∧ w.cell? ⟨b, off + i * 3 + 1, none⟩ = some (rowV a.2.1) ∧ w.cell? ⟨b, off + i * 3 + 2, none⟩ = some (.int .i8 a.2.2)
  ok : ∀ a ∈ ds, (Lit.int .u8 a.1).wf = true ∧ RowOk w a.2.1 ∧ (Lit.int .i8 a.2.2).wf = true
theorem choose_idx {γ : Type} : ∀ (n : Nat) {p : Nat → γ → Prop}, (∀ j, j < n → ∃ x, p j x) → ∃ xs : List γ, xs.length = n ∧ ∀ j x, xs[j]? = some x → p j x
  | 0, _, _ => ⟨[], rfl, by intro j x h; simp at h⟩
  | n + 1, p, h => by
    obtain ⟨x, hx⟩ := h 0 (by omega)
    obtain ⟨xs, h1, h2⟩ := choose_idx n (p := fun j => p (j + 1)) (fun j hj => h (j + 1) (by omega))
    refine ⟨x :: xs, by simp [h1], fun j y hy => ?_⟩
    cases j with
    | zero => simp at hy; subst hy; exact hx
    | succ j => exact h2 j y (by simpa using hy)
section
variable {H : Type} {enc : TypeId × Value → H} {P : Program} {w : World} {d : DataW H} {p : List MemPlace}
theorem view_deeds4 {t e b : TypeId} {f0 f1 f2 f3 : Field} (ht : P.underlying t = some (.slice e)) (hs : P.underlying e = some (.struct #[f0, f1, f2, f3])) (hone : oneCellFields P #[f0, f1, f2, f3] = true) (hC : P.cellsOf e = 4)
    (h0 : P.underlying f0.type = some (.int .u8)) (h1 : P.underlying f1.type = some (.slice b)) (hb : P.underlying b = some (.int .u8)) (hcb : P.cellsOf b = 1) (hbb : P.bytesOf b = 1) (h2 : P.underlying f2.type = some (.int .u8)) (h3 : P.underlying f3.type = some (.int .i8)) {m : Nat} {cs : List Value}
    (h : DataW.trod enc P w 0 (fun _ => true) true m t cs = some (d, p)) :
    ∃ A n c, ∃ ds : List DeedT, ∃ el : List (DataW H), cs = [.slice A n c] ∧ Deeds4 w A n c ds ∧ el.length = n ∧ ((d = .nil ∧ n = 0 ∧ c = 0) ∨ ∃ sp, d = .slice el sp ∧ sp.length = c - n) ∧
      ∀ a ∈ ds, a.2.1.2.2.1 = 0 ∨ ∃ D ∈ el, a.2.1.2.2.1 ∈ D.weights P e := by
  rcases open_slice ht h with ⟨rfl, hx⟩ | ⟨a, len, cap, m', n', D, Pl, rfl, hbase, hl, hm, hmm, hx, hi⟩
  · simp only [Prod.mk.injEq] at hx
    exact ⟨none, 0, 0, [], [], rfl, ⟨rfl, fun _ => ⟨rfl, rfl⟩, Nat.le_refl _, Nat.zero_le _, fun h => absurd h (by omega), by simp⟩, rfl, .inl ⟨hx.1, rfl, rfl⟩, by simp⟩
  · simp only [if_true] at hmm
    simp only [Prod.mk.injEq] at hx
    have key : ∀ j, j < len → ∃ x : DeedT, (w.cell? (a.add (j * 4)) = some (.int .u8 x.1) ∧ w.cell? (a.add (j * 4 + 1)) = some (rowV x.2.1) ∧ w.cell? (a.add (j * 4 + 2)) = some (.int .u8 x.2.2.1) ∧ w.cell? (a.add (j * 4 + 3)) = some (.int .i8 x.2.2.2)) ∧
        ((Lit.int .u8 x.1).wf = true ∧ RowOk w x.2.1 ∧ (Lit.int .u8 x.2.2.1).wf = true ∧ (Lit.int .i8 x.2.2.2).wf = true) ∧ (x.2.1.2.2.1 = 0 ∨ x.2.1.2.2.1 ∈ (D j).weights P e) := by
      intro j hj
      obtain ⟨cs', g1, g2⟩ := hi j (by omega)
      rw [hC] at g1
      obtain ⟨_, hlen, hcell⟩ := World.cells?_some g1
      match cs', hlen with
      | [v0, v1, v2, v3], _ =>
        obtain ⟨y0, y1, y2, y3, k, hy, _, t0, t1, t2, t3⟩ := Joins.trod_struct4 hs g2
        obtain ⟨o0, k0⟩ := hone_of hone 0 f0 rfl
        obtain ⟨o1, k1⟩ := hone_of hone 1 f1 rfl
        obtain ⟨o2, k2⟩ := hone_of hone 2 f2 rfl
        obtain ⟨o3, k3⟩ := hone_of hone 3 f3 rfl
        rw [o0, k0] at t0
        rw [o1, k1] at t1
        rw [o2, k2] at t2
        rw [o3, k3] at t3
        simp only [List.drop_zero, List.take_succ_cons, List.take_zero, List.drop_succ_cons] at t0 t1 t2 t3
        obtain ⟨z0, e0, -, w0⟩ := DataW.trod_int h0 t0
        obtain ⟨A', n2, c', zs, e1, hS', hl', hz', hd'⟩ := view_ints h1 hb hcb t1
        obtain ⟨z2, e2, -, w2⟩ := DataW.trod_int h2 t2
        obtain ⟨z3, e3, -, w3⟩ := DataW.trod_int h3 t3
        simp only [List.cons.injEq, and_true] at e0 e1 e2 e3
        subst e0 e1 e2 e3
        obtain ⟨l, hl2⟩ := bytes_of zs hz'
        rw [hl2] at hS'
        have hle := hS'.le
        refine ⟨(z0, (A', n2, c', l), z2, z3), ⟨?_, ?_, ?_, ?_⟩, ⟨w0, ⟨hS', ?_⟩, w2, w3⟩, ?_⟩
        · have q := hcell 0 (by omega); rw [Addr.add_add] at q; exact q
        · have q := hcell 1 (by omega); rw [Addr.add_add] at q; exact q
        · have q := hcell 2 (by omega); rw [Addr.add_add] at q; exact q
        · have q := hcell 3 (by omega); rw [Addr.add_add] at q; exact q
        · have := congrArg List.length hl2
          simp at this
          show l.length = n2
          omega
        · show c' = 0 ∨ c' ∈ (D j).weights P e
          rcases hd' with ⟨_, _, h00⟩ | ⟨sp', hy1, hsp'⟩
          · exact .inl h00
          · right
            have hDj : D j = .agg [y0.1, y1.1, y2.1, y3.1] := by
              have := congrArg Prod.fst hy
              exact this
            rw [hDj]
            simp only [DataW.weights, hs, DataW.weightsEach, List.map_cons, List.map_nil]
            rw [hy1]
            simp [DataW.weights, h1, hl', hsp', hbb]
            right; left
            omega
    obtain ⟨ds, hal, has⟩ := choose_idx len key
    refine ⟨some a, len, cap, ds, (List.range len).map D, rfl, ⟨hal, (fun h => by cases h), hl, hm, fun hn => ?_, ?_⟩, by simp, .inr ⟨_, hx.1, by simp; omega⟩, ?_⟩
    · obtain ⟨b', off, spot⟩ := a
      obtain ⟨x0, hx0⟩ : ∃ x, ds[0]? = some x := ⟨_, List.getElem?_eq_getElem (by omega)⟩
      have g0 := (has 0 x0 hx0).1.1
      have hspot : spot = none := by simpa [Addr.add] using World.cell?_spot g0
      subst hspot
      refine ⟨b', off, rfl, ?_, fun i x hx' => ?_⟩
      · have := World.block_lt_of_cell? w _ g0
        rwa [Addr.add_lit] at this
      · obtain ⟨q0, q1, q2, q3⟩ := (has i x hx').1
        rw [Addr.add_lit] at q0 q1 q2 q3
        exact ⟨q0, by rw [Nat.add_assoc]; exact q1, by rw [Nat.add_assoc]; exact q2, by rw [Nat.add_assoc]; exact q3⟩
    · intro x hx'
      obtain ⟨i, hi', rfl⟩ := List.getElem_of_mem hx'
      exact (has i _ (List.getElem?_eq_getElem hi')).2.1
    · intro x hx'
      obtain ⟨i, hi', rfl⟩ := List.getElem_of_mem hx'
      rcases (has i _ (List.getElem?_eq_getElem hi')).2.2 with h4 | h4
      · exact .inl h4
      · exact .inr ⟨D i, List.mem_map.2 ⟨i, by simp; omega, rfl⟩, h4⟩
theorem sum_idx {γ : Type} (f : γ → Nat) : ∀ (ds : List γ) (D : Nat → DataW H), (∀ j x, ds[j]? = some x → f x ≤ Rows.uptoBulk (D j)) → (ds.map f).sum ≤ Rows.uptoBulkAll ((List.range ds.length).map D)
  | [], _, _ => by simp
  | x :: ds, D, h => by
    have h1 := sum_idx f ds (fun j => D (j + 1)) (fun j y hy => h (j + 1) y (by simpa using hy))
    have h2 := h 0 x rfl
    rw [List.length_cons, List.range_succ_eq_map, List.map_cons, List.map_cons, List.map_map, List.sum_cons, bulk_cons]
    have h3 : (List.range ds.length).map (D ∘ Nat.succ) = (List.range ds.length).map (fun j => D (j + 1)) := rfl
    rw [h3]; omega
theorem view_deeds3 {t e b : TypeId} {f0 f1 f2 : Field} (ht : P.underlying t = some (.slice e)) (hs : P.underlying e = some (.struct #[f0, f1, f2])) (hone : oneCellFields P #[f0, f1, f2] = true) (hC : P.cellsOf e = 3)
    (h0 : P.underlying f0.type = some (.int .u8)) (h1 : P.underlying f1.type = some (.slice b)) (hb : P.underlying b = some (.int .u8)) (hcb : P.cellsOf b = 1) (hbb : P.bytesOf b = 1) (h2 : P.underlying f2.type = some (.int .i8)) {m : Nat} {cs : List Value}
    (h : DataW.trod enc P w 0 (fun _ => true) true m t cs = some (d, p)) :
    ∃ A n c, ∃ ds : List Deed3, ∃ el : List (DataW H), cs = [.slice A n c] ∧ Deeds3 w A n c ds ∧ el.length = n ∧ ((d = .nil ∧ n = 0 ∧ c = 0) ∨ ∃ sp, d = .slice el sp ∧ sp.length = c - n) ∧
      (∀ a ∈ ds, a.2.1.2.2.1 = 0 ∨ ∃ D ∈ el, a.2.1.2.2.1 ∈ D.weights P e) ∧ (ds.map fun a => a.2.1.2.1).sum ≤ Rows.uptoBulkAll el := by
  rcases open_slice ht h with ⟨rfl, hx⟩ | ⟨a, len, cap, m', n', D, Pl, rfl, hbase, hl, hm, hmm, hx, hi⟩
  · simp only [Prod.mk.injEq] at hx
    exact ⟨none, 0, 0, [], [], rfl, ⟨rfl, fun _ => ⟨rfl, rfl⟩, Nat.le_refl _, Nat.zero_le _, fun h => absurd h (by omega), by simp⟩, rfl, .inl ⟨hx.1, rfl, rfl⟩, by simp, by simp⟩
  · simp only [if_true] at hmm
    simp only [Prod.mk.injEq] at hx
    have key : ∀ j, j < len → ∃ x : Deed3, (w.cell? (a.add (j * 3)) = some (.int .u8 x.1) ∧ w.cell? (a.add (j * 3 + 1)) = some (rowV x.2.1) ∧ w.cell? (a.add (j * 3 + 2)) = some (.int .i8 x.2.2)) ∧
        ((Lit.int .u8 x.1).wf = true ∧ RowOk w x.2.1 ∧ (Lit.int .i8 x.2.2).wf = true) ∧ (x.2.1.2.2.1 = 0 ∨ x.2.1.2.2.1 ∈ (D j).weights P e) ∧ x.2.1.2.1 ≤ Rows.uptoBulk (D j) := by
      intro j hj
      obtain ⟨cs', g1, g2⟩ := hi j (by omega)
      rw [hC] at g1
      obtain ⟨_, hlen, hcell⟩ := World.cells?_some g1
      match cs', hlen with
      | [v0, v1, v2], _ =>
        obtain ⟨y0, y1, y2, k, hy, _, t0, t1, t2⟩ := Go.Deep.trod_struct3 hs g2
        obtain ⟨o0, k0⟩ := hone_of hone 0 f0 rfl
        obtain ⟨o1, k1⟩ := hone_of hone 1 f1 rfl
        obtain ⟨o2, k2⟩ := hone_of hone 2 f2 rfl
        rw [o0, k0] at t0
        rw [o1, k1] at t1
        rw [o2, k2] at t2
        simp only [List.drop_zero, List.take_succ_cons, List.take_zero, List.drop_succ_cons] at t0 t1 t2
        obtain ⟨z0, e0, -, w0⟩ := DataW.trod_int h0 t0
        obtain ⟨A', n2, c', zs, e1, hS', hl', hz', hd'⟩ := view_ints h1 hb hcb t1
        obtain ⟨z2, e2, -, w2⟩ := DataW.trod_int h2 t2
        simp only [List.cons.injEq, and_true] at e0 e1 e2
        subst e0 e1 e2
        obtain ⟨l, hl2⟩ := bytes_of zs hz'
        rw [hl2] at hS'
        have hle := hS'.le
        refine ⟨(z0, (A', n2, c', l), z2), ⟨?_, ?_, ?_⟩, ⟨w0, ⟨hS', ?_⟩, w2⟩, ?_, ?_⟩
        · have q := hcell 0 (by omega); rw [Addr.add_add] at q; exact q
        · have q := hcell 1 (by omega); rw [Addr.add_add] at q; exact q
        · have q := hcell 2 (by omega); rw [Addr.add_add] at q; exact q
        · have := congrArg List.length hl2
          simp at this
          show l.length = n2
          omega
        · show c' = 0 ∨ c' ∈ (D j).weights P e
          rcases hd' with ⟨_, _, h00⟩ | ⟨sp', hy1, hsp'⟩
          · exact .inl h00
          · right
            have hDj : D j = .agg [y0.1, y1.1, y2.1] := by
              have := congrArg Prod.fst hy
              exact this
            rw [hDj]
            simp only [DataW.weights, hs, DataW.weightsEach, List.map_cons, List.map_nil]
            rw [hy1]
            simp [DataW.weights, h1, hl', hsp', hbb]
            right; left
            omega
        · have hDj : D j = .agg [y0.1, y1.1, y2.1] := by
            have := congrArg Prod.fst hy
            exact this
          rw [hDj, bulk_agg, bulk_cons, bulk_cons]
          have h9 := bulk_row hl' hd'
          show n2 ≤ _
          omega
    obtain ⟨ds, hal, has⟩ := choose_idx len key
    refine ⟨some a, len, cap, ds, (List.range len).map D, rfl, ⟨hal, (fun h => by cases h), hl, hm, fun hn => ?_, ?_⟩, by simp, .inr ⟨_, hx.1, by simp; omega⟩, ?_, by have h9 := sum_idx (fun a : Deed3 => a.2.1.2.1) ds D (fun j x hx => (has j x hx).2.2.2); rw [hal] at h9; exact h9⟩
    · obtain ⟨b', off, spot⟩ := a
      obtain ⟨x0, hx0⟩ : ∃ x, ds[0]? = some x := ⟨_, List.getElem?_eq_getElem (by omega)⟩
      have g0 := (has 0 x0 hx0).1.1
      have hspot : spot = none := by simpa [Addr.add] using World.cell?_spot g0
      subst hspot
      refine ⟨b', off, rfl, ?_, fun i x hx' => ?_⟩
      · have := World.block_lt_of_cell? w _ g0
        rwa [Addr.add_lit] at this
      · obtain ⟨q0, q1, q2⟩ := (has i x hx').1
        rw [Addr.add_lit] at q0 q1 q2
        exact ⟨q0, by rw [Nat.add_assoc]; exact q1, by rw [Nat.add_assoc]; exact q2⟩
    · intro x hx'
      obtain ⟨i, hi', rfl⟩ := List.getElem_of_mem hx'
      exact (has i _ (List.getElem?_eq_getElem hi')).2.1
    · intro x hx'
      obtain ⟨i, hi', rfl⟩ := List.getElem_of_mem hx'
      rcases (has i _ (List.getElem?_eq_getElem hi')).2.2.1 with h4 | h4
      · exact .inl h4
      · exact .inr ⟨D i, List.mem_map.2 ⟨i, by simp; omega, rfl⟩, h4⟩
end
end Go.Proofs.YtkdknfedieeenaaGreatDoor
