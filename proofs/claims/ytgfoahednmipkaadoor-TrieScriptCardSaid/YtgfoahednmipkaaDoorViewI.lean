/- What an argument of structs of numbers is, read off the own reading of the statement. -/
import Derived.Test.YtgfoahednmipkaaDoorView3
namespace Go.Proofs.YtgfoahednmipkaaDoor
open Go.ChangeShapes Go.WideShapes Go.ChangeAt Go.RowKit Go.Deep
set_option linter.unusedVariables false
section
variable {H : Type} {enc : TypeId × Value → H} {P : Program} {w : World} {d : DataW H} {p : List MemPlace}
/-- An element: 3 numbers. -/
abbrev Ints3T := Int × Int × Int
/-- The elements lie one behind the other, 3 cells each. -/
structure Ints3 (k0 k1 k2 : IntKind) (w : World) (A : Option Addr) (n c : Nat) (ds : List Ints3T) : Prop where
  len : ds.length = n
  none_ : A = none → n = 0 ∧ c = 0
  le : n ≤ c
  max : c ≤ maxLen
  cells : 0 < n → ∃ b off, A = some ⟨b, off, none⟩ ∧ b < w.heap.size ∧ ∀ i a, ds[i]? = some a → w.cell? ⟨b, off + i * 3, none⟩ = some (.int k0 a.1) ∧ w.cell? ⟨b, off + i * 3 + 1, none⟩ = some (.int k1 a.2.1) ∧ w.cell? ⟨b, off + i * 3 + 2, none⟩ = some (.int k2 a.2.2)
  ok : ∀ a ∈ ds, (Lit.int k0 a.1).wf = true ∧ (Lit.int k1 a.2.1).wf = true ∧ (Lit.int k2 a.2.2).wf = true
theorem view_ints3 {k0 k1 k2 : IntKind} {t e : TypeId} {f0 f1 f2 : Field} (ht : P.underlying t = some (.slice e)) (hs : P.underlying e = some (.struct #[f0, f1, f2])) (hone : oneCellFields P #[f0, f1, f2] = true) (hC : P.cellsOf e = 3)
    (h0 : P.underlying f0.type = some (.int k0)) (h1 : P.underlying f1.type = some (.int k1)) (h2 : P.underlying f2.type = some (.int k2)) {m : Nat} {cs : List Value}
    (h : DataW.trod enc P w 0 (fun _ => true) true m t cs = some (d, p)) :
    ∃ A n c, ∃ ds : List Ints3T, ∃ el : List (DataW H), cs = [.slice A n c] ∧ Ints3 k0 k1 k2 w A n c ds ∧ el.length = n ∧ ((d = .nil ∧ n = 0 ∧ c = 0) ∨ ∃ sp, d = .slice el sp ∧ sp.length = c - n) := by
  rcases open_slice ht h with ⟨rfl, hx⟩ | ⟨a, len, cap, m', n', D, Pl, rfl, hbase, hl, hm, hmm, hx, hi⟩
  · simp only [Prod.mk.injEq] at hx
    exact ⟨none, 0, 0, [], [], rfl, ⟨rfl, fun _ => ⟨rfl, rfl⟩, Nat.le_refl _, Nat.zero_le _, fun h => absurd h (by omega), by simp⟩, rfl, .inl ⟨hx.1, rfl, rfl⟩⟩
  · simp only [if_true] at hmm
    simp only [Prod.mk.injEq] at hx
    have key : ∀ j, j < len → ∃ x : Ints3T, (w.cell? (a.add (j * 3)) = some (.int k0 x.1) ∧ w.cell? (a.add (j * 3 + 1)) = some (.int k1 x.2.1) ∧ w.cell? (a.add (j * 3 + 2)) = some (.int k2 x.2.2)) ∧
        ((Lit.int k0 x.1).wf = true ∧ (Lit.int k1 x.2.1).wf = true ∧ (Lit.int k2 x.2.2).wf = true) := by
      intro j hj
      obtain ⟨cs', g1, g2⟩ := hi j (by omega)
      rw [hC] at g1
      obtain ⟨_, hlen, hcell⟩ := World.cells?_some g1
      match cs', hlen with
      | [v0, v1, v2], _ =>
        obtain ⟨y0, y1, y2, k, hy, _, t0, t1, t2⟩ := Go.Deep.trod_struct3 hs g2
        obtain ⟨o0, kk0⟩ := hone_of hone 0 f0 rfl
        obtain ⟨o1, kk1⟩ := hone_of hone 1 f1 rfl
        obtain ⟨o2, kk2⟩ := hone_of hone 2 f2 rfl
        rw [o0, kk0] at t0
        rw [o1, kk1] at t1
        rw [o2, kk2] at t2
        simp only [List.drop_zero, List.take_succ_cons, List.take_zero, List.drop_succ_cons] at t0 t1 t2
        obtain ⟨z0, e0, -, w0⟩ := DataW.trod_int h0 t0
        obtain ⟨z1, e1, -, w1⟩ := DataW.trod_int h1 t1
        obtain ⟨z2, e2, -, w2⟩ := DataW.trod_int h2 t2
        simp only [List.cons.injEq, and_true] at e0 e1 e2
        subst e0 e1 e2
        refine ⟨(z0, z1, z2), ⟨?_, ?_, ?_⟩, ⟨w0, w1, w2⟩⟩
        · have q := hcell 0 (by omega); rw [Addr.add_add] at q; exact q
        · have q := hcell 1 (by omega); rw [Addr.add_add] at q; exact q
        · have q := hcell 2 (by omega); rw [Addr.add_add] at q; exact q
    obtain ⟨ds, hal, has⟩ := choose_idx len key
    refine ⟨some a, len, cap, ds, (List.range len).map D, rfl, ⟨hal, (fun h => by cases h), hl, hm, fun hn => ?_, ?_⟩, by simp, .inr ⟨_, hx.1, by simp; omega⟩⟩
    · obtain ⟨b', off, spot⟩ := a
      obtain ⟨x0, hx0⟩ : ∃ x, ds[0]? = some x := ⟨_, List.getElem?_eq_getElem (by omega)⟩
      have g0 := (has 0 x0 hx0).1.1
      have hspot : spot = none := by simpa [Addr.add] using World.cell?_spot g0
      subst hspot
      refine ⟨b', off, rfl, ?_, fun i x hx' => ?_⟩
      · have := World.block_lt_of_cell? w _ g0
        rwa [Addr.add_lit] at this
      · obtain ⟨q0, q1, q2⟩ := (has i x hx').1
        rw [Addr.add_lit] at q0 q1 q2
        exact ⟨q0, by rw [Nat.add_assoc]; exact q1, by rw [Nat.add_assoc]; exact q2⟩
    · intro x hx'
      obtain ⟨i, hi', rfl⟩ := List.getElem_of_mem hx'
      exact (has i _ (List.getElem?_eq_getElem hi')).2
/-- An element: 4 numbers. -/
abbrev Ints4T := Int × Int × Int × Int
/-- The elements lie one behind the other, 4 cells each. -/
structure Ints4 (k0 k1 k2 k3 : IntKind) (w : World) (A : Option Addr) (n c : Nat) (ds : List Ints4T) : Prop where
  len : ds.length = n
  none_ : A = none → n = 0 ∧ c = 0
  le : n ≤ c
  max : c ≤ maxLen
  cells : 0 < n → ∃ b off, A = some ⟨b, off, none⟩ ∧ b < w.heap.size ∧ ∀ i a, ds[i]? = some a → w.cell? ⟨b, off + i * 4, none⟩ = some (.int k0 a.1) ∧ w.cell? ⟨b, off + i * 4 + 1, none⟩ = some (.int k1 a.2.1) ∧ w.cell? ⟨b, off + i * 4 + 2, none⟩ = some (.int k2 a.2.2.1) ∧ w.cell? ⟨b, off + i * 4 + 3, none⟩ = some (.int k3 a.2.2.2)
  ok : ∀ a ∈ ds, (Lit.int k0 a.1).wf = true ∧ (Lit.int k1 a.2.1).wf = true ∧ (Lit.int k2 a.2.2.1).wf = true ∧ (Lit.int k3 a.2.2.2).wf = true
theorem view_ints4 {k0 k1 k2 k3 : IntKind} {t e : TypeId} {f0 f1 f2 f3 : Field} (ht : P.underlying t = some (.slice e)) (hs : P.underlying e = some (.struct #[f0, f1, f2, f3])) (hone : oneCellFields P #[f0, f1, f2, f3] = true) (hC : P.cellsOf e = 4)
    (h0 : P.underlying f0.type = some (.int k0)) (h1 : P.underlying f1.type = some (.int k1)) (h2 : P.underlying f2.type = some (.int k2)) (h3 : P.underlying f3.type = some (.int k3)) {m : Nat} {cs : List Value}
    (h : DataW.trod enc P w 0 (fun _ => true) true m t cs = some (d, p)) :
    ∃ A n c, ∃ ds : List Ints4T, ∃ el : List (DataW H), cs = [.slice A n c] ∧ Ints4 k0 k1 k2 k3 w A n c ds ∧ el.length = n ∧ ((d = .nil ∧ n = 0 ∧ c = 0) ∨ ∃ sp, d = .slice el sp ∧ sp.length = c - n) := by
  rcases open_slice ht h with ⟨rfl, hx⟩ | ⟨a, len, cap, m', n', D, Pl, rfl, hbase, hl, hm, hmm, hx, hi⟩
  · simp only [Prod.mk.injEq] at hx
    exact ⟨none, 0, 0, [], [], rfl, ⟨rfl, fun _ => ⟨rfl, rfl⟩, Nat.le_refl _, Nat.zero_le _, fun h => absurd h (by omega), by simp⟩, rfl, .inl ⟨hx.1, rfl, rfl⟩⟩
  · simp only [if_true] at hmm
    simp only [Prod.mk.injEq] at hx
    have key : ∀ j, j < len → ∃ x : Ints4T, (w.cell? (a.add (j * 4)) = some (.int k0 x.1) ∧ w.cell? (a.add (j * 4 + 1)) = some (.int k1 x.2.1) ∧ w.cell? (a.add (j * 4 + 2)) = some (.int k2 x.2.2.1) ∧ w.cell? (a.add (j * 4 + 3)) = some (.int k3 x.2.2.2)) ∧
        ((Lit.int k0 x.1).wf = true ∧ (Lit.int k1 x.2.1).wf = true ∧ (Lit.int k2 x.2.2.1).wf = true ∧ (Lit.int k3 x.2.2.2).wf = true) := by
      intro j hj
      obtain ⟨cs', g1, g2⟩ := hi j (by omega)
      rw [hC] at g1
      obtain ⟨_, hlen, hcell⟩ := World.cells?_some g1
      match cs', hlen with
      | [v0, v1, v2, v3], _ =>
        obtain ⟨y0, y1, y2, y3, k, hy, _, t0, t1, t2, t3⟩ := Joins.trod_struct4 hs g2
        obtain ⟨o0, kk0⟩ := hone_of hone 0 f0 rfl
        obtain ⟨o1, kk1⟩ := hone_of hone 1 f1 rfl
        obtain ⟨o2, kk2⟩ := hone_of hone 2 f2 rfl
        obtain ⟨o3, kk3⟩ := hone_of hone 3 f3 rfl
        rw [o0, kk0] at t0
        rw [o1, kk1] at t1
        rw [o2, kk2] at t2
        rw [o3, kk3] at t3
        simp only [List.drop_zero, List.take_succ_cons, List.take_zero, List.drop_succ_cons] at t0 t1 t2 t3
        obtain ⟨z0, e0, -, w0⟩ := DataW.trod_int h0 t0
        obtain ⟨z1, e1, -, w1⟩ := DataW.trod_int h1 t1
        obtain ⟨z2, e2, -, w2⟩ := DataW.trod_int h2 t2
        obtain ⟨z3, e3, -, w3⟩ := DataW.trod_int h3 t3
        simp only [List.cons.injEq, and_true] at e0 e1 e2 e3
        subst e0 e1 e2 e3
        refine ⟨(z0, z1, z2, z3), ⟨?_, ?_, ?_, ?_⟩, ⟨w0, w1, w2, w3⟩⟩
        · have q := hcell 0 (by omega); rw [Addr.add_add] at q; exact q
        · have q := hcell 1 (by omega); rw [Addr.add_add] at q; exact q
        · have q := hcell 2 (by omega); rw [Addr.add_add] at q; exact q
        · have q := hcell 3 (by omega); rw [Addr.add_add] at q; exact q
    obtain ⟨ds, hal, has⟩ := choose_idx len key
    refine ⟨some a, len, cap, ds, (List.range len).map D, rfl, ⟨hal, (fun h => by cases h), hl, hm, fun hn => ?_, ?_⟩, by simp, .inr ⟨_, hx.1, by simp; omega⟩⟩
    · obtain ⟨b', off, spot⟩ := a
      obtain ⟨x0, hx0⟩ : ∃ x, ds[0]? = some x := ⟨_, List.getElem?_eq_getElem (by omega)⟩
      have g0 := (has 0 x0 hx0).1.1
      have hspot : spot = none := by simpa [Addr.add] using World.cell?_spot g0
      subst hspot
      refine ⟨b', off, rfl, ?_, fun i x hx' => ?_⟩
      · have := World.block_lt_of_cell? w _ g0
        rwa [Addr.add_lit] at this
      · obtain ⟨q0, q1, q2, q3⟩ := (has i x hx').1
        rw [Addr.add_lit] at q0 q1 q2 q3
        exact ⟨q0, by rw [Nat.add_assoc]; exact q1, by rw [Nat.add_assoc]; exact q2, by rw [Nat.add_assoc]; exact q3⟩
    · intro x hx'
      obtain ⟨i, hi', rfl⟩ := List.getElem_of_mem hx'
      exact (has i _ (List.getElem?_eq_getElem hi')).2
end
end Go.Proofs.YtgfoahednmipkaaDoor
