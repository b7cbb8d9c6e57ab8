/- What an argument of deeds of layer 26 is (structs of five fields: two numbers, bytes, two numbers), read off the own reading of the statement. -/
import Derived.Test.YtpopnlbpeboiiaaDoorView2
import Derived.Test.YtpopnlbpeboiiaaDoorView3
namespace Go.Proofs.YtpopnlbpeboiiaaDoor
open Go.ChangeShapes Go.WideShapes Go.ChangeAt Go.RowKit Go.Deep
set_option linter.unusedVariables false
/-- A deed: its kind, its number, its bytes, two numbers. -/
abbrev DeedP := Int × Int × RowT × Int × Int
/-- They lie one behind the other, five cells each. -/
structure DeedsP (w : World) (A : Option Addr) (n c : Nat) (ds : List DeedP) : Prop where
  len : ds.length = n
  none_ : A = none → n = 0 ∧ c = 0
  le : n ≤ c
  max : c ≤ maxLen
  cells : 0 < n → ∃ b off, A = some ⟨b, off, none⟩ ∧ b < w.heap.size ∧ ∀ i a, ds[i]? = some a → w.cell? ⟨b, off + i * 5, none⟩ = some (.int .u8 a.1) ∧ w.cell? ⟨b, off + i * 5 + 1, none⟩ = some (.int .u8 a.2.1) ∧ w.cell? ⟨b, off + i * 5 + 2, none⟩ = some (rowV a.2.2.1) ∧
    w.cell? ⟨b, off + i * 5 + 3, none⟩ = some (.int .u8 a.2.2.2.1) ∧ w.cell? ⟨b, off + i * 5 + 4, none⟩ = some (.int .i8 a.2.2.2.2)
  ok : ∀ a ∈ ds, (Lit.int .u8 a.1).wf = true ∧ (Lit.int .u8 a.2.1).wf = true ∧ RowOk w a.2.2.1 ∧ (Lit.int .u8 a.2.2.2.1).wf = true ∧ (Lit.int .i8 a.2.2.2.2).wf = true
section
variable {H : Type} {enc : TypeId × Value → H} {P : Program} {w : World} {d : DataW H} {p : List MemPlace}
theorem view_deedsP {t e b2 : TypeId} {f0 f1 f2 f3 f4 : Field} (ht : P.underlying t = some (.slice e)) (hs : P.underlying e = some (.struct #[f0, f1, f2, f3, f4])) (hone : oneCellFields P #[f0, f1, f2, f3, f4] = true) (hC : P.cellsOf e = 5)
    (h0 : P.underlying f0.type = some (.int .u8)) (h1 : P.underlying f1.type = some (.int .u8)) (h2 : P.underlying f2.type = some (.slice b2)) (hb2 : P.underlying b2 = some (.int .u8)) (hcb2 : P.cellsOf b2 = 1)
    (h3 : P.underlying f3.type = some (.int .u8)) (h4 : P.underlying f4.type = some (.int .i8)) {m : Nat} {cs : List Value}
    (h : DataW.trod enc P w 0 (fun _ => true) true m t cs = some (d, p)) :
    ∃ A n c, ∃ ds : List DeedP, ∃ el : List (DataW H), cs = [.slice A n c] ∧ DeedsP w A n c ds ∧ el.length = n ∧ ((d = .nil ∧ n = 0 ∧ c = 0) ∨ ∃ sp, d = .slice el sp ∧ sp.length = c - n) := by
  rcases open_slice ht h with ⟨rfl, hx⟩ | ⟨a, len, cap, m', n', D, Pl, rfl, hbase, hl, hm, hmm, hx, hi⟩
  · simp only [Prod.mk.injEq] at hx
    exact ⟨none, 0, 0, [], [], rfl, ⟨rfl, fun _ => ⟨rfl, rfl⟩, Nat.le_refl _, Nat.zero_le _, fun h => absurd h (by omega), by simp⟩, rfl, .inl ⟨hx.1, rfl, rfl⟩⟩
  · simp only [if_true] at hmm
    simp only [Prod.mk.injEq] at hx
    have key : ∀ j, j < len → ∃ x : DeedP, (w.cell? (a.add (j * 5)) = some (.int .u8 x.1) ∧ w.cell? (a.add (j * 5 + 1)) = some (.int .u8 x.2.1) ∧ w.cell? (a.add (j * 5 + 2)) = some (rowV x.2.2.1) ∧ w.cell? (a.add (j * 5 + 3)) = some (.int .u8 x.2.2.2.1) ∧ w.cell? (a.add (j * 5 + 4)) = some (.int .i8 x.2.2.2.2)) ∧
        ((Lit.int .u8 x.1).wf = true ∧ (Lit.int .u8 x.2.1).wf = true ∧ RowOk w x.2.2.1 ∧ (Lit.int .u8 x.2.2.2.1).wf = true ∧ (Lit.int .i8 x.2.2.2.2).wf = true) := by
      intro j hj
      obtain ⟨cs', g1, g2⟩ := hi j (by omega)
      rw [hC] at g1
      obtain ⟨_, hlen, hcell⟩ := World.cells?_some g1
      match cs', hlen with
      | [v0, v1, v2, v3, v4], _ =>
        obtain ⟨ys, k, _, hy, _, hyl, hf⟩ := DataW.trod_struct hs g2
        match ys, hyl with
        | [y0, y1, y2, y3, y4], _ =>
        have t0 := hf 0 f0 rfl
        have t1 := hf 1 f1 rfl
        have t2 := hf 2 f2 rfl
        have t3 := hf 3 f3 rfl
        have t4 := hf 4 f4 rfl
        obtain ⟨o0, k0⟩ := hone_of hone 0 f0 rfl
        obtain ⟨o1, k1⟩ := hone_of hone 1 f1 rfl
        obtain ⟨o2, k2⟩ := hone_of hone 2 f2 rfl
        obtain ⟨o3, k3⟩ := hone_of hone 3 f3 rfl
        obtain ⟨o4, k4⟩ := hone_of hone 4 f4 rfl
        rw [o0, k0] at t0
        rw [o1, k1] at t1
        rw [o2, k2] at t2
        rw [o3, k3] at t3
        rw [o4, k4] at t4
        simp only [List.drop_zero, List.take_succ_cons, List.take_zero, List.drop_succ_cons, List.getElem?_cons_zero, List.getElem?_cons_succ] at t0 t1 t2 t3 t4
        obtain ⟨z0, e0, -, w0⟩ := DataW.trod_int h0 t0
        obtain ⟨z1, e1, -, w1⟩ := DataW.trod_int h1 t1
        obtain ⟨A2, n2, c2, zs2, e2, hS2, hl2, hz2, hd2⟩ := view_ints h2 hb2 hcb2 t2
        obtain ⟨z3, e3, -, w3⟩ := DataW.trod_int h3 t3
        obtain ⟨z4, e4, -, w4⟩ := DataW.trod_int h4 t4
        simp only [List.cons.injEq, and_true] at e0 e1 e2 e3 e4
        subst e0 e1 e2 e3 e4
        obtain ⟨l, hl3⟩ := bytes_of zs2 hz2
        rw [hl3] at hS2
        refine ⟨(z0, z1, (A2, n2, c2, l), z3, z4), ⟨?_, ?_, ?_, ?_, ?_⟩, ⟨w0, w1, ⟨hS2, ?_⟩, w3, w4⟩⟩
        · have q := hcell 0 (by omega); rw [Addr.add_add] at q; exact q
        · have q := hcell 1 (by omega); rw [Addr.add_add] at q; exact q
        · have q := hcell 2 (by omega); rw [Addr.add_add] at q; exact q
        · have q := hcell 3 (by omega); rw [Addr.add_add] at q; exact q
        · have q := hcell 4 (by omega); rw [Addr.add_add] at q; exact q
        · have := congrArg List.length hl3
          simp at this
          show l.length = n2
          omega
    obtain ⟨ds, hal, has⟩ := choose_idx len key
    refine ⟨some a, len, cap, ds, (List.range len).map D, rfl, ⟨hal, (fun h => by cases h), hl, hm, fun hn => ?_, ?_⟩, by simp, .inr ⟨_, hx.1, by simp; omega⟩⟩
    · obtain ⟨b', off, spot⟩ := a
      obtain ⟨x0, hx0⟩ : ∃ x, ds[0]? = some x := ⟨_, List.getElem?_eq_getElem (by omega)⟩
      have g0 := (has 0 x0 hx0).1.1
      have hspot : spot = none := by simpa [Addr.add] using World.cell?_spot g0
      subst hspot
      refine ⟨b', off, rfl, ?_, fun i x hx' => ?_⟩
      · have := World.block_lt_of_cell? w _ g0
        rwa [Addr.add_lit] at this
      · obtain ⟨q0, q1, q2, q3, q4⟩ := (has i x hx').1
        rw [Addr.add_lit] at q0 q1 q2 q3 q4
        exact ⟨q0, by rw [Nat.add_assoc]; exact q1, by rw [Nat.add_assoc]; exact q2, by rw [Nat.add_assoc]; exact q3, by rw [Nat.add_assoc]; exact q4⟩
    · intro x hx'
      obtain ⟨i, hi', rfl⟩ := List.getElem_of_mem hx'
      exact (has i _ (List.getElem?_eq_getElem hi')).2
end
end Go.Proofs.YtpopnlbpeboiiaaDoor
