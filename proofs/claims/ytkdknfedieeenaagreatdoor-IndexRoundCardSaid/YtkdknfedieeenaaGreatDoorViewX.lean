/- What an argument of deeds of layer 17 is (structs of six fields: two numbers, bytes, a truth, two numbers), read off the own reading of the statement. -/
import Derived.Test.YtkdknfedieeenaaGreatDoorView2
import Derived.Test.YtkdknfedieeenaaGreatDoorView3
namespace Go.Proofs.YtkdknfedieeenaaGreatDoor
open Go.ChangeShapes Go.WideShapes Go.ChangeAt Go.RowKit Go.Deep
set_option linter.unusedVariables false
/-- A deed: two numbers, its bytes' place and they, a truth, two numbers. -/
abbrev DeedX := Int × Int × (Option Addr × Nat × Nat × List Int) × Bool × Int × Int
def rowX (r : Option Addr × Nat × Nat × List Int) : Value := .slice r.1 r.2.1 r.2.2.1
def RowXOk (w : World) (r : Option Addr × Nat × Nat × List Int) : Prop := SlView w r.1 r.2.1 r.2.2.1 (r.2.2.2.map (Value.int .u8)) ∧ r.2.2.2.length = r.2.1 ∧ ∀ z ∈ r.2.2.2, (Lit.int .u8 z).wf = true
/-- They lie one behind the other, six cells each. -/
structure DeedsX (w : World) (A : Option Addr) (n c : Nat) (ds : List DeedX) : Prop where
  len : ds.length = n
  none_ : A = none → n = 0 ∧ c = 0
  le : n ≤ c
  max : c ≤ maxLen
  cells : 0 < n → ∃ b off, A = some ⟨b, off, none⟩ ∧ b < w.heap.size ∧ ∀ i a, ds[i]? = some a → w.cell? ⟨b, off + i * 6, none⟩ = some (.int .u8 a.1) ∧ w.cell? ⟨b, off + i * 6 + 1, none⟩ = some (.int .u8 a.2.1) ∧ w.cell? ⟨b, off + i * 6 + 2, none⟩ = some (rowX a.2.2.1) ∧
    w.cell? ⟨b, off + i * 6 + 3, none⟩ = some (.bool a.2.2.2.1) ∧ w.cell? ⟨b, off + i * 6 + 4, none⟩ = some (.int .u8 a.2.2.2.2.1) ∧ w.cell? ⟨b, off + i * 6 + 5, none⟩ = some (.int .i64 a.2.2.2.2.2)
  ok : ∀ a ∈ ds, (Lit.int .u8 a.1).wf = true ∧ (Lit.int .u8 a.2.1).wf = true ∧ RowXOk w a.2.2.1 ∧ (Lit.int .u8 a.2.2.2.2.1).wf = true ∧ (Lit.int .i64 a.2.2.2.2.2).wf = true
section
variable {H : Type} {enc : TypeId × Value → H} {P : Program} {w : World} {d : DataW H} {p : List MemPlace}
theorem view_deedsX {t e b2 : TypeId} {f0 f1 f2 f3 f4 f5 : Field} (ht : P.underlying t = some (.slice e)) (hs : P.underlying e = some (.struct #[f0, f1, f2, f3, f4, f5])) (hone : oneCellFields P #[f0, f1, f2, f3, f4, f5] = true) (hC : P.cellsOf e = 6)
    (h0 : P.underlying f0.type = some (.int .u8)) (h1 : P.underlying f1.type = some (.int .u8)) (h2 : P.underlying f2.type = some (.slice b2)) (hb2 : P.underlying b2 = some (.int .u8)) (hcb2 : P.cellsOf b2 = 1) (hbb2 : P.bytesOf b2 = 1)
    (h3 : P.underlying f3.type = some .bool) (h4 : P.underlying f4.type = some (.int .u8)) (h5 : P.underlying f5.type = some (.int .i64)) {m : Nat} {cs : List Value}
    (h : DataW.trod enc P w 0 (fun _ => true) true m t cs = some (d, p)) :
    ∃ A n c, ∃ ds : List DeedX, ∃ el : List (DataW H), cs = [.slice A n c] ∧ DeedsX w A n c ds ∧ el.length = n ∧ ((d = .nil ∧ n = 0 ∧ c = 0) ∨ ∃ sp, d = .slice el sp ∧ sp.length = c - n) ∧
      ∀ a ∈ ds, a.2.2.1.2.2.1 = 0 ∨ ∃ D ∈ el, a.2.2.1.2.2.1 ∈ D.weights P e := by
  rcases open_slice ht h with ⟨rfl, hx⟩ | ⟨a, len, cap, m', n', D, Pl, rfl, hbase, hl, hm, hmm, hx, hi⟩
  · simp only [Prod.mk.injEq] at hx
    exact ⟨none, 0, 0, [], [], rfl, ⟨rfl, fun _ => ⟨rfl, rfl⟩, Nat.le_refl _, Nat.zero_le _, fun h => absurd h (by omega), by simp⟩, rfl, .inl ⟨hx.1, rfl, rfl⟩, by simp⟩
  · simp only [if_true] at hmm
    simp only [Prod.mk.injEq] at hx
    have key : ∀ j, j < len → ∃ x : DeedX, (w.cell? (a.add (j * 6)) = some (.int .u8 x.1) ∧ w.cell? (a.add (j * 6 + 1)) = some (.int .u8 x.2.1) ∧ w.cell? (a.add (j * 6 + 2)) = some (rowX x.2.2.1) ∧ w.cell? (a.add (j * 6 + 3)) = some (.bool x.2.2.2.1) ∧
        w.cell? (a.add (j * 6 + 4)) = some (.int .u8 x.2.2.2.2.1) ∧ w.cell? (a.add (j * 6 + 5)) = some (.int .i64 x.2.2.2.2.2)) ∧
        ((Lit.int .u8 x.1).wf = true ∧ (Lit.int .u8 x.2.1).wf = true ∧ RowXOk w x.2.2.1 ∧ (Lit.int .u8 x.2.2.2.2.1).wf = true ∧ (Lit.int .i64 x.2.2.2.2.2).wf = true) ∧ (x.2.2.1.2.2.1 = 0 ∨ x.2.2.1.2.2.1 ∈ (D j).weights P e) := by
      intro j hj
      obtain ⟨cs', g1, g2⟩ := hi j (by omega)
      rw [hC] at g1
      obtain ⟨_, hlen, hcell⟩ := World.cells?_some g1
      match cs', hlen with
      | [v0, v1, v2, v3, v4, v5], _ =>
        obtain ⟨ys, k, _, hy, _, hyl, hf⟩ := DataW.trod_struct hs g2
        match ys, hyl with
        | [y0, y1, y2, y3, y4, y5], _ =>
        have t0 := hf 0 f0 rfl
        have t1 := hf 1 f1 rfl
        have t2 := hf 2 f2 rfl
        have t3 := hf 3 f3 rfl
        have t4 := hf 4 f4 rfl
        have t5 := hf 5 f5 rfl
        obtain ⟨o0, k0⟩ := hone_of hone 0 f0 rfl
        obtain ⟨o1, k1⟩ := hone_of hone 1 f1 rfl
        obtain ⟨o2, k2⟩ := hone_of hone 2 f2 rfl
        obtain ⟨o3, k3⟩ := hone_of hone 3 f3 rfl
        obtain ⟨o4, k4⟩ := hone_of hone 4 f4 rfl
        obtain ⟨o5, k5⟩ := hone_of hone 5 f5 rfl
        rw [o0, k0] at t0
        rw [o1, k1] at t1
        rw [o2, k2] at t2
        rw [o3, k3] at t3
        rw [o4, k4] at t4
        rw [o5, k5] at t5
        simp only [List.drop_zero, List.take_succ_cons, List.take_zero, List.drop_succ_cons, List.getElem?_cons_zero, List.getElem?_cons_succ] at t0 t1 t2 t3 t4 t5
        obtain ⟨z0, e0, -, w0⟩ := DataW.trod_int h0 t0
        obtain ⟨z1, e1, -, w1⟩ := DataW.trod_int h1 t1
        obtain ⟨A2, n2, c2, zs2, e2, hS2, hl2, hz2, hd2⟩ := view_ints h2 hb2 hcb2 t2
        obtain ⟨z3, e3, -⟩ := DataW.trod_bool h3 t3
        obtain ⟨z4, e4, -, w4⟩ := DataW.trod_int h4 t4
        obtain ⟨z5, e5, -, w5⟩ := DataW.trod_int h5 t5
        simp only [List.cons.injEq, and_true] at e0 e1 e2 e3 e4 e5
        subst e0 e1 e2 e3 e4 e5
        have hle := hS2.le
        have hDj : D j = .agg [y0.1, y1.1, y2.1, y3.1, y4.1, y5.1] := by
          have := congrArg Prod.fst hy
          simpa using this
        refine ⟨(z0, z1, (A2, n2, c2, zs2), z3, z4, z5), ⟨?_, ?_, ?_, ?_, ?_, ?_⟩, ⟨w0, w1, ⟨hS2, hl2, hz2⟩, w4, w5⟩, ?_⟩
        · have q := hcell 0 (by omega); rw [Addr.add_add] at q; exact q
        · have q := hcell 1 (by omega); rw [Addr.add_add] at q; exact q
        · have q := hcell 2 (by omega); rw [Addr.add_add] at q; exact q
        · have q := hcell 3 (by omega); rw [Addr.add_add] at q; exact q
        · have q := hcell 4 (by omega); rw [Addr.add_add] at q; exact q
        · have q := hcell 5 (by omega); rw [Addr.add_add] at q; exact q
        · show c2 = 0 ∨ c2 ∈ (D j).weights P e
          rcases hd2 with ⟨_, _, h00⟩ | ⟨sp', hy1, hsp'⟩
          · exact .inl h00
          · right
            rw [hDj]
            simp only [DataW.weights, hs, DataW.weightsEach, List.map_cons, List.map_nil]
            rw [hy1]
            simp [DataW.weights, h2, hl2, hsp', hbb2]
            right; right; left
            omega
    obtain ⟨ds, hal, has⟩ := choose_idx len key
    refine ⟨some a, len, cap, ds, (List.range len).map D, rfl, ⟨hal, (fun h => by cases h), hl, hm, fun hn => ?_, ?_⟩, by simp, .inr ⟨_, hx.1, by simp; omega⟩, ?_⟩
    · obtain ⟨b', off, spot⟩ := a
      obtain ⟨x0, hx0⟩ : ∃ x, ds[0]? = some x := ⟨_, List.getElem?_eq_getElem (by omega)⟩
      have g0 := (has 0 x0 hx0).1.1
      have hspot : spot = none := by simpa [Addr.add] using World.cell?_spot g0
      subst hspot
      refine ⟨b', off, rfl, ?_, fun i x hx' => ?_⟩
      · have := World.block_lt_of_cell? w _ g0
        rwa [Addr.add_lit] at this
      · obtain ⟨q0, q1, q2, q3, q4, q5⟩ := (has i x hx').1
        rw [Addr.add_lit] at q0 q1 q2 q3 q4 q5
        exact ⟨q0, by rw [Nat.add_assoc]; exact q1, by rw [Nat.add_assoc]; exact q2, by rw [Nat.add_assoc]; exact q3, by rw [Nat.add_assoc]; exact q4, by rw [Nat.add_assoc]; exact q5⟩
    · intro x hx'
      obtain ⟨i, hi', rfl⟩ := List.getElem_of_mem hx'
      exact (has i _ (List.getElem?_eq_getElem hi')).2.1
    · intro x hx'
      obtain ⟨i, hi', rfl⟩ := List.getElem_of_mem hx'
      rcases (has i _ (List.getElem?_eq_getElem hi')).2.2 with h0 | h0
      · exact .inl h0
      · exact .inr ⟨D i, List.mem_map.2 ⟨i, List.mem_range.2 (by omega), rfl⟩, h0⟩
end
end Go.Proofs.YtkdknfedieeenaaGreatDoor
