/- What an argument of records by numbers is (structs of five fields: bytes, two numbers, bytes, a string), read off the own reading of the statement. -/
import Derived.Test.YtpopnlbpeboiiaaDoorView2
import Derived.Test.YtpopnlbpeboiiaaDoorView3
namespace Go.Proofs.YtpopnlbpeboiiaaDoor
open Go.ChangeShapes Go.WideShapes Go.ChangeAt Go.RowKit Go.Deep
set_option linter.unusedVariables false
/-- A record by numbers: name, kind, time, data, text. -/
abbrev ActT := RowT × Int × Int × RowT × ByteArray
/-- They lie one behind the other, five cells each. -/
structure Acts5 (w : World) (A : Option Addr) (n c : Nat) (ds : List ActT) : Prop where
  len : ds.length = n
  none_ : A = none → n = 0 ∧ c = 0
  le : n ≤ c
  max : c ≤ maxLen
  cells : 0 < n → ∃ b off, A = some ⟨b, off, none⟩ ∧ b < w.heap.size ∧ ∀ i a, ds[i]? = some a → w.cell? ⟨b, off + i * 5, none⟩ = some (rowV a.1) ∧ w.cell? ⟨b, off + i * 5 + 1, none⟩ = some (.int .u8 a.2.1) ∧ w.cell? ⟨b, off + i * 5 + 2, none⟩ = some (.int .u32 a.2.2.1) ∧
    w.cell? ⟨b, off + i * 5 + 3, none⟩ = some (rowV a.2.2.2.1) ∧ w.cell? ⟨b, off + i * 5 + 4, none⟩ = some (.string a.2.2.2.2)
  ok : ∀ a ∈ ds, RowOk w a.1 ∧ (Lit.int .u8 a.2.1).wf = true ∧ (Lit.int .u32 a.2.2.1).wf = true ∧ RowOk w a.2.2.2.1 ∧ a.2.2.2.2.size ≤ maxLen
section
variable {H : Type} {enc : TypeId × Value → H} {P : Program} {w : World} {d : DataW H} {p : List MemPlace}
theorem view_acts5 {t e b0 b3 : TypeId} {f0 f1 f2 f3 f4 : Field} (ht : P.underlying t = some (.slice e)) (hs : P.underlying e = some (.struct #[f0, f1, f2, f3, f4])) (hone : oneCellFields P #[f0, f1, f2, f3, f4] = true) (hC : P.cellsOf e = 5)
    (h0 : P.underlying f0.type = some (.slice b0)) (hb0 : P.underlying b0 = some (.int .u8)) (hcb0 : P.cellsOf b0 = 1) (hbb0 : P.bytesOf b0 = 1) (h1 : P.underlying f1.type = some (.int .u8)) (h2 : P.underlying f2.type = some (.int .u32))
    (h3 : P.underlying f3.type = some (.slice b3)) (hb3 : P.underlying b3 = some (.int .u8)) (hcb3 : P.cellsOf b3 = 1) (hbb3 : P.bytesOf b3 = 1) (h4 : P.underlying f4.type = some .string) {m : Nat} {cs : List Value}
    (h : DataW.trod enc P w 0 (fun _ => true) true m t cs = some (d, p)) :
    ∃ A n c, ∃ ds : List ActT, ∃ el : List (DataW H), cs = [.slice A n c] ∧ Acts5 w A n c ds ∧ el.length = n ∧ ((d = .nil ∧ n = 0 ∧ c = 0) ∨ ∃ sp, d = .slice el sp ∧ sp.length = c - n) ∧
      ∀ a ∈ ds, (a.1.2.2.1 = 0 ∨ ∃ D ∈ el, a.1.2.2.1 ∈ D.weights P e) ∧ (a.2.2.2.1.2.2.1 = 0 ∨ ∃ D ∈ el, a.2.2.2.1.2.2.1 ∈ D.weights P e) := by
  rcases open_slice ht h with ⟨rfl, hx⟩ | ⟨a, len, cap, m', n', D, Pl, rfl, hbase, hl, hm, hmm, hx, hi⟩
  · simp only [Prod.mk.injEq] at hx
    exact ⟨none, 0, 0, [], [], rfl, ⟨rfl, fun _ => ⟨rfl, rfl⟩, Nat.le_refl _, Nat.zero_le _, fun h => absurd h (by omega), by simp⟩, rfl, .inl ⟨hx.1, rfl, rfl⟩, by simp⟩
  · simp only [if_true] at hmm
    simp only [Prod.mk.injEq] at hx
    have key : ∀ j, j < len → ∃ x : ActT, (w.cell? (a.add (j * 5)) = some (rowV x.1) ∧ w.cell? (a.add (j * 5 + 1)) = some (.int .u8 x.2.1) ∧ w.cell? (a.add (j * 5 + 2)) = some (.int .u32 x.2.2.1) ∧ w.cell? (a.add (j * 5 + 3)) = some (rowV x.2.2.2.1) ∧ w.cell? (a.add (j * 5 + 4)) = some (.string x.2.2.2.2)) ∧
        (RowOk w x.1 ∧ (Lit.int .u8 x.2.1).wf = true ∧ (Lit.int .u32 x.2.2.1).wf = true ∧ RowOk w x.2.2.2.1 ∧ x.2.2.2.2.size ≤ maxLen) ∧ (x.1.2.2.1 = 0 ∨ x.1.2.2.1 ∈ (D j).weights P e) ∧ (x.2.2.2.1.2.2.1 = 0 ∨ x.2.2.2.1.2.2.1 ∈ (D j).weights P e) := by
      intro j hj
      obtain ⟨cs', g1, g2⟩ := hi j (by omega)
      rw [hC] at g1
      obtain ⟨_, hlen, hcell⟩ := World.cells?_some g1
      match cs', hlen with
      | [v0, v1, v2, v3, v4], _ =>
        obtain ⟨ys, k, _, hy, _, hyl, hf⟩ := DataW.trod_struct hs g2
        match ys, hyl with
        | [y0, y1, y2, y3, y4], _ =>
        have t0 := hf 0 f0 rfl
        have t1 := hf 1 f1 rfl
        have t2 := hf 2 f2 rfl
        have t3 := hf 3 f3 rfl
        have t4 := hf 4 f4 rfl
        obtain ⟨o0, k0⟩ := hone_of hone 0 f0 rfl
        obtain ⟨o1, k1⟩ := hone_of hone 1 f1 rfl
        obtain ⟨o2, k2⟩ := hone_of hone 2 f2 rfl
        obtain ⟨o3, k3⟩ := hone_of hone 3 f3 rfl
        obtain ⟨o4, k4⟩ := hone_of hone 4 f4 rfl
        rw [o0, k0] at t0
        rw [o1, k1] at t1
        rw [o2, k2] at t2
        rw [o3, k3] at t3
        rw [o4, k4] at t4
        simp only [List.drop_zero, List.take_succ_cons, List.take_zero, List.drop_succ_cons, List.getElem?_cons_zero, List.getElem?_cons_succ] at t0 t1 t2 t3 t4
        obtain ⟨A', n2, c', zs, e0, hS', hl', hz', hd'⟩ := view_ints h0 hb0 hcb0 t0
        obtain ⟨z1, e1, -, w1⟩ := DataW.trod_int h1 t1
        obtain ⟨z2, e2, -, w2⟩ := DataW.trod_int h2 t2
        obtain ⟨A3, n3, c3, zs3, e3, hS3, hl3, hz3, hd3⟩ := view_ints h3 hb3 hcb3 t3
        obtain ⟨z4, e4, -, w4⟩ := DataW.trod_string h4 t4
        simp only [List.cons.injEq, and_true] at e0 e1 e2 e3 e4
        subst e0 e1 e2 e3 e4
        obtain ⟨l, hl2⟩ := bytes_of zs hz'
        obtain ⟨l3, hl4⟩ := bytes_of zs3 hz3
        rw [hl2] at hS'
        rw [hl4] at hS3
        have hle := hS'.le
        have hle3 := hS3.le
        have hDj : D j = .agg [y0.1, y1.1, y2.1, y3.1, y4.1] := by
          have := congrArg Prod.fst hy
          simpa using this
        refine ⟨((A', n2, c', l), z1, z2, (A3, n3, c3, l3), z4), ⟨?_, ?_, ?_, ?_, ?_⟩, ⟨⟨hS', ?_⟩, w1, w2, ⟨hS3, ?_⟩, w4⟩, ?_, ?_⟩
        · have q := hcell 0 (by omega); rw [Addr.add_add] at q; exact q
        · have q := hcell 1 (by omega); rw [Addr.add_add] at q; exact q
        · have q := hcell 2 (by omega); rw [Addr.add_add] at q; exact q
        · have q := hcell 3 (by omega); rw [Addr.add_add] at q; exact q
        · have q := hcell 4 (by omega); rw [Addr.add_add] at q; exact q
        · have := congrArg List.length hl2
          simp at this
          show l.length = n2
          omega
        · have := congrArg List.length hl4
          simp at this
          show l3.length = n3
          omega
        · show c' = 0 ∨ c' ∈ (D j).weights P e
          rcases hd' with ⟨_, _, h00⟩ | ⟨sp', hy1, hsp'⟩
          · exact .inl h00
          · right
            rw [hDj]
            simp only [DataW.weights, hs, DataW.weightsEach, List.map_cons, List.map_nil]
            rw [hy1]
            simp [DataW.weights, h0, hl', hsp', hbb0]
            left
            omega
        · show c3 = 0 ∨ c3 ∈ (D j).weights P e
          rcases hd3 with ⟨_, _, h00⟩ | ⟨sp', hy1, hsp'⟩
          · exact .inl h00
          · right
            rw [hDj]
            simp only [DataW.weights, hs, DataW.weightsEach, List.map_cons, List.map_nil]
            rw [hy1]
            simp [DataW.weights, h3, hl3, hsp', hbb3]
            right; right; right; left
            omega
    obtain ⟨ds, hal, has⟩ := choose_idx len key
    refine ⟨some a, len, cap, ds, (List.range len).map D, rfl, ⟨hal, (fun h => by cases h), hl, hm, fun hn => ?_, ?_⟩, by simp, .inr ⟨_, hx.1, by simp; omega⟩, ?_⟩
    · obtain ⟨b', off, spot⟩ := a
      obtain ⟨x0, hx0⟩ : ∃ x, ds[0]? = some x := ⟨_, List.getElem?_eq_getElem (by omega)⟩
      have g0 := (has 0 x0 hx0).1.1
      have hspot : spot = none := by simpa [Addr.add] using World.cell?_spot g0
      subst hspot
      refine ⟨b', off, rfl, ?_, fun i x hx' => ?_⟩
      · have := World.block_lt_of_cell? w _ g0
        rwa [Addr.add_lit] at this
      · obtain ⟨q0, q1, q2, q3, q4⟩ := (has i x hx').1
        rw [Addr.add_lit] at q0 q1 q2 q3 q4
        exact ⟨q0, by rw [Nat.add_assoc]; exact q1, by rw [Nat.add_assoc]; exact q2, by rw [Nat.add_assoc]; exact q3, by rw [Nat.add_assoc]; exact q4⟩
    · intro x hx'
      obtain ⟨i, hi', rfl⟩ := List.getElem_of_mem hx'
      exact (has i _ (List.getElem?_eq_getElem hi')).2.1
    · intro x hx'
      obtain ⟨i, hi', rfl⟩ := List.getElem_of_mem hx'
      obtain ⟨g0, g3⟩ := (has i _ (List.getElem?_eq_getElem hi')).2.2
      have hD : D i ∈ (List.range len).map D := List.mem_map.2 ⟨i, by simp; omega, rfl⟩
      exact ⟨g0.imp id fun q => ⟨D i, hD, q⟩, g3.imp id fun q => ⟨D i, hD, q⟩⟩
end
end Go.Proofs.YtpopnlbpeboiiaaDoor
