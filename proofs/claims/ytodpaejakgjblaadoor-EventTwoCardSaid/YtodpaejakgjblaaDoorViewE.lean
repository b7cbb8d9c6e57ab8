/- A parameter that is an event, or the numbers of one: its cells. It speaks of no program. -/
import Derived.Test.YtodpaejakgjblaaDoorViewO
namespace Go.Proofs.YtodpaejakgjblaaDoor
open Go.ChangeShapes Go.WideShapes Go.ChangeAt Go.RowKit
set_option linter.unusedVariables false
variable {H : Type} {enc : TypeId × Value → H} {P : Program} {w : World}
theorem open_seven {r : Reach} {b0 : Nat} {t : TypeId} {f0 f1 f2 f3 f4 f5 f6 : Field} {v : Value} {d : DataW H} {p : List MemPlace} (hs : P.underlying t = some (.struct #[f0, f1, f2, f3, f4, f5, f6]))
    (hsp : spotsO P #[f0, f1, f2, f3, f4, f5, f6] = [(0, 1), (1, 1), (2, 1), (3, 1), (4, 1), (5, 4), (9, 1)]) (hC : P.cellsOf t = 10) (hv : Value.okWide P w r b0 t v) (h : DataW.Trod enc P w 0 (fun _ => true) true t v d p) :
    ∃ (c0 c1 c2 c3 c4 c5 c6 c7 c8 c9 : Value) (y0 y1 y2 y3 y4 y5 y6 : DataW H × List MemPlace) (n : Nat), v = .agg #[c0, c1, c2, c3, c4, c5, c6, c7, c8, c9] ∧ d = .agg [y0.1, y1.1, y2.1, y3.1, y4.1, y5.1, y6.1] ∧
      p = y0.2 ++ (y1.2 ++ (y2.2 ++ (y3.2 ++ (y4.2 ++ (y5.2 ++ y6.2))))) ∧ DataW.trod enc P w 0 (fun _ => true) true n f0.type [c0] = some y0 ∧ DataW.trod enc P w 0 (fun _ => true) true n f1.type [c1] = some y1 ∧ DataW.trod enc P w 0 (fun _ => true) true n f2.type [c2] = some y2 ∧
      DataW.trod enc P w 0 (fun _ => true) true n f3.type [c3] = some y3 ∧ DataW.trod enc P w 0 (fun _ => true) true n f4.type [c4] = some y4 ∧ DataW.trod enc P w 0 (fun _ => true) true n f5.type [c5, c6, c7, c8] = some y5 ∧ DataW.trod enc P w 0 (fun _ => true) true n f6.type [c9] = some y6 := by
  obtain ⟨cs, rfl, hsz⟩ := okWide_struct hs hv
  rw [hC] at hsz
  obtain ⟨l⟩ := cs
  have hl : l.length = 10 := hsz
  rcases l with _ | ⟨x0, _ | ⟨x1, _ | ⟨x2, _ | ⟨x3, _ | ⟨x4, _ | ⟨x5, _ | ⟨x6, _ | ⟨x7, _ | ⟨x8, _ | ⟨x9, l⟩⟩⟩⟩⟩⟩⟩⟩⟩⟩ <;> simp at hl
  subst hl
  obtain ⟨fuel, hf⟩ := h
  obtain ⟨xs, n, _, hx, _, hlen, hff⟩ := DataW.trod_struct hs hf
  unfold spotsO at hsp
  simp only [List.map_cons, List.map_nil, List.cons.injEq, Prod.mk.injEq, and_true] at hsp
  obtain ⟨⟨o0, k0⟩, ⟨o1, k1⟩, ⟨o2, k2⟩, ⟨o3, k3⟩, ⟨o4, k4⟩, ⟨o5, k5⟩, ⟨o6, k6⟩⟩ := hsp
  match xs, hlen with
  | [y0, y1, y2, y3, y4, y5, y6], _ =>
    have a0 := hff 0 f0 rfl
    have a1 := hff 1 f1 rfl
    have a2 := hff 2 f2 rfl
    have a3 := hff 3 f3 rfl
    have a4 := hff 4 f4 rfl
    have a5 := hff 5 f5 rfl
    have a6 := hff 6 f6 rfl
    rw [o0, k0] at a0
    rw [o1, k1] at a1
    rw [o2, k2] at a2
    rw [o3, k3] at a3
    rw [o4, k4] at a4
    rw [o5, k5] at a5
    rw [o6, k6] at a6
    simp only [Value.cells, List.drop_zero, List.take_succ_cons, List.take_zero, List.drop_succ_cons, List.getElem?_cons_zero, List.getElem?_cons_succ] at a0 a1 a2 a3 a4 a5 a6
    simp only [List.map_cons, List.map_nil, List.flatMap_cons, List.flatMap_nil, List.append_nil, Prod.mk.injEq] at hx
    obtain ⟨rfl, rfl⟩ := hx
    exact ⟨x0, x1, x2, x3, x4, x5, x6, x7, x8, x9, y0, y1, y2, y3, y4, y5, y6, n, rfl, rfl, rfl, a0, a1, a2, a3, a4, a5, a6⟩
/-- A trigger's four cells within a struct. -/
theorem trig_cells {t : TypeId} {f0 f1 f2 p0 p1 : Field} {c0 c1 c2 c3 : Value} {n : Nat} {y : DataW H × List MemPlace} (hs : P.underlying t = some (.struct #[f0, f1, f2])) (hsp : spotsO P #[f0, f1, f2] = [(0, 1), (1, 1), (2, 2)])
    (u0 : P.underlying f0.type = some (.int .i64)) (u1 : P.underlying f1.type = some .string) (u2 : P.underlying f2.type = some (.struct #[p0, p1])) (hsq : spotsO P #[p0, p1] = [(0, 1), (1, 1)])
    (q0 : P.underlying p0.type = some .string) (q1 : P.underlying p1.type = some (.int .i64)) (h : DataW.trod enc P w 0 (fun _ => true) true n t [c0, c1, c2, c3] = some y) :
    ∃ (k : Int) (s a : ByteArray) (x : Int), (c0 = .int .i64 k ∧ c1 = .string s ∧ c2 = .string a ∧ c3 = .int .i64 x) ∧ y = (.agg [.lit (.int .i64 k), .lit (.string s.data.toList), .agg [.lit (.string a.data.toList), .lit (.int .i64 x)]], []) ∧ (Lit.int .i64 k).wf = true ∧ (Lit.int .i64 x).wf = true := by
  obtain ⟨xs, n, _, hx, _, hlen, hff⟩ := DataW.trod_struct hs h
  unfold spotsO at hsp hsq
  simp only [List.map_cons, List.map_nil, List.cons.injEq, Prod.mk.injEq, and_true] at hsp hsq
  obtain ⟨⟨o0, k0⟩, ⟨o1, k1⟩, ⟨o2, k2⟩⟩ := hsp
  obtain ⟨⟨po0, pc0⟩, ⟨po1, pc1⟩⟩ := hsq
  match xs, hlen with
  | [y0, y1, y2], _ =>
    have a0 := hff 0 f0 rfl
    have a1 := hff 1 f1 rfl
    have a2 := hff 2 f2 rfl
    rw [o0, k0] at a0
    rw [o1, k1] at a1
    rw [o2, k2] at a2
    simp only [List.drop_zero, List.take_succ_cons, List.take_zero, List.drop_succ_cons, List.getElem?_cons_zero, List.getElem?_cons_succ] at a0 a1 a2
    obtain ⟨zs, n0, _, hz, _, hzl, hzf⟩ := DataW.trod_struct u2 a2
    match zs, hzl with
    | [z0, z1], _ =>
      have b0 := hzf 0 p0 rfl
      have b1 := hzf 1 p1 rfl
      rw [po0, pc0] at b0
      rw [po1, pc1] at b1
      simp only [List.drop_zero, List.take_succ_cons, List.take_zero, List.drop_succ_cons, List.getElem?_cons_zero, List.getElem?_cons_succ] at b0 b1
      obtain ⟨k, e0, g0, w0⟩ := DataW.trod_int u0 a0
      obtain ⟨s, e1, g1, w1⟩ := DataW.trod_string u1 a1
      obtain ⟨s2, e2, g2, w2⟩ := DataW.trod_string q0 b0
      obtain ⟨m, e3, g3, w3⟩ := DataW.trod_int q1 b1
      simp only [List.cons.injEq, and_true] at e0 e1 e2 e3
      subst e0 e1 e2 e3
      subst g0 g1 g2 g3
      simp only [List.map_cons, List.map_nil, List.flatMap_cons, List.flatMap_nil, List.append_nil] at hz
      subst hz
      simp only [List.map_cons, List.map_nil, List.flatMap_cons, List.flatMap_nil, List.append_nil] at hx
      subst hx
      exact ⟨k, s, s2, m, ⟨rfl, rfl, rfl, rfl⟩, rfl, w0, w3⟩
/-- Four cells of a struct of four fields of one cell each, within a struct. -/
theorem four_cells {t : TypeId} {f0 f1 f2 f3 : Field} {c0 c1 c2 c3 : Value} {n : Nat} {y : DataW H × List MemPlace} (hs : P.underlying t = some (.struct #[f0, f1, f2, f3])) (hsp : spotsO P #[f0, f1, f2, f3] = [(0, 1), (1, 1), (2, 1), (3, 1)])
    (h : DataW.trod enc P w 0 (fun _ => true) true n t [c0, c1, c2, c3] = some y) :
    ∃ (y0 y1 y2 y3 : DataW H × List MemPlace) (m : Nat), y = (.agg [y0.1, y1.1, y2.1, y3.1], y0.2 ++ (y1.2 ++ (y2.2 ++ y3.2))) ∧ DataW.trod enc P w 0 (fun _ => true) true m f0.type [c0] = some y0 ∧ DataW.trod enc P w 0 (fun _ => true) true m f1.type [c1] = some y1 ∧ DataW.trod enc P w 0 (fun _ => true) true m f2.type [c2] = some y2 ∧
      DataW.trod enc P w 0 (fun _ => true) true m f3.type [c3] = some y3 := by
  obtain ⟨xs, m, _, hx, _, hlen, hff⟩ := DataW.trod_struct hs h
  unfold spotsO at hsp
  simp only [List.map_cons, List.map_nil, List.cons.injEq, Prod.mk.injEq, and_true] at hsp
  obtain ⟨⟨o0, k0⟩, ⟨o1, k1⟩, ⟨o2, k2⟩, ⟨o3, k3⟩⟩ := hsp
  match xs, hlen with
  | [y0, y1, y2, y3], _ =>
    have a0 := hff 0 f0 rfl
    have a1 := hff 1 f1 rfl
    have a2 := hff 2 f2 rfl
    have a3 := hff 3 f3 rfl
    rw [o0, k0] at a0
    rw [o1, k1] at a1
    rw [o2, k2] at a2
    rw [o3, k3] at a3
    simp only [List.drop_zero, List.take_succ_cons, List.take_zero, List.drop_succ_cons, List.getElem?_cons_zero, List.getElem?_cons_succ] at a0 a1 a2 a3
    simp only [List.map_cons, List.map_nil, List.flatMap_cons, List.flatMap_nil, List.append_nil] at hx
    subst hx
    exact ⟨y0, y1, y2, y3, m, rfl, a0, a1, a2, a3⟩
end Go.Proofs.YtodpaejakgjblaaDoor
