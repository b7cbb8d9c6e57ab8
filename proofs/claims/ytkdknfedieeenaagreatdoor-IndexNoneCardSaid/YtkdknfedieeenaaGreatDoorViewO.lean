/- A parameter that is a trigger, or a prefix: its cells. It speaks of no program. -/
import Derived.Test.YtkdknfedieeenaaGreatDoorView
namespace Go.Proofs.YtkdknfedieeenaaGreatDoor
open Go.ChangeShapes Go.WideShapes Go.ChangeAt Go.RowKit
set_option linter.unusedVariables false
variable {H : Type} {enc : TypeId × Value → H} {P : Program} {w : World}
def spotsO (P : Program) (fs : Array Field) : List (Nat × Nat) := fs.toList.map fun f => (f.offset, P.cellsOf f.type)
theorem open_trig {r : Reach} {b0 : Nat} {t : TypeId} {f0 f1 f2 p0 p1 : Field} {v : Value} {d : DataW H} {p : List MemPlace} (hs : P.underlying t = some (.struct #[f0, f1, f2])) (hsp : spotsO P #[f0, f1, f2] = [(0, 1), (1, 1), (2, 2)]) (hC : P.cellsOf t = 4)
    (u0 : P.underlying f0.type = some (.int .i64)) (u1 : P.underlying f1.type = some .string) (u2 : P.underlying f2.type = some (.struct #[p0, p1])) (hsq : spotsO P #[p0, p1] = [(0, 1), (1, 1)])
    (q0 : P.underlying p0.type = some .string) (q1 : P.underlying p1.type = some (.int .i64)) (hv : Value.okWide P w r b0 t v) (h : DataW.Trod enc P w 0 (fun _ => true) true t v d p) :
    ∃ (k : Int) (n a : ByteArray) (x : Int), v = .agg #[.int .i64 k, .string n, .string a, .int .i64 x] ∧ d = .agg [.lit (.int .i64 k), .lit (.string n.data.toList), .agg [.lit (.string a.data.toList), .lit (.int .i64 x)]] ∧ p = [] ∧ (Lit.int .i64 k).wf = true ∧ n.size ≤ maxLen ∧ a.size ≤ maxLen ∧ (Lit.int .i64 x).wf = true := by
  obtain ⟨cs, rfl, hsz⟩ := okWide_struct hs hv
  rw [hC] at hsz
  obtain ⟨l⟩ := cs
  have hl : l.length = 4 := hsz
  rcases l with _ | ⟨x0, _ | ⟨x1, _ | ⟨x2, _ | ⟨x3, l⟩⟩⟩⟩ <;> simp at hl
  subst hl
  obtain ⟨fuel, hf⟩ := h
  obtain ⟨xs, n, _, hx, _, hlen, hff⟩ := DataW.trod_struct hs hf
  unfold spotsO at hsp hsq
  simp only [List.map_cons, List.map_nil, List.cons.injEq, Prod.mk.injEq, and_true] at hsp hsq
  obtain ⟨⟨o0, c0⟩, ⟨o1, c1⟩, ⟨o2, c2⟩⟩ := hsp
  obtain ⟨⟨po0, pc0⟩, ⟨po1, pc1⟩⟩ := hsq
  match xs, hlen with
  | [y0, y1, y2], _ =>
    have a0 := hff 0 f0 rfl
    have a1 := hff 1 f1 rfl
    have a2 := hff 2 f2 rfl
    rw [o0, c0] at a0
    rw [o1, c1] at a1
    rw [o2, c2] at a2
    simp only [Value.cells, List.drop_zero, List.take_succ_cons, List.take_zero, List.drop_succ_cons, List.getElem?_cons_zero, List.getElem?_cons_succ] at a0 a1 a2
    obtain ⟨zs, n0, _, hz, _, hzl, hzf⟩ := DataW.trod_struct u2 a2
    match zs, hzl with
    | [z0, z1], _ =>
      have b0 := hzf 0 p0 rfl
      have b1 := hzf 1 p1 rfl
      rw [po0, pc0] at b0
      rw [po1, pc1] at b1
      simp only [List.drop_zero, List.take_succ_cons, List.take_zero, List.drop_succ_cons, List.getElem?_cons_zero, List.getElem?_cons_succ] at b0 b1
      obtain ⟨k, e0, g0, w0⟩ := DataW.trod_int u0 a0
      obtain ⟨s, e1, g1, w1⟩ := DataW.trod_string u1 a1
      obtain ⟨s2, e2, g2, w2⟩ := DataW.trod_string q0 b0
      obtain ⟨m, e3, g3, w3⟩ := DataW.trod_int q1 b1
      simp only [List.cons.injEq, and_true] at e0 e1 e2 e3
      subst e0 e1 e2 e3
      subst g0 g1 g2 g3
      simp only [List.map_cons, List.map_nil, List.flatMap_cons, List.flatMap_nil, List.append_nil] at hz
      subst hz
      simp only [List.map_cons, List.map_nil, List.flatMap_cons, List.flatMap_nil, List.append_nil, Prod.mk.injEq] at hx
      obtain ⟨rfl, rfl⟩ := hx
      exact ⟨k, s, s2, m, rfl, rfl, rfl, w0, w1, w2, w3⟩
end Go.Proofs.YtkdknfedieeenaaGreatDoor
