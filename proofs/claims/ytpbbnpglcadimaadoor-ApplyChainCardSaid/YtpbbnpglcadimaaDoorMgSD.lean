/- Texts that walks stand on, one behind the other. -/
import Derived.Test.YtpbbnpglcadimaaDoorRecB
import Derived.Test.YtpbbnpglcadimaaDoorMgSA
import Derived.Test.YtpbbnpglcadimaaDoorMgSC
import Derived.Test.YtpbbnpglcadimaaDoorReg8
import Derived.Test.YtpbbnpglcadimaaDoorObw
import Derived.Outline
import Derived.Test.YtpbbnpglcadimaaDoorMgSB
namespace Go.Proofs.YtpbbnpglcadimaaDoor
open Go.ChangeShapes Go.WideShapes Go.ChangeAt Go.RowKit Go.Deep
set_option linter.unusedVariables false
set_option linter.unusedSimpArgs false
theorem flatR_at : ∀ (rs : List RecT) (j : Nat) (u : Value), (flatR rs)[j]? = some u → ∃ r, rs[j / 4]? = some r ∧ (recCells r)[j % 4]? = some u
  | [], j, u, h => by simp [flatR] at h
  | q :: rs, j, u, h => by
    have e : flatR (q :: rs) = recCells q ++ flatR rs := rfl
    have l : (recCells q).length = 4 := rfl
    rw [e] at h
    by_cases hj : j < 4
    · rw [List.getElem?_append_left (by omega)] at h
      exact ⟨q, by rw [Nat.div_eq_of_lt hj]; rfl, by rw [Nat.mod_eq_of_lt hj]; exact h⟩
    · rw [List.getElem?_append_right (by omega), l] at h
      obtain ⟨r, h1, h2⟩ := flatR_at rs (j - 4) u h
      have e1 : j / 4 = (j - 4) / 4 + 1 := by omega
      have e2 : j % 4 = (j - 4) % 4 := by omega
      exact ⟨r, by rw [e1]; simpa using h1, by rw [e2]; exact h2⟩
/-- Records lie as cells. -/
theorem Recs.sl {w : World} {A : Option Addr} {rs : List RecT} (h : Recs w A rs) : Sl w w.heap.size 4 A rs.length (flatR rs) := by
  refine ⟨flatR_len rs, fun hn => ?_⟩
  obtain ⟨b, off, rfl, hb, -⟩ := h 0 (rs[0]'hn) (List.getElem?_eq_getElem hn)
  refine ⟨b, off, rfl, hb, fun j u hu => ?_⟩
  obtain ⟨r, h1, h2⟩ := flatR_at rs j u hu
  obtain ⟨b', off', e, -, g0, g1, g2, g3⟩ := h _ r h1
  injection e with e; injection e with e1 e2 e3; subst e1 e2
  have hm := Nat.mod_lt j (show 0 < 4 by omega)
  have hj : j = j / 4 * 4 + j % 4 := by omega
  generalize j % 4 = m at *
  generalize j / 4 = d at *
  subst hj
  rcases (by omega : m = 0 ∨ m = 1 ∨ m = 2 ∨ m = 3) with rfl | rfl | rfl | rfl <;> (unfold recCells at h2; simp at h2; subst h2)
  · exact g0
  · exact g1
  · exact g2
  · exact g3
/-- An argument of records. -/
structure RecsV (w : World) (A : Option Addr) (n c : Nat) (rs : List RecT) : Prop where
  len : rs.length = n
  none_ : A = none → n = 0 ∧ c = 0
  le : n ≤ c
  max : c ≤ maxLen
  recs : Recs w A rs
  ok : ∀ r ∈ rs, r.1.size ≤ maxLen ∧ (Lit.int .u16 r.2.1).wf = true ∧ (Lit.int .u32 r.2.2.1).wf = true ∧ r.2.2.2.size ≤ maxLen
/-- A message: number, flags, code; the name and the type that are asked for; three rows of records; the size. -/
structure MsgT where
  id : Int
  reply : Bool
  op : Int
  auth : Bool
  trunc : Bool
  want : Bool
  avail : Bool
  code : Int
  qn : ByteArray
  qt : Int
  A1 : Option Addr
  n1 : Nat
  c1 : Nat
  r1 : List RecT
  A2 : Option Addr
  n2 : Nat
  c2 : Nat
  r2 : List RecT
  A3 : Option Addr
  n3 : Nat
  c3 : Nat
  r3 : List RecT
  sz : Int
def MsgT.cells (m : MsgT) : List Value := [.int .u16 m.id, .bool m.reply, .int .i64 m.op, .bool m.auth, .bool m.trunc, .bool m.want, .bool m.avail, .int .i64 m.code, .string m.qn, .int .u16 m.qt, .slice m.A1 m.n1 m.c1, .slice m.A2 m.n2 m.c2, .slice m.A3 m.n3 m.c3, .int .i64 m.sz]
def MsgT.v (m : MsgT) : Value := .agg #[.int .u16 m.id, .bool m.reply, .int .i64 m.op, .bool m.auth, .bool m.trunc, .bool m.want, .bool m.avail, .int .i64 m.code, .string m.qn, .int .u16 m.qt, .slice m.A1 m.n1 m.c1, .slice m.A2 m.n2 m.c2, .slice m.A3 m.n3 m.c3, .int .i64 m.sz]
structure MsgOk (w : World) (m : MsgT) : Prop where
  op : (Lit.int .i64 m.op).wf = true
  code : (Lit.int .i64 m.code).wf = true
  id : (Lit.int .u16 m.id).wf = true
  qt : (Lit.int .u16 m.qt).wf = true
  qn : m.qn.size ≤ maxLen
  sz : (Lit.int .i64 m.sz).wf = true
  r1 : RecsV w m.A1 m.n1 m.c1 m.r1
  r2 : RecsV w m.A2 m.n2 m.c2 m.r2
  r3 : RecsV w m.A3 m.n3 m.c3 m.r3
/-- Where the fields of a struct stand, and how many cells they have. -/
def spotFields (P : Program) (fs : Array Field) : List (Nat × Nat) := fs.toList.map fun f => (f.offset, P.cellsOf f.type)
section
variable {H : Type} {enc : TypeId × Value → H} {P : Program} {w : World} {d : DataW H} {p : List MemPlace}
theorem view_recs4 {t e : TypeId} {f0 f1 f2 f3 : Field} (ht : P.underlying t = some (.slice e)) (hs : P.underlying e = some (.struct #[f0, f1, f2, f3])) (hone : oneCellFields P #[f0, f1, f2, f3] = true) (hC : P.cellsOf e = 4)
    (h0 : P.underlying f0.type = some .string) (h1 : P.underlying f1.type = some (.int .u16)) (h2 : P.underlying f2.type = some (.int .u32)) (h3 : P.underlying f3.type = some .string) {m : Nat} {cs : List Value}
    (h : DataW.trod enc P w 0 (fun _ => true) true m t cs = some (d, p)) :
    ∃ A n c, ∃ rs : List RecT, ∃ el : List (DataW H), cs = [.slice A n c] ∧ RecsV w A n c rs ∧ el.length = n ∧ ((d = .nil ∧ n = 0 ∧ c = 0) ∨ ∃ sp, d = .slice el sp ∧ sp.length = c - n) := by
  rcases open_slice ht h with ⟨rfl, hx⟩ | ⟨a, len, cap, m', n', D, Pl, rfl, hbase, hl, hm, hmm, hx, hi⟩
  · simp only [Prod.mk.injEq] at hx
    exact ⟨none, 0, 0, [], [], rfl, ⟨rfl, fun _ => ⟨rfl, rfl⟩, Nat.le_refl _, Nat.zero_le _, fun i r h => by simp at h, by simp⟩, rfl, .inl ⟨hx.1, rfl, rfl⟩⟩
  · simp only [if_true] at hmm
    simp only [Prod.mk.injEq] at hx
    have key : ∀ j, j < len → ∃ x : RecT, (w.cell? (a.add (j * 4)) = some (.string x.1) ∧ w.cell? (a.add (j * 4 + 1)) = some (.int .u16 x.2.1) ∧ w.cell? (a.add (j * 4 + 2)) = some (.int .u32 x.2.2.1) ∧ w.cell? (a.add (j * 4 + 3)) = some (.string x.2.2.2)) ∧
        (x.1.size ≤ maxLen ∧ (Lit.int .u16 x.2.1).wf = true ∧ (Lit.int .u32 x.2.2.1).wf = true ∧ x.2.2.2.size ≤ maxLen) := by
      intro j hj
      obtain ⟨cs', g1, g2⟩ := hi j (by omega)
      rw [hC] at g1
      obtain ⟨_, hlen, hcell⟩ := World.cells?_some g1
      match cs', hlen with
      | [v0, v1, v2, v3], _ =>
        obtain ⟨y0, y1, y2, y3, k, hy, _, t0, t1, t2, t3⟩ := Joins.trod_struct4 hs g2
        obtain ⟨o0, k0⟩ := hone_of hone 0 f0 rfl
        obtain ⟨o1, k1⟩ := hone_of hone 1 f1 rfl
        obtain ⟨o2, k2⟩ := hone_of hone 2 f2 rfl
        obtain ⟨o3, k3⟩ := hone_of hone 3 f3 rfl
        rw [o0, k0] at t0
        rw [o1, k1] at t1
        rw [o2, k2] at t2
        rw [o3, k3] at t3
        simp only [List.drop_zero, List.take_succ_cons, List.take_zero, List.drop_succ_cons] at t0 t1 t2 t3
        obtain ⟨z0, e0, -, w0⟩ := DataW.trod_string h0 t0
        obtain ⟨z1, e1, -, w1⟩ := DataW.trod_int h1 t1
        obtain ⟨z2, e2, -, w2⟩ := DataW.trod_int h2 t2
        obtain ⟨z3, e3, -, w3⟩ := DataW.trod_string h3 t3
        simp only [List.cons.injEq, and_true] at e0 e1 e2 e3
        subst e0 e1 e2 e3
        refine ⟨(z0, z1, z2, z3), ⟨?_, ?_, ?_, ?_⟩, w0, w1, w2, w3⟩
        · have q := hcell 0 (by omega); rw [Addr.add_add] at q; exact q
        · have q := hcell 1 (by omega); rw [Addr.add_add] at q; exact q
        · have q := hcell 2 (by omega); rw [Addr.add_add] at q; exact q
        · have q := hcell 3 (by omega); rw [Addr.add_add] at q; exact q
    obtain ⟨ds, hal, has⟩ := choose_idx len key
    refine ⟨some a, len, cap, ds, (List.range len).map D, rfl, ⟨hal, (fun h => by cases h), hl, hm, fun i r hr => ?_, ?_⟩, by simp, .inr ⟨_, hx.1, by simp; omega⟩⟩
    · obtain ⟨b', off, spot⟩ := a
      obtain ⟨q0, q1, q2, q3⟩ := (has i r hr).1
      obtain ⟨x0, hx0⟩ : ∃ x, ds[0]? = some x := ⟨_, List.getElem?_eq_getElem (by have := (List.getElem?_eq_some_iff.1 hr).1; omega)⟩
      have g0 := (has 0 x0 hx0).1.1
      have hspot : spot = none := by simpa [Addr.add] using World.cell?_spot g0
      subst hspot
      refine ⟨b', off, rfl, ?_, ?_⟩
      · have := World.block_lt_of_cell? w _ q0
        rwa [Addr.add_lit] at this
      · rw [Addr.add_lit] at q0 q1 q2 q3
        exact ⟨q0, by rw [Nat.add_assoc]; exact q1, by rw [Nat.add_assoc]; exact q2, by rw [Nat.add_assoc]; exact q3⟩
    · intro x hx'
      obtain ⟨i, hi', rfl⟩ := List.getElem_of_mem hx'
      exact (has i _ (List.getElem?_eq_getElem hi')).2
theorem weight_slice {t e : TypeId} (ht : P.underlying t = some (.slice e)) {n c : Nat} (hle : n ≤ c) {el : List (DataW H)} (hl : el.length = n) (h : (d = .nil ∧ n = 0 ∧ c = 0) ∨ ∃ sp, d = .slice el sp ∧ sp.length = c - n) : c = 0 ∨ c * P.bytesOf e ∈ d.weights P t := by
  rcases h with ⟨_, _, h0⟩ | ⟨sp, rfl, hsp⟩
  · exact .inl h0
  · right
    simp [DataW.weights, ht, hl, hsp]
    left
    rw [show n + (c - n) = c by omega]
theorem open_msg {r : Reach} {b0 : Nat} {t te e : TypeId} {f0 f1 f2 f3 f4 f5 g0 g1 g2 g3 g4 g5 g6 g7 q0 q1 k0 k1 k2 k3 : Field} {v : Value}
    (hs : P.underlying t = some (.struct #[f0, f1, f2, f3, f4, f5])) (hsp : spotFields P #[f0, f1, f2, f3, f4, f5] = [(0, 8), (8, 2), (10, 1), (11, 1), (12, 1), (13, 1)]) (hC : P.cellsOf t = 14)
    (hs0 : P.underlying f0.type = some (.struct #[g0, g1, g2, g3, g4, g5, g6, g7])) (hone0 : oneCellFields P #[g0, g1, g2, g3, g4, g5, g6, g7] = true)
    (u0 : P.underlying g0.type = some (.int .u16)) (u1 : P.underlying g1.type = some .bool) (u2 : P.underlying g2.type = some (.int .i64)) (u3 : P.underlying g3.type = some .bool) (u4 : P.underlying g4.type = some .bool) (u5 : P.underlying g5.type = some .bool) (u6 : P.underlying g6.type = some .bool) (u7 : P.underlying g7.type = some (.int .i64))
    (hs1 : P.underlying f1.type = some (.struct #[q0, q1])) (hone1 : oneCellFields P #[q0, q1] = true) (uq0 : P.underlying q0.type = some .string) (uq1 : P.underlying q1.type = some (.int .u16))
    (h2 : f2.type = te) (h3 : f3.type = te) (h4 : f4.type = te) (u5' : P.underlying f5.type = some (.int .i64))
    (ht : P.underlying te = some (.slice e)) (hse : P.underlying e = some (.struct #[k0, k1, k2, k3])) (honee : oneCellFields P #[k0, k1, k2, k3] = true) (hCe : P.cellsOf e = 4)
    (uk0 : P.underlying k0.type = some .string) (uk1 : P.underlying k1.type = some (.int .u16)) (uk2 : P.underlying k2.type = some (.int .u32)) (uk3 : P.underlying k3.type = some .string)
    (hv : Value.okWide P w r b0 t v) (h : DataW.Trod enc P w 0 (fun _ => true) true t v d p) :
    ∃ m : MsgT, v = m.v ∧ MsgOk w m ∧ (m.c1 = 0 ∨ m.c1 * P.bytesOf e ∈ d.weights P t) ∧ (m.c2 = 0 ∨ m.c2 * P.bytesOf e ∈ d.weights P t) ∧ (m.c3 = 0 ∨ m.c3 * P.bytesOf e ∈ d.weights P t) := by
  obtain ⟨cs, rfl, hsz⟩ := okWide_struct hs hv
  rw [hC] at hsz
  obtain ⟨l⟩ := cs
  have hl : l.length = 14 := hsz
  rcases l with _ | ⟨x0, _ | ⟨x1, _ | ⟨x2, _ | ⟨x3, _ | ⟨x4, _ | ⟨x5, _ | ⟨x6, _ | ⟨x7, _ | ⟨x8, _ | ⟨x9, _ | ⟨x10, _ | ⟨x11, _ | ⟨x12, _ | ⟨x13, l⟩⟩⟩⟩⟩⟩⟩⟩⟩⟩⟩⟩⟩⟩ <;> simp at hl
  subst hl
  obtain ⟨fuel, hf⟩ := h
  obtain ⟨xs, n, _, hx, _, hlen, hff⟩ := DataW.trod_struct hs hf
  unfold spotFields at hsp
  simp only [List.map_cons, List.map_nil, List.cons.injEq, Prod.mk.injEq, and_true] at hsp
  obtain ⟨⟨o0, c0⟩, ⟨o1, c1⟩, ⟨o2, c2⟩, ⟨o3, c3⟩, ⟨o4, c4⟩, ⟨o5, c5⟩⟩ := hsp
  match xs, hlen with
  | [y0, y1, y2, y3, y4, y5], _ =>
    have a0 := hff 0 f0 rfl
    have a1 := hff 1 f1 rfl
    have a2 := hff 2 f2 rfl
    have a3 := hff 3 f3 rfl
    have a4 := hff 4 f4 rfl
    have a5 := hff 5 f5 rfl
    rw [o0, c0] at a0
    rw [o1, c1] at a1
    rw [o2, c2, h2] at a2
    rw [o3, c3, h3] at a3
    rw [o4, c4, h4] at a4
    rw [o5, c5] at a5
    simp only [Value.cells, List.drop_zero, List.take_succ_cons, List.take_zero, List.drop_succ_cons, List.getElem?_cons_zero, List.getElem?_cons_succ] at a0 a1 a2 a3 a4 a5
    obtain ⟨zs, n0, _, hz, _, hzl, hzf⟩ := DataW.trod_struct hs0 a0
    match zs, hzl with
    | [z0, z1, z2, z3, z4, z5, z6, z7], _ =>
      have b0 := hzf 0 g0 rfl
      have b1 := hzf 1 g1 rfl
      have b2 := hzf 2 g2 rfl
      have b3 := hzf 3 g3 rfl
      have b4 := hzf 4 g4 rfl
      have b5 := hzf 5 g5 rfl
      have b6 := hzf 6 g6 rfl
      have b7 := hzf 7 g7 rfl
      rw [(hone_of hone0 0 g0 rfl).1, (hone_of hone0 0 g0 rfl).2] at b0
      rw [(hone_of hone0 1 g1 rfl).1, (hone_of hone0 1 g1 rfl).2] at b1
      rw [(hone_of hone0 2 g2 rfl).1, (hone_of hone0 2 g2 rfl).2] at b2
      rw [(hone_of hone0 3 g3 rfl).1, (hone_of hone0 3 g3 rfl).2] at b3
      rw [(hone_of hone0 4 g4 rfl).1, (hone_of hone0 4 g4 rfl).2] at b4
      rw [(hone_of hone0 5 g5 rfl).1, (hone_of hone0 5 g5 rfl).2] at b5
      rw [(hone_of hone0 6 g6 rfl).1, (hone_of hone0 6 g6 rfl).2] at b6
      rw [(hone_of hone0 7 g7 rfl).1, (hone_of hone0 7 g7 rfl).2] at b7
      simp only [List.drop_zero, List.take_succ_cons, List.take_zero, List.drop_succ_cons, List.getElem?_cons_zero, List.getElem?_cons_succ] at b0 b1 b2 b3 b4 b5 b6 b7
      obtain ⟨qs, n1, _, hq, _, hql, hqf⟩ := DataW.trod_struct hs1 a1
      match qs, hql with
      | [p0, p1], _ =>
        have d0 := hqf 0 q0 rfl
        have d1 := hqf 1 q1 rfl
        rw [(hone_of hone1 0 q0 rfl).1, (hone_of hone1 0 q0 rfl).2] at d0
        rw [(hone_of hone1 1 q1 rfl).1, (hone_of hone1 1 q1 rfl).2] at d1
        simp only [List.drop_zero, List.take_succ_cons, List.take_zero, List.drop_succ_cons, List.getElem?_cons_zero, List.getElem?_cons_succ] at d0 d1
        obtain ⟨v0, e0, -, w0⟩ := DataW.trod_int u0 b0
        obtain ⟨v1, e1, -⟩ := DataW.trod_bool u1 b1
        obtain ⟨v2, e2, -, w2⟩ := DataW.trod_int u2 b2
        obtain ⟨v3, e3, -⟩ := DataW.trod_bool u3 b3
        obtain ⟨v4, e4, -⟩ := DataW.trod_bool u4 b4
        obtain ⟨v5, e5, -⟩ := DataW.trod_bool u5 b5
        obtain ⟨v6, e6, -⟩ := DataW.trod_bool u6 b6
        obtain ⟨v7, e7, -, w7⟩ := DataW.trod_int u7 b7
        obtain ⟨v8, e8, -, w8⟩ := DataW.trod_string uq0 d0
        obtain ⟨v9, e9, -, w9⟩ := DataW.trod_int uq1 d1
        obtain ⟨v13, e13, -, w13⟩ := DataW.trod_int u5' a5
        obtain ⟨y2a, y2b⟩ := y2
        obtain ⟨y3a, y3b⟩ := y3
        obtain ⟨y4a, y4b⟩ := y4
        obtain ⟨A1, n1, c1, r1, el1, e10, V1, L1, D1⟩ := view_recs4 ht hse honee hCe uk0 uk1 uk2 uk3 a2
        obtain ⟨A2, n2, c2, r2, el2, e11, V2, L2, D2⟩ := view_recs4 ht hse honee hCe uk0 uk1 uk2 uk3 a3
        obtain ⟨A3, n3, c3, r3, el3, e12, V3, L3, D3⟩ := view_recs4 ht hse honee hCe uk0 uk1 uk2 uk3 a4
        simp only [List.cons.injEq, and_true] at e0 e1 e2 e3 e4 e5 e6 e7 e8 e9 e10 e11 e12 e13
        subst e0 e1 e2 e3 e4 e5 e6 e7 e8 e9 e10 e11 e12 e13
        have g1 := weight_slice ht V1.le L1 D1
        have g2 := weight_slice ht V2.le L2 D2
        have g3 := weight_slice ht V3.le L3 D3
        obtain rfl : d = .agg [y0.1, y1.1, y2a, y3a, y4a, y5.1] := by have := congrArg Prod.fst hx; simpa using this
        refine ⟨⟨v0, v1, v2, v3, v4, v5, v6, v7, v8, v9, A1, n1, c1, r1, A2, n2, c2, r2, A3, n3, c3, r3, v13⟩, rfl, ⟨w2, w7, w0, w9, w8, w13, V1, V2, V3⟩, g1.imp id fun q => ?_, g2.imp id fun q => ?_, g3.imp id fun q => ?_⟩ <;>
          (simp only [DataW.weights, hs, DataW.weightsEach, List.map_cons, List.map_nil, h2, h3, h4, List.mem_append, Array.toList, List.toArray]; simp [q])
end
end Go.Proofs.YtpbbnpglcadimaaDoor
namespace Go.Proofs.YtpbbnpglcadimaaDoor
open Go.RowKit
set_option linter.unusedVariables false
section
variable {P : Program} {ops : Array Oper} {Q : Exit → Act → World → Prop}
/-- The block of a slice or of a pointer. -/
def blkV : Value → Option Nat
  | .slice (some a) _ _ => some a.block
  | .pointer (some a) => some a.block
  | _ => none
/-- As Next; an operation that is named fresh gives a block that is new, or none. -/
def NextM (A : Act) (d : Option Tmp) (p : Value → World → Prop) (R : World → Prop) (L : List Nat) (i : Nat) (w : World) (a' : Act) (w' : World) : Prop :=
  ∃ v, a' = A.put d v ∧ p v w' ∧ R w' ∧ Goes w w' ∧ (L.contains i = true → ∀ k, blkV v = some k → w.heap.size ≤ k ∧ k < w'.heap.size)
theorem nextM {A a' : Act} {d : Option Tmp} {p : Value → World → Prop} {R : World → Prop} {L : List Nat} {i : Nat} {w w' : World} (v : Value) (ha : a' = A.put d v) (hp : p v w') (hR : R w') (he : Goes w w') (hL : L.contains i = false := by rfl) : NextM A d p R L i w a' w' :=
  ⟨v, ha, hp, hR, he, fun h => by rw [hL] at h; cases h⟩
theorem nextM_own {A a' : Act} {d : Option Tmp} {p : Value → World → Prop} {R : World → Prop} {L : List Nat} {i : Nat} {w w' : World} (v : Value) (ha : a' = A.put d v) (hp : p v w') (hR : R w') (he : Goes w w') (hk : ∀ k, blkV v = some k → w.heap.size ≤ k ∧ k < w'.heap.size) : NextM A d p R L i w a' w' :=
  ⟨v, ha, hp, hR, he, fun _ => hk⟩
theorem nextM_new {A a' : Act} {d : Option Tmp} {p : Value → World → Prop} {R : World → Prop} {L : List Nat} {i : Nat} {w : World} (o : Obj) (ha : a' = A.put d (.pointer (some ⟨w.heap.size, 0, none⟩))) (hp : p (.pointer (some ⟨w.heap.size, 0, none⟩)) (w.alloc o)) (hR : R (w.alloc o)) : NextM A d p R L i w a' (w.alloc o) :=
  ⟨_, ha, hp, hR, (Below.refl _ _).alloc (Nat.le_refl _) _, fun _ k hk => by injection hk with hk; subst hk; simp⟩
def OpStepM (P : Program) (ops : Array Oper) (Q : Exit → Act → World → Prop) (Ws : List (Value → World → Prop)) (R : World → Prop) (L : List Nat) (FF : (Nat → Value) → Act) (i : Nat) (o : Oper) : Prop :=
  ∀ (x : Nat → Value) (w : World), R w → Deps (wordOf Ws) x w o.after.toList → (wantedX o x = true → Oper.wp P o (FF x) w (NextM (FF x) o.dst (wordOf Ws i) R L i w) Q) ∧ (wantedX o x = false → wordOf Ws i undef w ∧ L.contains i = false)
def OpStepsM (P : Program) (ops : Array Oper) (Q : Exit → Act → World → Prop) (Ws : List (Value → World → Prop)) (R : World → Prop) (L : List Nat) (FF : (Nat → Value) → Act) (skip : Nat → Bool) : Nat → List Oper → Prop
  | _, [] => True
  | i, o :: os => (skip i = false → OpStepM P ops Q Ws R L FF i o) ∧ OpStepsM P ops Q Ws R L FF skip (i + 1) os
theorem OpStepsM.get {Ws : List (Value → World → Prop)} {R : World → Prop} {L : List Nat} {FF : (Nat → Value) → Act} {skip : Nat → Bool} : ∀ {l : List Oper} {k : Nat}, OpStepsM P ops Q Ws R L FF skip k l → ∀ i o, l[i]? = some o → skip (k + i) = false → OpStepM P ops Q Ws R L FF (k + i) o
  | [], _, _, i, o, h, _ => by simp at h
  | p :: l, k, hs, 0, o, h, hk => by simp at h; subst h; exact hs.1 hk
  | p :: l, k, hs, i + 1, o, h, hk => by
    have := OpStepsM.get hs.2 i o (by simpa using h) (by rwa [show k + 1 + i = k + (i + 1) by omega])
    rwa [show k + 1 + i = k + (i + 1) by omega] at this
/-- The blocks that are named fresh are there, and no two of them the same. -/
def ApartM (L : List Nat) (d : Nat → Bool) (x : Nat → Value) (w : World) : Prop :=
  (∀ i ∈ L, d i = true → ∀ k, blkV (x i) = some k → k < w.heap.size) ∧ ∀ i ∈ L, ∀ j ∈ L, i ≠ j → d i = true → d j = true → ∀ k, blkV (x i) = some k → blkV (x j) ≠ some k
theorem ApartM.next {L : List Nat} {d : Nat → Bool} {x : Nat → Value} {w w' : World} {i : Nat} {v : Value} (h : ApartM L d x w) (hd : d i = false) (hs : w.heap.size ≤ w'.heap.size) (hv : L.contains i = true → ∀ k, blkV v = some k → w.heap.size ≤ k ∧ k < w'.heap.size) :
    ApartM L (setD d i) (fun j => if j = i then v else x j) w' := by
  refine ⟨fun j hj hdj k hk => ?_, fun j hj k hk hjk hdj hdk b hb => ?_⟩
  · by_cases hji : j = i
    · subst hji
      simp only [if_true] at hk
      exact (hv (by simpa using hj) k hk).2
    · rw [setD_ne d hji] at hdj
      simp only [hji, if_false] at hk
      have := h.1 j hj hdj k hk
      omega
  · by_cases hji : j = i
    · subst hji
      have hkj : k ≠ j := fun e => hjk e.symm
      rw [setD_ne d hkj] at hdk
      simp only [if_true] at hb
      simp only [hkj, if_false]
      have h1 := (hv (by simpa using hj) b hb).1
      intro e
      have := h.1 k hk hdk b e
      omega
    · rw [setD_ne d hji] at hdj
      simp only [hji, if_false] at hb
      by_cases hki : k = i
      · subst hki
        simp only [if_true]
        intro e
        have h1 := (hv (by simpa using hk) b e).1
        have := h.1 j hj hdj b hb
        omega
      · rw [setD_ne d hki] at hdk
        simp only [hki, if_false]
        exact h.2 j hj k hk hjk hdj hdk b hb
theorem wp_region_tailM {id : Nat} {base : Act} {w0 : World} (hm : P.follows .mixedOrders = true) {FF : (Nat → Value) → Act} (hFF : ∀ x, putsF x 0 (ops.toList.map (·.dst)) base = FF x) (R : World → Prop) (Ws : List (Value → World → Prop)) (N : Nat) (L : List Nat)
    (hn : noTwice (ops.toList.map (·.dst)) = true) (hg : guardsIn ops base.tmps.size = true) (hwf : wellFormed ops = true) (hlen : Ws.length = N) (htl : tailOk ops N = true) (hLN : (L.all fun i => decide (i < N)) = true)
    (stays : AllStay Ws) (start : R w0.drew)
    (steps : OpStepsM P ops Q Ws R L FF (fun i => decide (N ≤ i)) 0 ops.toList)
    (fin : ∀ (x : Nat → Value) (w : World), R w → AllWords Ws x w 0 Ws → (∀ i ∈ L, ∀ j ∈ L, i ≠ j → ∀ k, blkV (x i) = some k → blkV (x j) ≠ some k) → tailWp P Q (ops.toList.drop N) (FF x) w) :
    (Code.region id ops true).wp P Q base w0 := by
  unfold tailOk at htl
  simp only [Bool.and_eq_true, List.all_eq_true, List.mem_range, Bool.or_eq_true, decide_eq_true_eq] at htl
  obtain ⟨⟨⟨t1, t2⟩, t3⟩, t4⟩ := htl
  have hword : ∀ (i : Nat), ∀ v w w', wordOf Ws i v w → Goes w w' → wordOf Ws i v w' := by
    intro i v w w' hw he
    unfold wordOf at hw ⊢
    cases hp : Ws[i]? with
    | none => trivial
    | some p =>
      rw [hp] at hw
      exact stays.mem p (List.mem_of_getElem? hp) _ _ _ hw he
  refine wp_region_joint hm (fun d x w => ClosedX ops d ∧ (((∀ j, N ≤ j → j < ops.size → d j = false) ∧ R w ∧ ApartM L d x w ∧ ∀ i, i < N → d i = true → wordOf Ws i (x i) w) ∨
    (∃ m, N < m ∧ m ≤ ops.size ∧ (∀ i, i < m → d i = true) ∧ (∀ i, m ≤ i → i < ops.size → d i = false) ∧ tailWp P Q (ops.toList.drop m) (FF x) w))) hn hwf ?_ ?_ ?_
  · exact fun x => ⟨fun j o _ h => (by cases h), .inl ⟨fun _ _ _ => rfl, start, ⟨fun _ _ h => (by cases h), fun _ _ _ _ _ h => (by cases h)⟩, by simp⟩⟩
  · rintro i hi d x w ⟨hcl, hJ⟩ hd hdeps
    have hoi : ops[i]? = some ops[i] := Array.getElem?_eq_getElem hi
    have hmem : ops[i] ∈ ops.toList := by simp
    have hsrc : SrcX ops d ops[i] := hdeps
    have hwant : Region.wanted ops[i] (yielded ops (putsF x 0 (ops.toList.map (·.dst)) base).tmps) = wantedX ops[i] x := wanted_eq hn hg ops[i] hmem x
    have hset : (fun j => if j = i then true else d j) = setD d i := rfl
    have hcl2 : ClosedX ops (setD d i) := by
      intro j o hj hdj e he hb
      by_cases hji : j = i
      · subst hji
        rw [hoi] at hj
        obtain rfl := Option.some.inj hj
        exact setD_le d _ _ (hdeps e he hb)
      · rw [setD_ne d hji] at hdj
        exact setD_le d _ _ (hcl j o hj hdj e he hb)
    have hprev : N < i → d (i - 1) = true := by
      intro hNi
      rcases t2 i hi with h | h
      · omega
      · rcases Nat.eq_or_lt_of_le (Nat.sub_le i 1) with h1 | h1
        · omega
        · exact hsrc.reach (K := i) hcl hoi 19 (i - 1) (by omega) h
    have hput : ∀ v, FF (fun j => if j = i then v else x j) = (FF x).put (ops[i]).dst v := by
      intro v
      have := putsF_set x (ops.toList.map (·.dst)) 0 i base (ops[i]).dst v hn (by simp [hi])
      rw [Nat.zero_add] at this
      rw [← hFF, ← hFF, this]
    have hdrop : ops.toList.drop i = ops[i] :: ops.toList.drop (i + 1) := by
      rw [List.drop_eq_getElem_cons (by simpa using hi)]
      simp
    -- an operation of the tail
    have run : N ≤ i → (∀ j, j < i → d j = true) → (∀ j, i ≤ j → j < ops.size → d j = false) → tailWp P Q (ops.toList.drop i) (FF x) w →
        if Region.wanted ops[i] (yielded ops (putsF x 0 (ops.toList.map (·.dst)) base).tmps) = true
        then Oper.wp P ops[i] (putsF x 0 (ops.toList.map (·.dst)) base) w (fun a' w' => ∃ v, a' = (putsF x 0 (ops.toList.map (·.dst)) base).put (ops[i]).dst v ∧ (ClosedX ops (fun j => if j = i then true else d j) ∧ (((∀ j, N ≤ j → j < ops.size → (fun j => if j = i then true else d j) j = false) ∧ R w' ∧ ApartM L (fun j => if j = i then true else d j) (fun j => if j = i then v else x j) w' ∧ ∀ k, k < N → (fun j => if j = i then true else d j) k = true → wordOf Ws k ((fun j => if j = i then v else x j) k) w') ∨
          (∃ m, N < m ∧ m ≤ ops.size ∧ (∀ k, k < m → (fun j => if j = i then true else d j) k = true) ∧ (∀ k, m ≤ k → k < ops.size → (fun j => if j = i then true else d j) k = false) ∧ tailWp P Q (ops.toList.drop m) (FF (fun j => if j = i then v else x j)) w')))) Q
        else (ClosedX ops (fun j => if j = i then true else d j) ∧ (((∀ j, N ≤ j → j < ops.size → (fun j => if j = i then true else d j) j = false) ∧ R w ∧ ApartM L (fun j => if j = i then true else d j) (fun j => if j = i then undef else x j) w ∧ ∀ k, k < N → (fun j => if j = i then true else d j) k = true → wordOf Ws k ((fun j => if j = i then undef else x j) k) w) ∨
          (∃ m, N < m ∧ m ≤ ops.size ∧ (∀ k, k < m → (fun j => if j = i then true else d j) k = true) ∧ (∀ k, m ≤ k → k < ops.size → (fun j => if j = i then true else d j) k = false) ∧ tailWp P Q (ops.toList.drop m) (FF (fun j => if j = i then undef else x j)) w))) := by
      intro hNi hbefore hbehind htw
      have hgn : (ops[i]).guard = none := by
        have := t3 ops[i] (by
          rw [List.mem_iff_getElem?]
          exact ⟨i - N, by rw [List.getElem?_drop, show N + (i - N) = i by omega]; simp [hi]⟩)
        simpa using this
      have hwt : Region.wanted ops[i] (yielded ops (putsF x 0 (ops.toList.map (·.dst)) base).tmps) = true := by unfold Region.wanted; rw [hgn]
      rw [if_pos hwt, hFF x]
      rw [hdrop] at htw
      unfold tailWp at htw
      refine Oper.wp_mono ?_ htw
      rintro a' w' ⟨v, rfl, ht⟩
      refine ⟨v, rfl, hcl2, .inr ⟨i + 1, by omega, by omega, fun k hk => ?_, fun k hk hks => ?_, ?_⟩⟩
      · by_cases hki : k = i
        · simp [hki]
        · simp [hki, hbefore k (by omega)]
      · simp [show k ≠ i by omega, hbehind k (by omega) hks]
      · rw [hput v]; exact ht
    rcases hJ with ⟨hno, hR, hAp, hw⟩ | ⟨m, hNm, hms, hyes, hno, htw⟩
    · rcases Nat.lt_or_ge i N with hiN | hiN
      · have hs := OpStepsM.get steps i ops[i] (by simp [hi]) (by simp; omega)
        rw [Nat.zero_add] at hs
        have hD : Deps (wordOf Ws) x w (ops[i]).after.toList := Deps.of (fun e he hb => by
          have hdon := hdeps e he hb
          have hlt : e.on < i := by
            unfold wellFormed at hwf
            rw [List.all_eq_true] at hwf
            have := hwf (ops[i], i) (by rw [List.mem_zipIdx_iff_getElem?]; simp [hi])
            simp only [Array.all_eq_true'] at this
            have := this e (by simpa using he)
            simpa [hb] using this
          exact hw _ (by omega) hdon)
        have := hs x w hR hD
        have put : ∀ v w', wordOf Ws i v w' → Goes w w' → ∀ j, j < N → setD d i j = true → wordOf Ws j (if j = i then v else x j) w' := by
          intro v w' hv he j hj hdj
          by_cases hji : j = i
          · subst hji; simpa using hv
          · rw [setD_ne d hji] at hdj
            rw [if_neg hji]
            exact hword j _ _ _ (hw j hj hdj) he
        have keep : ∀ j, N ≤ j → j < ops.size → setD d i j = false := fun j hj hjs => by rw [setD_ne d (by omega)]; exact hno j hj hjs
        rw [hwant, hFF x]
        split
        · rename_i hwt
          refine Oper.wp_mono ?_ (this.1 hwt)
          rintro a' w' ⟨v, rfl, hv, hR', he, hLv⟩
          exact ⟨v, rfl, hcl2, .inl ⟨keep, hR', hAp.next hd he.size hLv, put v w' hv he⟩⟩
        · rename_i hwt
          obtain ⟨h1, h2⟩ := this.2 (by simpa using hwt)
          exact ⟨hcl2, .inl ⟨keep, hR, hAp.next hd (Nat.le_refl _) (fun h => by rw [h2] at h; cases h), put undef w h1 (Below.refl _ _)⟩⟩
      · have hiN' : i = N := by
          rcases Nat.eq_or_lt_of_le hiN with h | h
          · exact h.symm
          · have := hprev h
            rw [hno (i - 1) (by omega) (by omega)] at this; cases this
        subst hiN'
        have hall : ∀ j, j < i → d j = true := fun j hj => hsrc.reach (K := i) hcl hoi 19 j (by omega) (t1 j hj)
        refine run (Nat.le_refl _) hall (fun j hj hjs => hno j hj hjs) (fin x w hR (allWords_of Ws 0 (fun j _ => by simp) (fun j hj => hw j (by omega) (hall j (by omega)))) (fun p hp q hq hpq => hAp.2 p hp q hq hpq (hall p (by rw [List.all_eq_true] at hLN; simpa using hLN p hp)) (hall q (by rw [List.all_eq_true] at hLN; simpa using hLN q hq))))
    · have him : i = m := by
        rcases Nat.lt_or_ge i m with h | h
        · rw [hyes i h] at hd; cases hd
        · rcases Nat.eq_or_lt_of_le h with h | h
          · exact h.symm
          · have := hprev (by omega)
            rw [hno (i - 1) (by omega) (by omega)] at this; cases this
      subst him
      exact run (by omega) hyes hno htw
  · rintro d x w hall ⟨hcl, hJ⟩
    rw [hFF x]
    rcases hJ with ⟨hno, -, -⟩ | ⟨m, hNm, hms, hyes, hno, htw⟩
    · have := hno N (Nat.le_refl _) t4
      rw [hall N t4] at this; cases this
    · have : m = ops.size := by
        rcases Nat.eq_or_lt_of_le hms with h | h
        · exact h
        · have := hno m (Nat.le_refl _) h
          rw [hall m h] at this; cases this
      subst this
      rw [List.drop_of_length_le (by simp)] at htw
      exact htw
end
end Go.Proofs.YtpbbnpglcadimaaDoor
namespace Go.Proofs.YtpbbnpglcadimaaDoor
open Go.RowKit
set_option linter.unusedVariables false
set_option linter.unusedSimpArgs false
set_option maxRecDepth 20000
attribute [local simp] putsF isV wordOf Deps Region.binds Region.wanted Act.put wantedX isB
theorem results_cellD {fn : Func} {p u v : Tmp} {ty : TypeId} (h : fn.results = #[.cell p ty, .tmp u, .tmp v]) (tmps : Array Value) (P : Program) (w : World) (b o : Nat) (cs : List Value) (d : TypeDesc) (hp : tmps.getD p undef = .pointer (some ⟨b, o, none⟩)) (hc : w.rangeAt b o cs)
    (hu : P.underlying ty = some d) (hd : d.isRow = true) (hi : (P.info? ty).map (·.size) = some cs.length) : (results fn tmps).run P w = .ok (.tuple #[.agg cs.toArray, tmps.getD u undef, tmps.getD v undef]) w := by
  have hp2 : tmps[p]?.getD undef = .pointer (some ⟨b, o, none⟩) := by rw [← hp, Array.getD_eq_getD_getElem?]
  simp only [results, h]
  simp [Sem.run_bind, Result.andThen, hp2, asAddr, run_loadVar_mid w b o ty cs d hc hu hd hi]
/-- The delta that begins at a place: an error, or the place of its second SOA and the one behind it. -/
def deltaR (sf : RecT → Nat) (fr : Nat) (rs : List RecT) (i : Nat) : Nat ⊕ (Nat × Nat) :=
  match rs[i]? with
  | none => .inl 4
  | some r => if soaB r = true then (if sf r = fr then (if rs.length - 1 ≤ nextS rs (i + 1) then .inl 4 else .inr (nextS rs (i + 1), min (nextS rs (nextS rs (i + 1) + 1)) (rs.length - 1))) else .inl 5) else .inl 4
/-- A delta's cells. -/
def delC (f t : RecT) (v1 v2 : Value) : List Value := [.string f.1, .int .u16 f.2.1, .int .u32 f.2.2.1, .string f.2.2.2, .string t.1, .int .u16 t.2.1, .int .u32 t.2.2.1, .string t.2.2.2, v1, v2]
def delZ : List Value := [.string ⟨#[]⟩, .int .u16 0, .int .u32 0, .string ⟨#[]⟩, .string ⟨#[]⟩, .int .u16 0, .int .u32 0, .string ⟨#[]⟩, .slice none 0 0, .slice none 0 0]
theorem nextS_le (rs : List RecT) (i : Nat) (h : i ≤ rs.length) : nextS rs i ≤ rs.length := by
  unfold nextS
  have := (List.takeWhile_sublist (l := rs.drop i) (fun r => !soaB r)).length_le
  rw [List.length_drop] at this
  omega
theorem nextS_ge (rs : List RecT) (i : Nat) : i ≤ nextS rs i := by unfold nextS; omega
theorem wrap_facts9 (T T1 : Nat) (h : T1 = T + 1) (hT : T ≤ 1001) : wrap64 ((T : Int) + 1) = (T1 : Int) ∧ IntKind.i64.wrap ((T : Int) + 1) = (T1 : Int) := by
  refine ⟨by unfold wrap64; omega, by rw [IntKind.wrap_i64]; omega⟩
theorem min_facts9 (U L T1 : Nat) (h1 : T1 ≤ U) (h2 : T1 ≤ L) : ∃ b, b = min U L ∧ T1 ≤ b ∧ b ≤ L ∧ ((U ≤ L ∧ b = U) ∨ (L < U ∧ b = L)) := ⟨_, rfl, by omega, by omega, by omega⟩
theorem del_facts (n c i I1 T T1 L bh : Nat) (h1 : I1 = i + 1) (h2 : T1 = T + 1) (h3 : L = n - 1) (h4 : T1 ≤ L) (h5 : T1 ≤ bh) (h6 : bh ≤ L) (h7 : I1 ≤ T) (h8 : n ≤ c) (h9 : n ≤ 1000) :
    (i : Int) < n ∧ i < n ∧ (T : Int) < n ∧ T < n ∧ (I1 : Int) ≤ T ∧ I1 ≤ T ∧ (T : Int) ≤ c ∧ T ≤ c ∧ ¬ c = I1 ∧ ((T1 : Int) ≤ bh ∧ T1 ≤ bh) ∧ ((bh : Int) ≤ c ∧ bh ≤ c) ∧ ¬ c = T1 ∧ min (T - I1) (n - I1) = T - I1 ∧ min (bh - T1) (n - T1) = bh - T1 ∧ (T - I1 ≤ 1000000000 ∧ bh - T1 ≤ 1000000000) := by omega
theorem blk_obm {sz B : Nat} {W w : World} {v : Value} {n : Nat} {l : List Value} (h : OBM sz B W v n l w) : ∀ k, blkV v = some k → B ≤ k ∧ k < w.heap.size := by
  intro k hk
  refine h.lt k ?_
  rcases h.own with ⟨rfl, -⟩ | ⟨g, cap, rfl, -⟩
  · cases hk
  · exact hk
/-- What holds of the two copies, the box and the value that is put into it, while a delta is built. -/
structure RD (W : World) (mk : Value → Value → Value) (fin : Value → Value → Value → World → Prop) (d : Nat → Bool) (x : Nat → Value) (w : World) : Prop where
  bel : d 22 = false → Below W.heap.size W w
  lt13 : d 22 = false → d 13 = true → ∀ k, blkV (x 13) = some k → k < w.heap.size
  lt19 : d 22 = false → d 19 = true → ∀ k, blkV (x 19) = some k → k < w.heap.size
  lt21 : d 22 = false → d 21 = true → ∀ k, blkV (x 21) = some k → k < w.heap.size
  n13 : d 13 = true → d 21 = true → ∀ k, blkV (x 13) = some k → blkV (x 21) ≠ some k
  n19 : d 19 = true → d 21 = true → ∀ k, blkV (x 19) = some k → blkV (x 21) ≠ some k
  b20 : d 20 = true → d 13 = true ∧ d 19 = true ∧ x 20 = mk (x 13) (x 19)
  all : d 22 = true → ∀ i, i < 22 → d i = true
  f22 : d 22 = true → fin (x 13) (x 19) (x 21) w
theorem own_blk {v : Value} {k : Nat} (h : v.ownBlock = some k) : blkV v = some k := by
  cases v with
  | slice A n c => cases A with
    | none => simp [Value.ownBlock] at h
    | some a => simpa [Value.ownBlock, blkV] using h
  | _ => simp [Value.ownBlock] at h
section
variable {W w w' : World} {mk : Value → Value → Value} {fin : Value → Value → Value → World → Prop} {d : Nat → Bool} {x : Nat → Value}
theorem RD.no22 (h : RD W mk fin d x w) {i : Nat} (hd : d i = false) (hi : i < 22) : d 22 = false := by
  cases e : d 22 with
  | false => rfl
  | true => have := h.all e i hi; rw [hd] at this; cases this
theorem RD.next (h : RD W mk fin d x w) {i : Nat} (hd : d i = false) (he : Goes w w') (v : Value) (hi : i < 13 ∨ (13 < i ∧ i < 19) := by decide) : RD W mk fin (setD d i) (fun j => if j = i then v else x j) w' := by
  have h22 := h.no22 hd (by omega)
  have e : ∀ k, 13 = k ∨ 19 = k ∨ 20 = k ∨ 21 = k ∨ 22 = k → setD d i k = d k ∧ (if k = i then v else x k) = x k := fun k hk => ⟨setD_ne d (by omega), if_neg (by omega)⟩
  have s := he.size
  obtain ⟨p13, q13⟩ := e 13 (by omega)
  obtain ⟨p19, q19⟩ := e 19 (by omega)
  obtain ⟨p20, q20⟩ := e 20 (by omega)
  obtain ⟨p21, q21⟩ := e 21 (by omega)
  obtain ⟨p22, -⟩ := e 22 (by omega)
  constructor
  · exact fun _ => below_trans (h.bel h22) (h.bel h22).size he
  · rw [p13, q13]; exact fun _ hh k hk => Nat.lt_of_lt_of_le (h.lt13 h22 hh k hk) s
  · rw [p19, q19]; exact fun _ hh k hk => Nat.lt_of_lt_of_le (h.lt19 h22 hh k hk) s
  · rw [p21, q21]; exact fun _ hh k hk => Nat.lt_of_lt_of_le (h.lt21 h22 hh k hk) s
  · rw [p13, p21, q13, q21]; exact h.n13
  · rw [p19, p21, q19, q21]; exact h.n19
  · rw [p13, p19, p20, q13, q19, q20]; exact h.b20
  · rw [p22, h22]; intro h; cases h
  · rw [p22, h22]; intro h; cases h
theorem RD.own13 (h : RD W mk fin d x w) (hd : d 13 = false) (he : Goes w w') (v : Value) (hv : ∀ k, blkV v = some k → w.heap.size ≤ k ∧ k < w'.heap.size) : RD W mk fin (setD d 13) (fun j => if j = 13 then v else x j) w' := by
  have h22 := h.no22 hd (by omega)
  have s := he.size
  have e22 : setD d 13 22 = false := by rw [setD_ne d (by omega)]; exact h22
  constructor
  · exact fun _ => below_trans (h.bel h22) (h.bel h22).size he
  · exact fun _ _ k hk => (hv k hk).2
  · rw [setD_ne d (by omega)]; exact fun _ hh k hk => Nat.lt_of_lt_of_le (h.lt19 h22 hh k hk) s
  · rw [setD_ne d (i := 13) (j := 21) (by omega)]; exact fun _ hh k hk => Nat.lt_of_lt_of_le (h.lt21 h22 hh k hk) s
  · rw [setD_ne d (i := 13) (j := 21) (by omega)]; exact fun _ hh k hk e => by have := h.lt21 h22 hh k e; have := (hv k hk).1; omega
  · rw [setD_ne d (i := 13) (j := 21) (by omega), setD_ne d (i := 13) (j := 19) (by omega)]; exact h.n19
  · rw [setD_ne d (i := 13) (j := 20) (by omega)]; intro hh; have := (h.b20 hh).1; rw [hd] at this; cases this
  · rw [e22]; intro h; cases h
  · rw [e22]; intro h; cases h
theorem RD.own19 (h : RD W mk fin d x w) (hd : d 19 = false) (he : Goes w w') (v : Value) (hv : ∀ k, blkV v = some k → w.heap.size ≤ k ∧ k < w'.heap.size) : RD W mk fin (setD d 19) (fun j => if j = 19 then v else x j) w' := by
  have h22 := h.no22 hd (by omega)
  have s := he.size
  have e22 : setD d 19 22 = false := by rw [setD_ne d (by omega)]; exact h22
  constructor
  · exact fun _ => below_trans (h.bel h22) (h.bel h22).size he
  · rw [setD_ne d (by omega)]; exact fun _ hh k hk => Nat.lt_of_lt_of_le (h.lt13 h22 hh k hk) s
  · exact fun _ _ k hk => (hv k hk).2
  · rw [setD_ne d (i := 19) (j := 21) (by omega)]; exact fun _ hh k hk => Nat.lt_of_lt_of_le (h.lt21 h22 hh k hk) s
  · rw [setD_ne d (i := 19) (j := 21) (by omega), setD_ne d (i := 19) (j := 13) (by omega)]; exact h.n13
  · rw [setD_ne d (i := 19) (j := 21) (by omega)]; exact fun _ hh k hk e => by have := h.lt21 h22 hh k e; have := (hv k hk).1; omega
  · rw [setD_ne d (i := 19) (j := 20) (by omega)]; intro hh; have := (h.b20 hh).2.1; rw [hd] at this; cases this
  · rw [e22]; intro h; cases h
  · rw [e22]; intro h; cases h
theorem RD.box21 (h : RD W mk fin d x w) (hd : d 21 = false) (he : Goes w w') (v : Value) (hv : ∀ k, blkV v = some k → w.heap.size ≤ k ∧ k < w'.heap.size) : RD W mk fin (setD d 21) (fun j => if j = 21 then v else x j) w' := by
  have h22 := h.no22 hd (by omega)
  have s := he.size
  have e22 : setD d 21 22 = false := by rw [setD_ne d (by omega)]; exact h22
  constructor
  · exact fun _ => below_trans (h.bel h22) (h.bel h22).size he
  · rw [setD_ne d (by omega)]; exact fun _ hh k hk => Nat.lt_of_lt_of_le (h.lt13 h22 hh k hk) s
  · rw [setD_ne d (i := 21) (j := 19) (by omega)]; exact fun _ hh k hk => Nat.lt_of_lt_of_le (h.lt19 h22 hh k hk) s
  · exact fun _ _ k hk => (hv k hk).2
  · rw [setD_ne d (i := 21) (j := 13) (by omega)]; exact fun hh _ k hk e => by have := h.lt13 h22 hh k hk; have := (hv k e).1; omega
  · rw [setD_ne d (i := 21) (j := 19) (by omega)]; exact fun hh _ k hk e => by have := h.lt19 h22 hh k hk; have := (hv k e).1; omega
  · rw [setD_ne d (i := 21) (j := 20) (by omega), setD_ne d (i := 21) (j := 13) (by omega), setD_ne d (i := 21) (j := 19) (by omega)]; exact h.b20
  · rw [e22]; intro h; cases h
  · rw [e22]; intro h; cases h
theorem RD.build20 (h : RD W mk fin d x w) (hd : d 20 = false) (h13 : d 13 = true) (h19 : d 19 = true) (v : Value) (hv : v = mk (x 13) (x 19)) : RD W mk fin (setD d 20) (fun j => if j = 20 then v else x j) w := by
  have h22 := h.no22 hd (by omega)
  have e22 : setD d 20 22 = false := by rw [setD_ne d (by omega)]; exact h22
  constructor
  · exact fun _ => h.bel h22
  · exact fun _ _ => h.lt13 h22 h13
  · exact fun _ _ => h.lt19 h22 h19
  · rw [setD_ne d (i := 20) (j := 21) (by omega)]; exact fun _ hh => h.lt21 h22 hh
  · rw [setD_ne d (i := 20) (j := 21) (by omega)]; exact fun _ hh => h.n13 h13 hh
  · rw [setD_ne d (i := 20) (j := 21) (by omega)]; exact fun _ hh => h.n19 h19 hh
  · exact fun _ => ⟨by rw [setD_ne d (by omega)]; exact h13, by rw [setD_ne d (by omega)]; exact h19, hv⟩
  · rw [e22]; intro h; cases h
  · rw [e22]; intro h; cases h
theorem RD.store22 (h : RD W mk fin d x w) (hall : ∀ i, i < 22 → d i = true) (v : Value) (hf : fin (x 13) (x 19) (x 21) w') : RD W mk fin (setD d 22) (fun j => if j = 22 then v else x j) w' := by
  have e22 : setD d 22 22 = false → False := by rw [setD_self]; intro h; cases h
  constructor
  · exact fun h => (e22 h).elim
  · exact fun h => (e22 h).elim
  · exact fun h => (e22 h).elim
  · exact fun h => (e22 h).elim
  · exact fun _ _ => h.n13 (hall 13 (by omega)) (hall 21 (by omega))
  · exact fun _ _ => h.n19 (hall 19 (by omega)) (hall 21 (by omega))
  · exact fun _ => ⟨by rw [setD_ne d (by omega)]; exact hall 13 (by omega), by rw [setD_ne d (by omega)]; exact hall 19 (by omega), (h.b20 (hall 20 (by omega))).2.2⟩
  · exact fun _ i hi => by rw [setD_ne d (by omega)]; exact hall i hi
  · exact fun _ => hf
end
/-- delta's answer. -/
def DeltaA (sf : RecT → Nat) (fr : Nat) (rs : List RecT) (i : Nat) (w : World) (e : Ending) (w' : World) : Prop :=
  (∃ er : Nat, deltaR sf fr rs i = .inl er ∧ e = .returned (.tuple #[.agg delZ.toArray, .int .i64 0, .iface 36 (.int .i64 er)]) ∧ Below w.heap.size w w') ∨
  (∃ tq bh f t v1 v2, deltaR sf fr rs i = .inr (tq, bh) ∧ rs[i]? = some f ∧ rs[tq]? = some t ∧ e = .returned (.tuple #[.agg (delC f t v1 v2).toArray, .int .i64 (bh : Nat), .nilIface]) ∧
    OBM 4 w.heap.size w v1 (tq - (i + 1)) (flatR ((rs.drop (i + 1)).take (tq - (i + 1)))) w' ∧ OBM 4 w.heap.size w v2 (bh - (tq + 1)) (flatR ((rs.drop (tq + 1)).take (bh - (tq + 1)))) w')
set_option maxHeartbeats 800000 in
theorem delta_any (sf : RecT → Nat) (fr bb off n c i : Nat) (rs : List RecT) (w : World) (h : Recs w (some ⟨bb, off, none⟩) rs) (hl : rs.length = n) (hn : n ≤ 1000) (hi : i + 1 < n) (hc : n ≤ c) (hc2 : c ≤ maxLen)
    (hs : ∀ r ∈ rs, soaB r = true → ∀ w, Calls Tryd.prog 22 #[recV r] w fun e w' => e = .returned (.int .u32 (sf r : Nat)) ∧ Below w.heap.size w w') :
    Calls Tryd.prog 45 #[.int .u32 (fr : Nat), .slice (some ⟨bb, off, none⟩) n c, .int .i64 (i : Nat)] w (DeltaA sf fr rs i w) := by
  obtain ⟨AR, hAR⟩ : ∃ R, R = DeltaA sf fr rs i w := ⟨_, rfl⟩
  rw [← hAR]
  have HFAIL : Hid (∀ er : Nat, deltaR sf fr rs i = .inl er → ∀ w', Below w.heap.size w w' → AR (.returned (.tuple #[.agg delZ.toArray, .int .i64 0, .iface 36 (.int .i64 er)])) w') := Lib.hid (fun er hf w' hb => by rw [hAR]; exact .inl ⟨er, hf, rfl, hb⟩)
  have HGOOD : Hid (∀ tq bh f t v1 v2 w', deltaR sf fr rs i = .inr (tq, bh) → rs[i]? = some f → rs[tq]? = some t → OBM 4 w.heap.size w v1 (tq - (i + 1)) (flatR ((rs.drop (i + 1)).take (tq - (i + 1)))) w' → OBM 4 w.heap.size w v2 (bh - (tq + 1)) (flatR ((rs.drop (tq + 1)).take (bh - (tq + 1)))) w' →
      AR (.returned (.tuple #[.agg (delC f t v1 v2).toArray, .int .i64 (bh : Nat), .nilIface])) w') := Lib.hid (fun tq bh f t v1 v2 w' h1 h2 h3 h4 h5 => by rw [hAR]; exact .inr ⟨tq, bh, f, t, v1, v2, h1, h2, h3, rfl, h4, h5⟩)
  obtain ⟨r, hr⟩ : ∃ r, rs[i]? = some r := ⟨_, List.getElem?_eq_getElem (by omega)⟩
  have HDR : Hid (deltaR sf fr rs i = if soaB r = true then (if sf r = fr then (if n - 1 ≤ nextS rs (i + 1) then .inl 4 else .inr (nextS rs (i + 1), min (nextS rs (nextS rs (i + 1) + 1)) (n - 1))) else .inl 5) else .inl 4) := Lib.hid (by unfold deltaR; rw [hr]; simp only [hl])
  have HR := Lib.hid hr
  have IS := Lib.hid (fun w => isSoa_any r w)
  have SE := Lib.hid (hs r (List.mem_of_getElem? hr))
  obtain ⟨b1, o1, hA1, hb1, hr1⟩ := h.range hr
  injection hA1 with hA1; injection hA1 with q1 q2; subst q1 q2
  have HRG : Hid (∀ wx, Below w.heap.size w wx → wx.rangeAt bb (off + i * 4) (recCells r)) := Lib.hid (fun wx hb j v hv => (hb.cell (p := ⟨bb, off + i * 4 + j, none⟩) hb1).trans (hr1 j v hv))
  have HALL := Lib.hid h
  have HL := Lib.hid hl
  obtain ⟨r0, r1, r2, r3⟩ := r
  unfold recV at IS SE
  unfold recCells at HRG
  simp only at IS SE HRG
  have hin : (i : Int) < n := by omega
  have hin' : i < n := by omega
  have hi0 : (0 : Int) ≤ (i : Int) := by omega
  obtain ⟨I1, hI1⟩ : ∃ I1, I1 = i + 1 := ⟨_, rfl⟩
  have w1 : wrap64 ((i : Int) + 1) = (I1 : Int) := by unfold wrap64; omega
  have w1' : IntKind.i64.wrap ((i : Int) + 1) = (I1 : Int) := by rw [IntKind.wrap_i64]; omega
  rw [← hI1] at HDR HGOOD
  have HI1 := Lib.hid hI1
  clear hI1
  obtain ⟨L, hL⟩ : ∃ L, L = n - 1 := ⟨_, rfl⟩
  have w2 : wrap64 ((n : Int) - 1) = (L : Int) := by unfold wrap64; omega
  have w2' : IntKind.i64.wrap ((n : Int) - 1) = (L : Int) := by rw [IntKind.wrap_i64]; omega
  have HLL := Lib.hid hL
  have hZ := Cs.new w #[.string ⟨#[]⟩, .int .u16 0, .int .u32 0, .string ⟨#[]⟩, .string ⟨#[]⟩, .int .u16 0, .int .u32 0, .string ⟨#[]⟩, .slice none 0 0, .slice none 0 0] 43 delZ
  have hbZ := (Below.refl w.heap.size w).alloc (Nat.le_refl _) (.cells #[.string ⟨#[]⟩, .int .u16 0, .int .u32 0, .string ⟨#[]⟩, .string ⟨#[]⟩, .int .u16 0, .int .u32 0, .string ⟨#[]⟩, .slice none 0 0, .slice none 0 0] 43)
  have H0 := Lib.hid (And.intro hZ hbZ)
  clear h hl hs hAR hr hb1 hr1 hL hZ hbZ
  go_enter Tryd.func45, Tryd.ntmps45
  go_upto_region 1 with fail
  obtain ⟨hZ, hbZ⟩ := H0.out
  generalize w.alloc (.cells #[.string ⟨#[]⟩, .int .u16 0, .int .u32 0, .string ⟨#[]⟩, .string ⟨#[]⟩, .int .u16 0, .int .u32 0, .string ⟨#[]⟩, .slice none 0 0, .slice none 0 0] 43) = wa at *
  obtain ⟨g, hg⟩ : ∃ g, g = w.heap.size := ⟨_, rfl⟩
  rw [← hg] at hZ ⊢
  have HZ := Lib.hid hZ
  have HG := Lib.hid hg
  have HBA := Lib.hid hbZ
  have HRGa := Lib.hid (HRG.out wa hbZ)
  clear hZ hbZ hg H0
  -- how a way out with an error ends
  have OUT : Hid (∀ wx, Below wa.heap.size wa wx → Below w.heap.size w wx ∧ Cs wx g delZ) := Lib.hid (fun wx hb => ⟨below_trans HBA.out HBA.out.size hb, HZ.out.below hb⟩)
  go_wp2_with (first | refine wpList_load_midH rfl 41 _ rfl bb (off + i * 4) rfl _ _ HRGa.out Tryd.underlying41 rfl (by kernel_rfl) ?_)
  refine (IS.out _).mono ?_
  rintro e wb ⟨rfl, hbb⟩
  have HBB := Lib.hid hbb
  clear hbb
  cases es : soaB (r0, r1, r2, r3) with
  | false =>
    have hdr : deltaR sf fr rs i = .inl 4 := by rw [HDR.out, es]; rfl
    have HFR := Lib.hid hdr
    obtain ⟨hbx, hcx⟩ := OUT.out _ HBB.out
    have HTH := Lib.hid (hcx.there 10 rfl)
    have HM := Lib.hid (hcx.mid delZ rfl)
    have HBM := Lib.hid (below_setCells' (B := w.heap.size) (g := g) (by rw [HG.out]; exact Nat.le_refl _) delZ 0 hbx)
    clear hdr hbx hcx es
    go_wp2_with (first | refine wpList_store_mid rfl 43 _ _ rfl g 0 delZ.toArray rfl rfl HTH.out (by kernel_rfl) (by simp [delZ, Value.oneCell']) ?_)
    refine bodyPost_ret (v := .tuple #[.agg delZ.toArray, .int .i64 0, .iface 36 (.int .i64 (4 : Nat))]) (results_cellD Tryd.results45 _ _ _ g 0 _ _ rfl HM.out.range Tryd.underlying43 rfl (by kernel_rfl)) rfl ?_
    exact HFAIL.out 4 HFR.out _ HBM.out
  | true =>
    have HES := Lib.hid es
    have HRGb := Lib.hid (HRG.out wb (below_trans HBA.out HBA.out.size HBB.out))
    have SEC := Lib.hid (SE.out es)
    clear es SE
    go_upto_region 3 with fail
    go_wp2_with (first | refine wpList_load_midH rfl 41 _ rfl bb (off + i * 4) rfl _ _ HRGb.out Tryd.underlying41 rfl (by kernel_rfl) ?_)
    refine (SEC.out _).mono ?_
    rintro e wc ⟨rfl, hbc⟩
    have HBC := Lib.hid (below_trans HBB.out HBB.out.size hbc)
    clear hbc SEC
    obtain ⟨S, hS⟩ : ∃ S, S = sf (r0, r1, r2, r3) := ⟨_, rfl⟩
    rw [← hS]
    have HSS := Lib.hid hS
    clear hS
    by_cases hsf : S = fr
    · subst hsf
      have hq : ((S : Int) == (S : Int)) = true := by simp
      have hq2 : ((S : Int) != (S : Int)) = false := by simp
      have hI1 := HI1.out
      have HN1 := Lib.hid (fun (wx : World) (hb : Below w.heap.size w wx) => nextSoa_any (some ⟨bb, off, none⟩) n c rs I1 wx (HALL.out.below hb) HL.out (by omega) (by omega))
      obtain ⟨T, hT⟩ : ∃ T, T = nextS rs I1 := ⟨_, rfl⟩
      have hT1 : I1 ≤ T := by rw [hT]; exact nextS_ge _ _
      have hT2 : T ≤ n := by rw [hT]; have := nextS_le rs I1 (by rw [HL.out]; omega); rw [HL.out] at this; exact this
      rw [← hT] at HN1
      obtain ⟨T1, hT3⟩ : ∃ T1, T1 = T + 1 := ⟨_, rfl⟩
      have HDR2 : Hid (deltaR sf S rs i = if n - 1 ≤ T then .inl 4 else .inr (T, min (nextS rs T1) (n - 1))) := Lib.hid (by rw [HDR.out, HES.out, if_pos rfl, ← HSS.out, if_pos rfl, ← hT, ← hT3])
      have HN2 := Lib.hid (fun (wx : World) (hb : Below w.heap.size w wx) => nextSoa_any (some ⟨bb, off, none⟩) n c rs T1 wx (HALL.out.below hb) HL.out (by omega) (by omega))
      obtain ⟨hbx, hcx⟩ := OUT.out _ HBC.out
      have HBX := Lib.hid hbx
      have HCX := Lib.hid hcx
      have HT3 := Lib.hid hT3
      clear hT hbx hcx HDR HSS hI1 hT3
      go_wp2_with fail
      refine (HN1.out _ HBX.out).mono ?_
      rintro e wd ⟨rfl, hbd⟩
      have HBD := Lib.hid (below_trans HBX.out HBX.out.size hbd)
      have HCD := Lib.hid (HCX.out.below hbd)
      clear hbd HN1
      by_cases hTL : L ≤ T
      · have hTLi : (L : Int) ≤ T := by omega
        have hdr : deltaR sf S rs i = .inl 4 := by rw [HDR2.out, if_pos (by have := HLL.out; omega)]
        have HFR := Lib.hid hdr
        have HTH := Lib.hid (HCD.out.there 10 rfl)
        have HM := Lib.hid (HCD.out.mid delZ rfl)
        have HBM := Lib.hid (below_setCells' (B := w.heap.size) (g := g) (by rw [HG.out]; exact Nat.le_refl _) delZ 0 HBD.out)
        clear hdr
        go_wp2_with (first | refine wpList_store_mid rfl 43 _ _ rfl g 0 delZ.toArray rfl rfl HTH.out (by kernel_rfl) (by simp [delZ, Value.oneCell']) ?_)
        refine bodyPost_ret (v := .tuple #[.agg delZ.toArray, .int .i64 0, .iface 36 (.int .i64 (4 : Nat))]) (results_cellD Tryd.results45 _ _ _ g 0 _ _ rfl HM.out.range Tryd.underlying43 rfl (by kernel_rfl)) rfl ?_
        exact HFAIL.out 4 HFR.out _ HBM.out
      · have hTLi : ¬ (L : Int) ≤ T := by omega
        have hLn := HLL.out
        have hT3 := HT3.out
        have hLn := HLL.out
        have hTL2 : T1 ≤ L := by rw [hT3]; exact Nat.lt_of_not_le hTL
        obtain ⟨w3, w3'⟩ := wrap_facts9 T T1 hT3 (by rw [hT3] at hTL2; exact Nat.le_trans (Nat.le_trans (Nat.le_succ T) hTL2) (by rw [hLn]; exact Nat.le_trans (Nat.sub_le n 1) (Nat.le_trans hn (by decide))))
        obtain ⟨U, hU⟩ : ∃ U, U = nextS rs T1 := ⟨_, rfl⟩
        have hU1 : T1 ≤ U := by rw [hU]; exact nextS_ge _ _
        rw [← hU] at HN2 HDR2
        obtain ⟨bh, hbh, hbh1, hbh2, hmn⟩ := min_facts9 U L T1 hU1 hTL2
        have HGO : Hid (deltaR sf S rs i = .inr (T, bh)) := Lib.hid (by rw [HDR2.out, ← hLn, if_neg hTL, hbh])
        have HMN := Lib.hid hmn
        have HF := Lib.hid (And.intro hTL2 (And.intro hbh1 (And.intro hbh2 hT1)))
        clear hU hbh HDR2 hT3 hLn hmn hTL2 hU1 hbh1 hbh2
        go_upto_region 9 with fail
        go_wp2_with fail
        refine (HN2.out _ HBD.out).mono ?_
        rintro e we ⟨rfl, hbe⟩
        have HBE := Lib.hid (below_trans HBD.out HBD.out.size hbe)
        have HCE := Lib.hid (HCD.out.below hbe)
        clear hbe HN2
        have hmA : (if (L : Int) < (U : Int) then (L : Int) else (U : Int)) = (bh : Int) := by
          rcases HMN.out with ⟨h1, h2⟩ | ⟨h1, h2⟩
          · rw [if_neg (by omega), h2]
          · rw [if_pos (by omega), h2]
        have hmB : (if n - 1 < U then ((n - 1 : Nat) : Int) else (U : Int)) = (bh : Int) := by
          rw [← HLL.out]
          rcases HMN.out with ⟨h1, h2⟩ | ⟨h1, h2⟩
          · rw [if_neg (by omega), h2]
          · rw [if_pos h1, h2]
        go_upto_region 10 with fail
        clear hmA hmB
        obtain ⟨t, ht⟩ : ∃ r, rs[T]? = some r := ⟨_, List.getElem?_eq_getElem (by rw [HL.out]; have := HF.out.1; have := HLL.out; have := HT3.out; omega)⟩
        have HT := Lib.hid ht
        obtain ⟨b1, o1, hA1, hb1, hr1⟩ := HALL.out.range ht
        injection hA1 with hA1; injection hA1 with q1 q2; subst q1 q2
        have HRT : Hid (∀ wx, Below w.heap.size w wx → wx.rangeAt bb (off + T * 4) (recCells t)) := Lib.hid (fun wx hb j v hv => (hb.cell (p := ⟨bb, off + T * 4 + j, none⟩) hb1).trans (hr1 j v hv))
        obtain ⟨l1, hl1⟩ : ∃ l, l = (rs.drop I1).take (T - I1) := ⟨_, rfl⟩
        obtain ⟨l2, hl2⟩ : ∃ l, l = (rs.drop T1).take (bh - T1) := ⟨_, rfl⟩
        obtain ⟨j1, j2, j3, j4, j5, j6, j7, j8, j9, ja, jb, jc, jd, je, jf⟩ := del_facts n c i I1 T T1 L bh HI1.out HT3.out HLL.out HF.out.1 HF.out.2.1 HF.out.2.2.1 HF.out.2.2.2 hc hn
        have K1 : Hid (∀ wx, Below w.heap.size w wx → Calls Tryd.prog 44 #[.slice (some ⟨bb, off + I1 * 4, none⟩) (T - I1) (c - I1)] wx fun e w' => ∃ v, e = .returned v ∧ OBM 4 wx.heap.size wx v (T - I1) (flatR l1) w') := Lib.hid (fun wx hb => by
          have h1 := ((HALL.out.below hb).part I1 (T - I1)).sl
          rw [← hl1, show l1.length = T - I1 by rw [hl1, List.length_take, List.length_drop, HL.out]; exact jd] at h1
          exact clone_recs _ _ _ _ _ _ h1 (flatR_one _) (fun e => by cases e) jf.1)
        have K2 : Hid (∀ wx, Below w.heap.size w wx → Calls Tryd.prog 44 #[.slice (some ⟨bb, off + T1 * 4, none⟩) (bh - T1) (c - T1)] wx fun e w' => ∃ v, e = .returned v ∧ OBM 4 wx.heap.size wx v (bh - T1) (flatR l2) w') := Lib.hid (fun wx hb => by
          have h1 := ((HALL.out.below hb).part T1 (bh - T1)).sl
          rw [← hl2, show l2.length = bh - T1 by rw [hl2, List.length_take, List.length_drop, HL.out]; exact je] at h1
          exact clone_recs _ _ _ _ _ _ h1 (flatR_one _) (fun e => by cases e) jf.2)
        have HFIN := Lib.hid (fun v1 v2 w' => HGOOD.out T bh (r0, r1, r2, r3) t v1 v2 w' HGO.out HR.out ht)
        rw [← hl1, ← HT3.out, ← hl2] at HFIN
        obtain ⟨t0, t1, t2, t3⟩ := t
        unfold recCells at HRT
        unfold delC at HFIN
        simp only at HRT HFIN
        obtain ⟨VF, hVF⟩ : ∃ v : Value, v = .agg #[.string r0, .int .u16 r1, .int .u32 r2, .string r3] := ⟨_, rfl⟩
        obtain ⟨VT, hVT⟩ : ∃ v : Value, v = .agg #[.string t0, .int .u16 t1, .int .u32 t2, .string t3] := ⟨_, rfl⟩
        have HVF := Lib.hid hVF
        have HVT := Lib.hid hVT
        have HBEs := Lib.hid HBE.out.size
        clear hl1 hl2 ht hb1 hr1 jd je jf hVF hVT HGOOD HGO
        refine wp_region_expR data_follows (fun x => by simp [putsF, Act.put]; rfl) (RD we (fun v1 v2 => .agg #[.string r0, .int .u16 r1, .int .u32 r2, .string r3, .string t0, .int .u16 t1, .int .u32 t2, .string t3, v1, v2])
            (fun v1 v2 vq v => Below we.heap.size we v ∧ OBM 4 we.heap.size we v1 (T - I1) (flatR l1) v ∧ OBM 4 we.heap.size we v2 (bh - T1) (flatR l2) v ∧ ∃ q, vq = .pointer (some ⟨q, 0, none⟩) ∧ we.heap.size ≤ q ∧ Cs v q [.string r0, .int .u16 r1, .int .u32 r2, .string r3, .string t0, .int .u16 t1, .int .u32 t2, .string t3, v1, v2]))
          [isX (.slice (some ⟨bb, off, none⟩) n c), isX (.int .i64 (i : Nat)), isX (.pointer (some ⟨bb, off + i * 4, none⟩)), isX VF, isX (.slice (some ⟨bb, off, none⟩) n c), isX (.int .i64 (T : Nat)), isX (.pointer (some ⟨bb, off + T * 4, none⟩)), isX VT,
           isX (.slice (some ⟨bb, off, none⟩) n c), isX (.int .i64 (i : Nat)), isX (.int .i64 (I1 : Nat)), isX (.int .i64 (T : Nat)), isX (.slice (some ⟨bb, off + I1 * 4, none⟩) (T - I1) (c - I1)), until_ 22 (ownW 4 we.heap.size we (T - I1) (flatR l1)),
           isX (.slice (some ⟨bb, off, none⟩) n c), isX (.int .i64 (T : Nat)), isX (.int .i64 (T1 : Nat)), isX (.int .i64 (bh : Nat)), isX (.slice (some ⟨bb, off + T1 * 4, none⟩) (bh - T1) (c - T1)), until_ 22 (ownW 4 we.heap.size we (bh - T1) (flatR l2)),
           always (fun _ _ => True), until_ 22 (boxW we.heap.size delZ), always (fun _ _ => True)]
          [22] (by kernel_rfl) (by kernel_rfl) (by kernel_rfl) rfl ?_ ?_ ?_ ?_ ?_
        · repeat (first | exact trivial | refine ⟨by first | exact isX_stays _ | exact until_stays (ownW_stays _ _ _ _ _) | exact until_stays (boxW_stays _ _) | exact always_stays (fun _ _ _ _ _ => trivial), ?_⟩)
        · exact ⟨fun _ => (Below.refl _ _).drew, fun _ h => (by cases h), fun _ h => (by cases h), fun _ h => (by cases h), fun h => (by cases h), fun h => (by cases h), fun h => (by cases h), fun h => (by cases h), fun h => (by cases h)⟩
        · refine ⟨?_, ?_, ?_, ?_, ?_, ?_, ?_, ?_, ?_, ?_, ?_, ?_, ?_, ?_, ?_, ?_, ?_, ?_, ?_, ?_, ?_, ?_, skipped rfl, trivial⟩
          all_goals
            intro _ d x wx hR hdi hsrc hd
            refine ⟨fun _ => ?_, fun hX => by simp at hX⟩
            have hRb := hR.bel (hR.no22 hdi (by decide))
            simp [wordX, isX] at hd ⊢
          · go_simp; exact nextXR _ rfl rfl (hR.next hdi (Below.refl _ _) _) (Below.refl _ _)
          · go_simp; exact nextXR _ rfl rfl (hR.next hdi (Below.refl _ _) _) (Below.refl _ _)
          · obtain ⟨hd0, hd1⟩ := hd; go_simp; exact nextXR _ rfl rfl (hR.next hdi (Below.refl _ _) _) (Below.refl _ _)
          · refine wp_load_mid 41 _ rfl bb (off + i * 4) (by simp [go_sem, hd]) _ _ (HRG.out wx (below_trans HBE.out HBE.out.size hRb)) Tryd.underlying41 rfl (by kernel_rfl) ?_
            exact nextXR _ rfl HVF.out.symm (hR.next hdi (Below.refl _ _) _) (Below.refl _ _)
          · go_simp; exact nextXR _ rfl rfl (hR.next hdi (Below.refl _ _) _) (Below.refl _ _)
          · go_simp; exact nextXR _ rfl rfl (hR.next hdi (Below.refl _ _) _) (Below.refl _ _)
          · obtain ⟨hd0, hd1⟩ := hd; go_simp; exact nextXR _ rfl rfl (hR.next hdi (Below.refl _ _) _) (Below.refl _ _)
          · refine wp_load_mid 41 _ rfl bb (off + T * 4) (by simp [go_sem, hd]) _ _ (HRT.out wx (below_trans HBE.out HBE.out.size hRb)) Tryd.underlying41 rfl (by kernel_rfl) ?_
            exact nextXR _ rfl HVT.out.symm (hR.next hdi (Below.refl _ _) _) (Below.refl _ _)
          · go_simp; exact nextXR _ rfl rfl (hR.next hdi (Below.refl _ _) _) (Below.refl _ _)
          · go_simp; exact nextXR _ rfl rfl (hR.next hdi (Below.refl _ _) _) (Below.refl _ _)
          · go_simp; exact nextXR _ rfl rfl (hR.next hdi (Below.refl _ _) _) (Below.refl _ _)
          · go_simp; exact nextXR _ rfl rfl (hR.next hdi (Below.refl _ _) _) (Below.refl _ _)
          · first
              | (obtain ⟨hd0, hd1, hd2⟩ := hd; go_simp; exact nextXR _ rfl rfl (hR.next hdi (Below.refl _ _) _) (Below.refl _ _))
              | (obtain ⟨hd0, hd1⟩ := hd; go_simp; exact nextXR _ rfl rfl (hR.next hdi (Below.refl _ _) _) (Below.refl _ _))
          · first | simp [hd] | simp [hd.1] | skip
            go_simp
            go_at_call 44
            refine (K1.out wx (below_trans HBE.out HBE.out.size hRb)).mono ?_
            rintro r wy ⟨v, rfl, ho⟩
            exact nextXR v rfl (until_of (ho.out hRb.size hRb)) (hR.own13 hdi ho.bel v (blk_obm ho)) ho.bel
          · go_simp; exact nextXR _ rfl rfl (hR.next hdi (Below.refl _ _) _) (Below.refl _ _)
          · go_simp; exact nextXR _ rfl rfl (hR.next hdi (Below.refl _ _) _) (Below.refl _ _)
          · go_simp; exact nextXR _ rfl rfl (hR.next hdi (Below.refl _ _) _) (Below.refl _ _)
          · go_simp; exact nextXR _ rfl rfl (hR.next hdi (Below.refl _ _) _) (Below.refl _ _)
          · first
              | (obtain ⟨hd0, hd1, hd2⟩ := hd; go_simp; exact nextXR _ rfl rfl (hR.next hdi (Below.refl _ _) _) (Below.refl _ _))
              | (obtain ⟨hd0, hd1⟩ := hd; go_simp; exact nextXR _ rfl rfl (hR.next hdi (Below.refl _ _) _) (Below.refl _ _))
          · first | simp [hd] | simp [hd.1] | skip
            go_simp
            go_at_call 44
            refine (K2.out wx (below_trans HBE.out HBE.out.size hRb)).mono ?_
            rintro r wy ⟨v, rfl, ho⟩
            exact nextXR v rfl (until_of (ho.out hRb.size hRb)) (hR.own19 hdi ho.bel v (blk_obm ho)) ho.bel
          · have d13 : d 13 = true := hsrc ⟨13, .data⟩ (by simp) rfl
            have d19 : d 19 = true := hsrc ⟨19, .data⟩ (by simp) rfl
            obtain ⟨h3, h7, h13, h19⟩ := hd
            have o13 : OBM 4 we.heap.size we (x 13) (T - I1) (flatR l1) wx := h13 (hR.no22 hdi (by decide))
            have o19 : OBM 4 we.heap.size we (x 19) (bh - T1) (flatR l2) wx := h19 (hR.no22 hdi (by decide))
            obtain ⟨A1, c1, e13, -⟩ := o13.slice
            obtain ⟨A2, c2, e19, -⟩ := o19.slice
            rw [HVF.out] at h3
            rw [HVT.out] at h7
            clear h13 h19 o13 o19
            simp only [h3, h7, e13, e19]
            go_simp
            refine nextXR _ rfl ?_ (hR.build20 hdi d13 d19 _ ?_) (Below.refl _ _)
            · exact trivial
            · rw [e13, e19]
          · go_simp; exact nextXR _ rfl (until_of ⟨_, rfl, hRb.size, Cs.new _ _ _ _⟩) (hR.box21 hdi ((Below.refl _ _).alloc (Nat.le_refl _) _) _ (fun k hk => by injection hk with hk; subst hk; simp)) ((Below.refl _ _).alloc (Nat.le_refl _) _)
        · refine ⟨unskipped rfl, unskipped rfl, unskipped rfl, unskipped rfl, unskipped rfl, unskipped rfl, unskipped rfl, unskipped rfl, unskipped rfl, unskipped rfl, unskipped rfl, unskipped rfl, unskipped rfl, unskipped rfl, unskipped rfl, unskipped rfl, unskipped rfl, unskipped rfl, unskipped rfl, unskipped rfl, unskipped rfl, unskipped rfl, ?_, trivial⟩
          intro _ d x wx hR hdi hcl hsrc hd
          refine ⟨fun _ => ?_, fun hX => by simp at hX⟩
          have hall : ∀ i, i < 22 → d i = true := fun i hi => by
            refine SrcX.reach (K := 22) hcl hsrc rfl 20 i (by omega) ?_
            revert i
            decide +kernel
          have hRb := hR.bel hdi
          simp only [DoneX] at hd
          obtain ⟨-, -, -, -, -, -, -, -, -, -, -, -, -, h13, -, -, -, -, -, h19, -, h21, -⟩ := hd
          have o13 : OBM 4 we.heap.size we (x 13) (T - I1) (flatR l1) wx := h13 (hall 13 (by decide)) hdi
          have o19 : OBM 4 we.heap.size we (x 19) (bh - T1) (flatR l2) wx := h19 (hall 19 (by decide)) hdi
          obtain ⟨q, x21, hq, hcq⟩ : boxW we.heap.size delZ (x 21) wx := h21 (hall 21 (by decide)) hdi
          have x20 := (hR.b20 (hall 20 (by decide))).2.2
          have n13 := hR.n13 (hall 13 (by decide)) (hall 21 (by decide))
          have n19 := hR.n19 (hall 19 (by decide)) (hall 21 (by decide))
          obtain ⟨A1, c1, e13, -⟩ := o13.slice
          obtain ⟨A2, c2, e19, -⟩ := o19.slice
          have hst := setCells_heap wx q [.string r0, .int .u16 r1, .int .u32 r2, .string r3, .string t0, .int .u16 t1, .int .u32 t2, .string t3, x 13, x 19] 0
          have hbs := below_setCells' hq [.string r0, .int .u16 r1, .int .u32 r2, .string r3, .string t0, .int .u16 t1, .int .u32 t2, .string t3, x 13, x 19] 0 hRb
          have hX := hR.store22 hall undef (w' := wx.setCells q 0 [.string r0, .int .u16 r1, .int .u32 r2, .string r3, .string t0, .int .u16 t1, .int .u32 t2, .string t3, x 13, x 19]) ⟨hbs,
            o13.block hbs (by rw [hst.1]; exact Nat.le_refl _) (fun k hk => hst.2 k (fun e => n13 k (own_blk hk) (by rw [x21, e]; rfl))),
            o19.block hbs (by rw [hst.1]; exact Nat.le_refl _) (fun k hk => hst.2 k (fun e => n19 k (own_blk hk) (by rw [x21, e]; rfl))),
            q, x21, hq, hcq.mid _ rfl⟩
          dsimp only
          refine wp_store_mid 43 _ _ rfl q 0 #[.string r0, .int .u16 r1, .int .u32 r2, .string r3, .string t0, .int .u16 t1, .int .u32 t2, .string t3, x 13, x 19] x21 x20 (hcq.there 10 rfl) (by kernel_rfl) (by rw [e13, e19]; simp [Value.oneCell']) ?_
          refine nextKR _ rfl trivial hX ?_
          exact ⟨fun _ _ h => h, fun _ _ h => h, fun _ _ h => h, fun _ _ h => h, fun _ _ h => h, fun _ _ h => h, fun _ _ h => h, fun _ _ h => h, fun _ _ h => h, fun _ _ h => h, fun _ _ h => h, fun _ _ h => h, fun _ _ h => h, fun _ _ _ => until_self, fun _ _ h => h, fun _ _ h => h, fun _ _ h => h, fun _ _ h => h, fun _ _ h => h, fun _ _ _ => until_self, fun _ _ h => h, fun _ _ _ => until_self, fun h => absurd rfl h, trivial⟩
        · intro x w4 d hall hR hx
          have hR22 := hR.f22 (hall 22 (by decide))
          obtain ⟨hb4, ho1, ho2, q, x21, hq, hc⟩ := hR22
          clear hx hR hall
          generalize x 13 = V1 at *
          generalize x 19 = V2 at *
          obtain ⟨A1, c1, rfl, -⟩ := ho1.slice
          obtain ⟨A2, c2, rfl, -⟩ := ho2.slice
          rw [x21]
          have hCG := (HCE.out.below hb4)
          have HTH := Lib.hid (hCG.there 10 rfl)
          have HRQ := Lib.hid hc.range
          have HM := Lib.hid (hCG.mid [.string r0, .int .u16 r1, .int .u32 r2, .string r3, .string t0, .int .u16 t1, .int .u32 t2, .string t3, .slice A1 (T - I1) c1, .slice A2 (bh - T1) c2] rfl)
          have hst := setCells_heap w4 g [.string r0, .int .u16 r1, .int .u32 r2, .string r3, .string t0, .int .u16 t1, .int .u32 t2, .string t3, .slice A1 (T - I1) c1, .slice A2 (bh - T1) c2] 0
          have hgl : w.heap.size ≤ g := by rw [HG.out]; exact Nat.le_refl _
          have hge : g < we.heap.size := HCE.out.lt
          have hb5 := below_setCells' hgl [.string r0, .int .u16 r1, .int .u32 r2, .string r3, .string t0, .int .u16 t1, .int .u32 t2, .string t3, .slice A1 (T - I1) c1, .slice A2 (bh - T1) c2] 0 (below_trans HBE.out HBE.out.size hb4)
          have O1 := Lib.hid ((ho1.out HBE.out.size HBE.out).block hb5 (by rw [hst.1]; exact Nat.le_refl _) (fun k hk => hst.2 k (fun e => by have := (ho1.lt k hk).1; omega)))
          have O2 := Lib.hid ((ho2.out HBE.out.size HBE.out).block hb5 (by rw [hst.1]; exact Nat.le_refl _) (fun k hk => hst.2 k (fun e => by have := (ho2.lt k hk).1; omega)))
          clear hCG hst hgl hge hb5 ho1 ho2 hc hb4 x21
          go_wp2_with (first | refine wpList_load_mid rfl 43 _ rfl q 0 rfl _ _ HRQ.out Tryd.underlying43 rfl (by kernel_rfl) ?_ | refine wpList_store_mid rfl 43 _ _ rfl g 0 #[.string r0, .int .u16 r1, .int .u32 r2, .string r3, .string t0, .int .u16 t1, .int .u32 t2, .string t3, .slice A1 (T - I1) c1, .slice A2 (bh - T1) c2] rfl rfl HTH.out (by kernel_rfl) (by simp [Value.oneCell']) ?_)
          refine bodyPost_ret (v := .tuple #[.agg #[.string r0, .int .u16 r1, .int .u32 r2, .string r3, .string t0, .int .u16 t1, .int .u32 t2, .string t3, .slice A1 (T - I1) c1, .slice A2 (bh - T1) c2], .int .i64 (bh : Nat), .nilIface]) (results_cellD Tryd.results45 _ _ _ g 0 _ _ rfl HM.out.range Tryd.underlying43 rfl (by kernel_rfl)) rfl ?_
          exact HFIN.out _ _ _ O1.out O2.out
    · have hq : ((S : Int) == (fr : Int)) = false := by rw [beq_eq_false_iff_ne]; omega
      have hq2 : ((S : Int) != (fr : Int)) = true := by simp [bne, hq]
      have hdr : deltaR sf fr rs i = .inl 5 := by rw [HDR.out, HES.out, if_pos rfl, ← HSS.out, if_neg hsf]
      have HFR := Lib.hid hdr
      obtain ⟨hbx, hcx⟩ := OUT.out _ HBC.out
      have HTH := Lib.hid (hcx.there 10 rfl)
      have HM := Lib.hid (hcx.mid delZ rfl)
      have HBM := Lib.hid (below_setCells' (B := w.heap.size) (g := g) (by rw [HG.out]; exact Nat.le_refl _) delZ 0 hbx)
      clear hdr hbx hcx
      go_wp2_with (first | refine wpList_store_mid rfl 43 _ _ rfl g 0 delZ.toArray rfl rfl HTH.out (by kernel_rfl) (by simp [delZ, Value.oneCell']) ?_)
      refine bodyPost_ret (v := .tuple #[.agg delZ.toArray, .int .i64 0, .iface 36 (.int .i64 (5 : Nat))]) (results_cellD Tryd.results45 _ _ _ g 0 _ _ rfl HM.out.range Tryd.underlying43 rfl (by kernel_rfl)) rfl ?_
      exact HFAIL.out 5 HFR.out _ HBM.out
end Go.Proofs.YtpbbnpglcadimaaDoor
namespace Go.Proofs.YtpbbnpglcadimaaDoor
open Go.RowKit
set_option linter.unusedVariables false
set_option linter.unusedSimpArgs false
set_option maxRecDepth 20000
attribute [local simp] putsF isV wordOf Deps Region.binds Region.wanted Act.put wantedX isB
/-- Where a delta begins, its second SOA, the place behind it. -/
abbrev DTrip := Nat × Nat × Nat
def rAt (rs : List RecT) (i : Nat) : RecT := rs[i]?.getD (⟨#[]⟩, 0, 0, ⟨#[]⟩)
theorem rAt_of {rs : List RecT} {i : Nat} {r : RecT} (h : rs[i]? = some r) : rAt rs i = r := by unfold rAt; rw [h]; rfl
def deltasG (sf : RecT → Nat) (rs : List RecT) : Nat → Nat → Nat → Nat ⊕ List DTrip
  | 0, _, _ => .inr []
  | k + 1, fr, i => if i < rs.length - 1 then (match deltaR sf fr rs i with
      | .inl e => .inl e
      | .inr (t, b) => (match deltasG sf rs k (sf (rAt rs t)) b with
        | .inl e => .inl e
        | .inr ds => .inr ((i, t, b) :: ds))) else .inr []
def preD (done : List DTrip) : Nat ⊕ List DTrip → Nat ⊕ List DTrip
  | .inl e => .inl e
  | .inr ds => .inr (done ++ ds)
theorem deltasG_stop {sf : RecT → Nat} {rs : List RecT} {k fr i : Nat} (h : ¬ i < rs.length - 1) : deltasG sf rs k fr i = .inr [] := by
  cases k with
  | zero => rfl
  | succ k => unfold deltasG; rw [if_neg h]
theorem deltasG_err {sf : RecT → Nat} {rs : List RecT} {k fr i e : Nat} (h : i < rs.length - 1) (hk : 0 < k) (he : deltaR sf fr rs i = .inl e) : deltasG sf rs k fr i = .inl e := by
  cases k with
  | zero => omega
  | succ k => unfold deltasG; rw [if_pos h, he]
theorem deltasG_next {sf : RecT → Nat} {rs : List RecT} {k fr i t b : Nat} (done : List DTrip) (h : i < rs.length - 1) (he : deltaR sf fr rs i = .inr (t, b)) : preD done (deltasG sf rs (k + 1) fr i) = preD (done ++ [(i, t, b)]) (deltasG sf rs k (sf (rAt rs t)) b) := by
  conv => lhs; unfold deltasG
  rw [if_pos h, he]
  simp only
  cases deltasG sf rs k (sf (rAt rs t)) b with
  | inl e => rfl
  | inr ds => simp [preD]
def endOk (rs : List RecT) (ts : List DTrip) : Bool := match ts.getLast? with
  | none => false
  | some x => eqB (rAt rs (rs.length - 1)) (rAt rs 0) && eqB (rAt rs x.2.1) (rAt rs 0)
/-- The deltas, or why there are none. -/
def deltasR (sf : RecT → Nat) (fr : Nat) (rs : List RecT) : Nat ⊕ List DTrip := match deltasG sf rs rs.length fr 1 with
  | .inl e => .inl e
  | .inr ts => if endOk rs ts = true then .inr ts else .inl 4
/-- A delta: its places, the slices that it holds. -/
abbrev DT := DTrip × Value × Value
def delX (rs : List RecT) (x : DT) : List Value := delC (rAt rs x.1.1) (rAt rs x.1.2.1) x.2.1 x.2.2
def flatD (rs : List RecT) (xs : List DT) : List Value := xs.flatMap (delX rs)
theorem flatD_len (rs : List RecT) (xs : List DT) : (flatD rs xs).length = xs.length * 10 := by
  unfold flatD
  induction xs with
  | nil => rfl
  | cons x xs ih => rw [List.flatMap_cons, List.length_append, ih, List.length_cons, show (delX rs x).length = 10 from rfl]; omega
theorem flatD_snoc (rs : List RecT) (xs : List DT) (x : DT) : flatD rs (xs ++ [x]) = flatD rs xs ++ delX rs x := by unfold flatD; simp
structure DOk (W : World) (rs : List RecT) (x : DT) (w : World) : Prop where
  gone : OBM 4 W.heap.size W x.2.1 (x.1.2.1 - (x.1.1 + 1)) (flatR ((rs.drop (x.1.1 + 1)).take (x.1.2.1 - (x.1.1 + 1)))) w
  new : OBM 4 W.heap.size W x.2.2 (x.1.2.2 - (x.1.2.1 + 1)) (flatR ((rs.drop (x.1.2.1 + 1)).take (x.1.2.2 - (x.1.2.1 + 1)))) w
theorem DOk.keep {W w w' : World} {C : Nat} {rs : List RecT} {x : DT} (h : DOk W rs x w) (hb : Below C w w') (hC : w.heap.size ≤ C) : DOk W rs x w' := ⟨h.gone.keep hb hC, h.new.keep hb hC⟩
theorem DOk.out {W W' w : World} {rs : List RecT} {x : DT} (h : DOk W rs x w) (hC : W'.heap.size ≤ W.heap.size) (h0 : Below W'.heap.size W' W) : DOk W' rs x w := ⟨h.gone.out hC h0, h.new.out hC h0⟩
/-- What the deltas hold does not lie where the deltas do. -/
def DJ (xs : List DT) (vo : Value) : Prop := ∀ x ∈ xs, ∀ q, vo.ownBlock = some q → x.2.1.ownBlock ≠ some q ∧ x.2.2.ownBlock ≠ some q
theorem dok_append {W w w' : World} {rs : List RecT} {xs : List DT} {vo : Value} (hx : ∀ x ∈ xs, DOk W rs x w) (dj : DJ xs vo) (hb : Below W.heap.size W w') (hs : w.heap.size ≤ w'.heap.size) (q3 : ∀ k, k < w.heap.size → some k ≠ vo.ownBlock → w'.heap[k]? = w.heap[k]?) : ∀ x ∈ xs, DOk W rs x w' :=
  fun x hm => ⟨(hx x hm).gone.block hb hs (fun k hk => q3 k ((hx x hm).gone.lt k hk).2 (fun e => (dj x hm k e.symm).1 hk)), (hx x hm).new.block hb hs (fun k hk => q3 k ((hx x hm).new.lt k hk).2 (fun e => (dj x hm k e.symm).2 hk))⟩
theorem dj_append {W w : World} {rs : List RecT} {xs : List DT} {vo v' : Value} (hx : ∀ x ∈ xs, DOk W rs x w) (dj : DJ xs vo) (q4 : v'.ownBlock = vo.ownBlock ∨ v'.ownBlock = some w.heap.size) : DJ xs v' := by
  intro x hm q hq
  rcases q4 with h | h
  · rw [h] at hq; exact dj x hm q hq
  · rw [h] at hq
    injection hq with hq
    subst hq
    exact ⟨fun e => by have := ((hx x hm).gone.lt _ e).2; omega, fun e => by have := ((hx x hm).new.lt _ e).2; omega⟩
theorem preD_nil (s : Nat ⊕ List DTrip) : preD [] s = s := by cases s <;> rfl
theorem soa_next {rs : List RecT} {i : Nat} (h : nextS rs i < rs.length) : ∃ r, rs[nextS rs i]? = some r ∧ soaB r = true := by
  refine ⟨_, List.getElem?_eq_getElem h, ?_⟩
  have key : ∀ (l : List RecT) (hk : (l.takeWhile fun r => !soaB r).length < l.length), soaB (l[(l.takeWhile fun r => !soaB r).length]'hk) = true := by
    intro l
    induction l with
    | nil => intro hk; simp at hk
    | cons a l ih =>
      intro hk
      cases ha : soaB a with
      | true => simp [List.takeWhile_cons, ha]
      | false =>
        have : ((a :: l).takeWhile fun r => !soaB r) = a :: (l.takeWhile fun r => !soaB r) := by simp [List.takeWhile_cons, ha]
        simp only [this, List.length_cons] at hk ⊢
        simp only [List.getElem_cons_succ]
        exact ih (by omega)
  have h1 : ((rs.drop i).takeWhile fun r => !soaB r).length < (rs.drop i).length := by unfold nextS at h; rw [List.length_drop]; omega
  have := key (rs.drop i) h1
  rw [List.getElem_drop] at this
  unfold nextS
  exact this
theorem deltaR_good {sf : RecT → Nat} {fr i t b : Nat} {rs : List RecT} (h : deltaR sf fr rs i = .inr (t, b)) : i + 1 ≤ t ∧ t + 1 ≤ b ∧ b ≤ rs.length - 1 ∧ ∃ r, rs[t]? = some r ∧ soaB r = true := by
  unfold deltaR at h
  split at h
  · cases h
  · split at h
    · split at h
      · split at h
        · cases h
        · rename_i hT
          injection h with h; injection h with h1 h2
          have g1 := nextS_ge rs (i + 1)
          have g2 := nextS_ge rs (nextS rs (i + 1) + 1)
          have g3 := soa_next (rs := rs) (i := i + 1) (by omega)
          rw [h1] at g1 g2 g3 hT h2
          exact ⟨g1, by omega, by omega, g3⟩
      · cases h
    · cases h
theorem delC_one {f t : RecT} {v1 v2 : Value} (h1 : v1.oneCell' = true) (h2 : v2.oneCell' = true) : ∀ u ∈ delC f t v1 v2, u.oneCell' = true := by
  intro u hu
  unfold delC at hu
  simp only [List.mem_cons, List.not_mem_nil, or_false] at hu
  rcases hu with rfl | rfl | rfl | rfl | rfl | rfl | rfl | rfl | rfl | rfl <;> first | rfl | assumption
theorem del_info : (Tryd.prog.info? 43).map (fun i => (i.zero, i.size, i.bytes)) = some (some (.agg delZ.toArray), 10, 128) := by kernel_rfl
/-- deltas' answer. -/
def DeltasA (sf : RecT → Nat) (fr : Nat) (rs : List RecT) (w : World) (e : Ending) (w' : World) : Prop :=
  (∃ er : Nat, deltasR sf fr rs = .inl er ∧ e = .returned (.tuple #[.slice none 0 0, .iface 36 (.int .i64 er)]) ∧ Below w.heap.size w w') ∨
  (∃ (ts : List DTrip) (xs : List DT) (v : Value), deltasR sf fr rs = .inr ts ∧ xs.map (·.1) = ts ∧ e = .returned (.tuple #[v, .nilIface]) ∧ OBM 10 w.heap.size w v xs.length (flatD rs xs) w' ∧ ∀ x ∈ xs, DOk w rs x w')
set_option maxHeartbeats 3200000 in
theorem deltas_any (sf : RecT → Nat) (fr bb off n c : Nat) (rs : List RecT) (w : World) (h : Recs w (some ⟨bb, off, none⟩) rs) (hl : rs.length = n) (hn : n ≤ 1000) (h2 : 2 ≤ n) (hc : n ≤ c) (hc2 : c ≤ maxLen)
    (hs : ∀ r ∈ rs, soaB r = true → ∀ w, Calls Tryd.prog 22 #[recV r] w fun e w' => e = .returned (.int .u32 (sf r : Nat)) ∧ Below w.heap.size w w') :
    Calls Tryd.prog 24 #[.int .u32 (fr : Nat), .slice (some ⟨bb, off, none⟩) n c] w (DeltasA sf fr rs w) := by
  obtain ⟨AR, hAR⟩ : ∃ R, R = DeltasA sf fr rs w := ⟨_, rfl⟩
  rw [← hAR]
  have HFAIL : Hid (∀ er : Nat, deltasR sf fr rs = .inl er → ∀ w', Below w.heap.size w w' → AR (.returned (.tuple #[.slice none 0 0, .iface 36 (.int .i64 er)])) w') := Lib.hid (fun er hf w' hb => by rw [hAR]; exact .inl ⟨er, hf, rfl, hb⟩)
  have HGOOD : Hid (∀ (xs : List DT) v w', deltasR sf fr rs = .inr (xs.map (·.1)) → OBM 10 w.heap.size w v xs.length (flatD rs xs) w' → (∀ x ∈ xs, DOk w rs x w') → AR (.returned (.tuple #[v, .nilIface])) w') := Lib.hid (fun xs v w' h1 h2 h3 => by rw [hAR]; exact .inr ⟨_, xs, v, h1, rfl, rfl, h2, h3⟩)
  have HDS : Hid (deltasR sf fr rs = match deltasG sf rs n fr 1 with
    | .inl e => .inl e
    | .inr ts => if endOk rs ts = true then .inr ts else .inl 4) := Lib.hid (by unfold deltasR; rw [hl])
  have DEL : Hid (∀ (i fr : Nat) wx, i < n - 1 → Below w.heap.size w wx → Calls Tryd.prog 45 #[.int .u32 (fr : Nat), .slice (some ⟨bb, off, none⟩) n c, .int .i64 (i : Nat)] wx fun e w' =>
      (∃ er : Nat, deltaR sf fr rs i = .inl er ∧ (∃ EX, EX = Value.agg delZ.toArray ∧ e = .returned (.tuple #[EX, .int .i64 0, .iface 36 (.int .i64 er)])) ∧ Below wx.heap.size wx w') ∨
      (∃ (x : DT) (A1 : Option Addr) (c1 : Nat) (A2 : Option Addr) (c2 : Nat), x.1.1 = i ∧ deltaR sf fr rs i = .inr (x.1.2.1, x.1.2.2) ∧ x.2.1 = .slice A1 (x.1.2.1 - (x.1.1 + 1)) c1 ∧ x.2.2 = .slice A2 (x.1.2.2 - (x.1.2.1 + 1)) c2 ∧ (∃ EX, EX = Value.agg (delX rs x).toArray ∧ e = .returned (.tuple #[EX, .int .i64 (x.1.2.2 : Nat), .nilIface])) ∧ DOk wx rs x w')) :=
    Lib.hid (fun i fr wx hi hb => (delta_any sf fr bb off n c i rs wx (h.below hb) hl hn (by omega) hc hc2 hs).mono (by
      rintro e w' (⟨er, h1, rfl, h3⟩ | ⟨tq, bh, f, t, v1, v2, h1, h2, h3, rfl, o1, o2⟩)
      · exact .inl ⟨er, h1, ⟨_, rfl, rfl⟩, h3⟩
      · obtain ⟨A1, c1, e1, -⟩ := o1.slice
        obtain ⟨A2, c2, e2, -⟩ := o2.slice
        refine .inr ⟨((i, tq, bh), v1, v2), A1, c1, A2, c2, rfl, h1, e1, e2, ⟨_, rfl, ?_⟩, ⟨o1, o2⟩⟩
        unfold delX
        rw [rAt_of h2, rAt_of h3]))
  have SE : Hid (∀ (x : DT) (i fr : Nat), deltaR sf fr rs i = .inr (x.1.2.1, x.1.2.2) → ∀ wx, Calls Tryd.prog 22 #[recV (rAt rs x.1.2.1)] wx fun e w' => e = .returned (.int .u32 (sf (rAt rs x.1.2.1) : Nat)) ∧ Below wx.heap.size wx w') := Lib.hid (fun x i fr hd wx => by
    obtain ⟨-, -, -, r, hr, hsr⟩ := deltaR_good hd
    rw [rAt_of hr]
    exact hs r (List.mem_of_getElem? hr) hsr wx)
  have HALL := Lib.hid h
  have HL := Lib.hid hl
  obtain ⟨i0, hi0, hz0, hz1, hz2⟩ := info_parts4 del_info
  clear h hl hs hAR
  go_enter Tryd.func24, Tryd.ntmps24
  go_wp2_with fail
  go_loopw [0, 7, 8] (fun vf vo va wr => ∃ (fr2 k : Nat) (xs : List DT) (fu : Nat), vf = .int .u32 (fr2 : Nat) ∧ va = .int .i64 (k : Nat) ∧ 1 ≤ k ∧ k ≤ n - 1 ∧ Hid (n ≤ k + fu) ∧ Hid (xs.length + 1 ≤ k) ∧ Hid (OBM 10 w.heap.size w vo xs.length (flatD rs xs) wr) ∧ Hid (∀ x ∈ xs, DOk w rs x wr) ∧
      Hid (DJ xs vo) ∧ Hid (deltasG sf rs n fr 1 = preD (xs.map (·.1)) (deltasG sf rs fu fr2 k))) (fun _ _ a _ => n - (intOf a).toNat)
  case atStart => exact ⟨fr, 1, [], n, rfl, rfl, Nat.le_refl _, by omega, Lib.hid (by omega), Lib.hid (by simp), Lib.hid (OBM.start w), Lib.hid (by simp), Lib.hid (by intro x hx; simp at hx), Lib.hid (preD_nil _).symm⟩
  case round =>
    obtain ⟨fr2, k, xs, fu, rfl, rfl, hk1, hkL, HFU, HXK, HO, HX, HDJ, HG⟩ := hrel
    by_cases hlt : k < n - 1
    · have hlt' : (k : Int) < ((n - 1 : Nat) : Int) := by omega
      have DE := Lib.hid (fun (wx : World) (hb : Below w.heap.size w wx) => DEL.out k fr2 wx hlt hb)
      have HB := Lib.hid HO.out.bel
      obtain ⟨VO, CO, rfl, -⟩ := HO.out.slice
      go_upto_region 5 with fail
      go_wp2_with fail
      refine (DE.out _ HB.out).mono ?_
      rintro e wa (⟨er, hde, ⟨EX, hEX, rfl⟩, hba⟩ | ⟨x, A1, c1, A2, c2, hx0, hde, hx1, hx2, ⟨EX, hEX, rfl⟩, hdo⟩)
      · have hF : deltasR sf fr rs = .inl er := by
          rw [HDS.out, HG.out, deltasG_err (by rw [HL.out]; exact hlt) (by have := HFU.out; omega) hde]
          rfl
        have HF := Lib.hid hF
        have HEX := Lib.hid hEX
        have hZ := Cs.new wa #[.string ⟨#[]⟩, .int .u16 0, .int .u32 0, .string ⟨#[]⟩, .string ⟨#[]⟩, .int .u16 0, .int .u32 0, .string ⟨#[]⟩, .slice none 0 0, .slice none 0 0] 43 delZ
        have HTH := Lib.hid (hZ.there 10 rfl)
        have HBM := Lib.hid (below_setCells' (B := w.heap.size) (g := wa.heap.size) (Nat.le_trans HB.out.size hba.size) delZ 0 ((below_trans HB.out HB.out.size hba).alloc (Nat.le_trans HB.out.size hba.size) (.cells #[.string ⟨#[]⟩, .int .u16 0, .int .u32 0, .string ⟨#[]⟩, .string ⟨#[]⟩, .int .u16 0, .int .u32 0, .string ⟨#[]⟩, .slice none 0 0, .slice none 0 0] 43)))
        clear hF hEX hZ hba hde
        go_wp2_with (first | refine wpList_store_mid rfl 43 _ _ rfl wa.heap.size 0 delZ.toArray rfl HEX.out HTH.out (by kernel_rfl) (by simp [delZ, Value.oneCell']) ?_)
        exact HFAIL.out er HF.out _ HBM.out
      · obtain ⟨⟨i', tq, bh⟩, V1, V2⟩ := x
        simp only at hx0 hde hx1 hx2
        subst hx0
        have hgd := deltaR_good hde
        rw [HL.out] at hgd
        obtain ⟨hg1, hg2, hg3, -⟩ := hgd
        have SEX := Lib.hid (SE.out ((i', tq, bh), V1, V2) i' fr2 hde)
        have HNX := Lib.hid (deltasG_next (sf := sf) (k := fu - 1) (xs.map (·.1)) (by rw [HL.out]; exact hlt) hde)
        obtain ⟨m1, hm1⟩ : ∃ m, m = tq - (i' + 1) := ⟨_, rfl⟩
        obtain ⟨m2, hm2⟩ : ∃ m, m = bh - (tq + 1) := ⟨_, rfl⟩
        rw [← hm1] at hx1
        rw [← hm2] at hx2
        subst hx1 hx2
        have HXN := Lib.hid hdo
        have hfd : flatD rs (xs ++ [((i', tq, bh), .slice A1 m1 c1, .slice A2 m2 c2)]) = flatD rs xs ++ delX rs ((i', tq, bh), .slice A1 m1 c1, .slice A2 m2 c2) := flatD_snoc _ _ _
        unfold delX delC at hEX hfd
        simp only at hEX hfd
        have SEX : Hid (∀ wx, Calls Tryd.prog 22 #[recV (rAt rs tq)] wx fun e w' => e = .returned (.int .u32 (sf (rAt rs tq) : Nat)) ∧ Below wx.heap.size wx w') := SEX
        unfold recV at SEX
        obtain ⟨f, hf⟩ : ∃ f, f = rAt rs i' := ⟨_, rfl⟩
        obtain ⟨t, ht⟩ : ∃ f, f = rAt rs tq := ⟨_, rfl⟩
        rw [← hf, ← ht] at hEX hfd
        rw [← ht] at SEX HNX
        clear hf ht hm1 hm2
        obtain ⟨f0, f1, f2, f3⟩ := f
        obtain ⟨SV, hSV⟩ : ∃ S, S = sf t := ⟨_, rfl⟩
        rw [← hSV] at SEX HNX
        clear hSV
        obtain ⟨t0, t1, t2, t3⟩ := t
        simp only at SEX hEX hfd
        have HEX : Hid (EX = .agg #[.string f0, .int .u16 f1, .int .u32 f2, .string f3, .string t0, .int .u16 t1, .int .u32 t2, .string t3, .slice A1 m1 c1, .slice A2 m2 c2]) := Lib.hid hEX
        have HFD := Lib.hid hfd
        have hbw : Below wr.heap.size wr wa := hdo.gone.bel
        have hZ := Cs.new wa #[.string ⟨#[]⟩, .int .u16 0, .int .u32 0, .string ⟨#[]⟩, .string ⟨#[]⟩, .int .u16 0, .int .u32 0, .string ⟨#[]⟩, .slice none 0 0, .slice none 0 0] 43 delZ
        have HTH := Lib.hid (hZ.there 10 rfl)
        have hM5 := hZ.mid [.string f0, .int .u16 f1, .int .u32 f2, .string f3, .string t0, .int .u16 t1, .int .u32 t2, .string t3, .slice A1 m1 c1, .slice A2 m2 c2] rfl
        have hb5 : Below wa.heap.size wa ((wa.alloc (.cells #[.string ⟨#[]⟩, .int .u16 0, .int .u32 0, .string ⟨#[]⟩, .string ⟨#[]⟩, .int .u16 0, .int .u32 0, .string ⟨#[]⟩, .slice none 0 0, .slice none 0 0] 43)).setCells wa.heap.size 0 [.string f0, .int .u16 f1, .int .u32 f2, .string f3, .string t0, .int .u16 t1, .int .u32 t2, .string t3, .slice A1 m1 c1, .slice A2 m2 c2]) := below_setCells' (Nat.le_refl _) _ 0 ((Below.refl _ _).alloc (Nat.le_refl _) _)
        have H5 := Lib.hid (And.intro hM5 (And.intro hb5 hbw))
        have hxl : xs.length ≤ 1000 := by have := HXK.out; omega
        have HXL := Lib.hid hxl
        clear hEX hfd hZ hM5 hb5 hbw hdo hxl hde
        go_upto_region 6 with (first | refine wpList_store_mid rfl 43 _ _ rfl wa.heap.size 0 #[.string f0, .int .u16 f1, .int .u32 f2, .string f3, .string t0, .int .u16 t1, .int .u32 t2, .string t3, .slice A1 m1 c1, .slice A2 m2 c2] rfl HEX.out HTH.out (by kernel_rfl) (by simp [Value.oneCell']) ?_)
        obtain ⟨hM5, hb5, hbw⟩ := H5.out
        generalize (wa.alloc (.cells #[.string ⟨#[]⟩, .int .u16 0, .int .u32 0, .string ⟨#[]⟩, .string ⟨#[]⟩, .int .u16 0, .int .u32 0, .string ⟨#[]⟩, .slice none 0 0, .slice none 0 0] 43)).setCells wa.heap.size 0 [.string f0, .int .u16 f1, .int .u32 f2, .string f3, .string t0, .int .u16 t1, .int .u32 t2, .string t3, .slice A1 m1 c1, .slice A2 m2 c2] = w5 at *
        obtain ⟨q, hq⟩ : ∃ g, g = wa.heap.size := ⟨_, rfl⟩
        rw [← hq] at hM5 ⊢
        have HQ := Lib.hid hq
        have HC5 := Lib.hid hM5
        have HB5 := Lib.hid (below_trans hbw hbw.size hb5)
        have HWA := Lib.hid (And.intro hbw hb5)
        have HRX := Lib.hid hM5.range
        have ho5 := HO.out.keep HB5.out (Nat.le_refl _)
        have ho := Lib.hid (ho5.alloc (.cells #[.string f0, .int .u16 f1, .int .u32 f2, .string f3, .string t0, .int .u16 t1, .int .u32 t2, .string t3, .slice A1 m1 c1, .slice A2 m2 c2] 43))
        have hS : Hid (Src Tryd.prog 10 29 (.slice (some ⟨w5.heap.size, 0, none⟩) 1 1) 1 [.string f0, .int .u16 f1, .int .u32 f2, .string f3, .string t0, .int .u16 t1, .int .u32 t2, .string t3, .slice A1 m1 c1, .slice A2 m2 c2] (w5.alloc (.cells #[.string f0, .int .u16 f1, .int .u32 f2, .string f3, .string t0, .int .u16 t1, .int .u32 t2, .string t3, .slice A1 m1 c1, .slice A2 m2 c2] 43))) := by
          refine Lib.hid (Src.ofSlice _ Tryd.underlying29 _ 1 1 _ rfl ?_ (delC_one (f := (f0, f1, f2, f3)) (t := (t0, t1, t2, t3)) rfl rfl))
          exact news_at w5 #[.string f0, .int .u16 f1, .int .u32 f2, .string f3, .string t0, .int .u16 t1, .int .u32 t2, .string t3, .slice A1 m1 c1, .slice A2 m2 c2] _
        clear hM5 hb5 hbw hq ho5 H5 HTH
        go_wp2_with (first | (at_builtin; go_loud (refine wpList_append_obm rfl _ _ 29 29 rfl 43 i0 _ 128 Tryd.underlying29 hi0 hz0 hz1 hz2 rfl ho.out rfl rfl hS.out rfl (by have := HXL.out; unfold maxLen; omega) (by have := HXL.out; omega) ?_)) | refine wpList_load_mid rfl 43 _ rfl q 0 rfl _ _ HRX.out Tryd.underlying43 rfl (by kernel_rfl) ?_)
        intro v' w' q1 q2 q3 q4
        have q2 : (w5.alloc (.cells #[.string f0, .int .u16 f1, .int .u32 f2, .string f3, .string t0, .int .u16 t1, .int .u32 t2, .string t3, .slice A1 m1 c1, .slice A2 m2 c2] 43)).heap.size ≤ w'.heap.size := by simpa using q2
        have q3 : ∀ k, k < (w5.alloc (.cells #[.string f0, .int .u16 f1, .int .u32 f2, .string f3, .string t0, .int .u16 t1, .int .u32 t2, .string t3, .slice A1 m1 c1, .slice A2 m2 c2] 43)).heap.size → some k ≠ (Value.slice VO xs.length CO).ownBlock → w'.heap[k]? = (w5.alloc (.cells #[.string f0, .int .u16 f1, .int .u32 f2, .string f3, .string t0, .int .u16 t1, .int .u32 t2, .string t3, .slice A1 m1 c1, .slice A2 m2 c2] 43)).heap[k]? := fun k hk hne => q3 k (by simpa using hk) hne
        have q4 : v'.ownBlock = (Value.slice VO xs.length CO).ownBlock ∨ v'.ownBlock = some (w5.alloc (.cells #[.string f0, .int .u16 f1, .int .u32 f2, .string f3, .string t0, .int .u16 t1, .int .u32 t2, .string t3, .slice A1 m1 c1, .slice A2 m2 c2] 43)).heap.size := by
          rcases q4 with h | h
          · exact .inl h
          · exact .inr (by rw [h]; simp)
        have hqo : ∀ k, (Value.slice VO xs.length CO).ownBlock = some k → k < wr.heap.size := fun k hk => (HO.out.lt k hk).2
        have hqs : wa.heap.size < w5.heap.size := by have := HC5.out.lt; rw [HQ.out] at this; exact this
        have hx5 : ∀ x ∈ xs, DOk w rs x (w5.alloc (.cells #[.string f0, .int .u16 f1, .int .u32 f2, .string f3, .string t0, .int .u16 t1, .int .u32 t2, .string t3, .slice A1 m1 c1, .slice A2 m2 c2] 43)) := fun x hx => ((HX.out x hx).keep HB5.out (Nat.le_refl _)).keep ((Below.refl w5.heap.size w5).alloc (Nat.le_refl _) (.cells #[.string f0, .int .u16 f1, .int .u32 f2, .string f3, .string t0, .int .u16 t1, .int .u32 t2, .string t3, .slice A1 m1 c1, .slice A2 m2 c2] 43)) (Nat.le_refl _)
        have hxn5 : DOk w rs ((i', tq, bh), .slice A1 m1 c1, .slice A2 m2 c2) (w5.alloc (.cells #[.string f0, .int .u16 f1, .int .u32 f2, .string f3, .string t0, .int .u16 t1, .int .u32 t2, .string t3, .slice A1 m1 c1, .slice A2 m2 c2] 43)) := ((HXN.out.keep HWA.out.2 (Nat.le_refl _)).keep ((Below.refl w5.heap.size w5).alloc (Nat.le_refl _) (.cells #[.string f0, .int .u16 f1, .int .u32 f2, .string f3, .string t0, .int .u16 t1, .int .u32 t2, .string t3, .slice A1 m1 c1, .slice A2 m2 c2] 43)) (Nat.le_refl _)).out HB.out.size HB.out
        have hxa : ∀ x ∈ xs ++ [((i', tq, bh), Value.slice A1 m1 c1, Value.slice A2 m2 c2)], DOk w rs x (w5.alloc (.cells #[.string f0, .int .u16 f1, .int .u32 f2, .string f3, .string t0, .int .u16 t1, .int .u32 t2, .string t3, .slice A1 m1 c1, .slice A2 m2 c2] 43)) := fun x hx => by
          rcases List.mem_append.1 hx with hx | hx
          · exact hx5 x hx
          · rw [List.mem_singleton] at hx; rw [hx]; exact hxn5
        have hdja : DJ (xs ++ [((i', tq, bh), Value.slice A1 m1 c1, Value.slice A2 m2 c2)]) (.slice VO xs.length CO) := fun x hx b hb => by
          rcases List.mem_append.1 hx with hx | hx
          · exact HDJ.out x hx b hb
          · rw [List.mem_singleton] at hx
            rw [hx]
            have hbl := hqo b hb
            exact ⟨fun e => by have := (HXN.out.gone.lt b e).1; omega, fun e => by have := (HXN.out.new.lt b e).1; omega⟩
        have XA := Lib.hid (dok_append hxa hdja q1.bel q2 q3)
        have DA := Lib.hid (dj_append hxa hdja q4)
        have hcq : Cs w' q [.string f0, .int .u16 f1, .int .u32 f2, .string f3, .string t0, .int .u16 t1, .int .u32 t2, .string t3, .slice A1 m1 c1, .slice A2 m2 c2] := (HC5.out.alloc (.cells #[.string f0, .int .u16 f1, .int .u32 f2, .string f3, .string t0, .int .u16 t1, .int .u32 t2, .string t3, .slice A1 m1 c1, .slice A2 m2 c2] 43)).block (q3 q (by have := (HC5.out.alloc (.cells #[.string f0, .int .u16 f1, .int .u32 f2, .string f3, .string t0, .int .u16 t1, .int .u32 t2, .string t3, .slice A1 m1 c1, .slice A2 m2 c2] 43)).lt; exact this) (fun e => by
          have := hqo q e.symm
          have h1 := HWA.out.1.size
          rw [HQ.out] at this
          omega)) q2
        have HRT := Lib.hid (hcq.part 4 4 [.string t0, .int .u16 t1, .int .u32 t2, .string t3] rfl)
        have HO' := Lib.hid q1
        clear q1 q2 q3 q4 hqo hqs hx5 hxn5 hxa hdja hcq ho hS HRX
        go_wp2_with (first | refine wpList_load_mid rfl 41 _ rfl q 4 rfl _ _ HRT.out Tryd.underlying41 rfl (by kernel_rfl) ?_)
        refine (SEX.out _).mono ?_
        rintro e w8 ⟨rfl, hb8⟩
        have HB8 := Lib.hid hb8
        clear hb8 SEX
        go_wp2_with fail
        go_round
        case rel =>
          refine ⟨SV, bh, xs ++ [((i', tq, bh), .slice A1 m1 c1, .slice A2 m2 c2)], fu - 1, rfl, rfl, by omega, hg3, Lib.hid (by have := HFU.out; omega), Lib.hid (by rw [List.length_append]; have := HXK.out; simp; omega), Lib.hid ?_, Lib.hid (fun x hx => (XA.out x hx).keep HB8.out (Nat.le_refl _)), DA, Lib.hid ?_⟩
          · rw [HFD.out, List.length_append]
            exact HO'.out.keep HB8.out (Nat.le_refl _)
          · have h1 := HNX.out
            have hfu : fu - 1 + 1 = fu := by have := HFU.out; omega
            rw [hfu] at h1
            rw [HG.out, h1, List.map_append]
            rfl
        case measure => simp [intOf]; omega
    · have hlt' : ¬ (k : Int) < ((n - 1 : Nat) : Int) := by omega
      go_upto_region 10 with fail
      have HDR : Hid (deltasR sf fr rs = if endOk rs (xs.map (·.1)) = true then .inr (xs.map (·.1)) else .inl 4) := Lib.hid (by
        rw [HDS.out, HG.out, deltasG_stop (by rw [HL.out]; exact hlt)]
        simp [preD])
      have HB := Lib.hid HO.out.bel
      obtain ⟨rl, hrl⟩ : ∃ r, rs[n - 1]? = some r := ⟨_, List.getElem?_eq_getElem (by rw [HL.out]; omega)⟩
      obtain ⟨rf, hrf⟩ : ∃ r, rs[0]? = some r := ⟨_, List.getElem?_eq_getElem (by rw [HL.out]; omega)⟩
      have HAL := Lib.hid (rAt_of hrl)
      have HAF := Lib.hid (rAt_of hrf)
      obtain ⟨b1, o1, hA1, hb1, hr1⟩ := HALL.out.range hrl
      injection hA1 with hA1; injection hA1 with q1 q2; subst q1 q2
      obtain ⟨b2, o2, hA2, hb2, hr2⟩ := HALL.out.range hrf
      injection hA2 with hA2; injection hA2 with q1 q2; subst q1 q2
      obtain ⟨L, hL⟩ : ∃ L, L = n - 1 := ⟨_, rfl⟩
      rw [← hL] at hr1 HAL
      have HRL : Hid (∀ wx, Below w.heap.size w wx → wx.rangeAt bb (off + L * 4) (recCells rl)) := Lib.hid (fun wx hb j v hv => (hb.cell (p := ⟨bb, off + L * 4 + j, none⟩) hb1).trans (hr1 j v hv))
      have HRF : Hid (∀ wx, Below w.heap.size w wx → wx.rangeAt bb off (recCells rf)) := Lib.hid (fun wx hb j v hv => (hb.cell (p := ⟨bb, off + j, none⟩) hb1).trans (by have := hr2 j v hv; simpa using this))
      obtain ⟨VL, hVL⟩ : ∃ v, v = recV rl := ⟨_, rfl⟩
      obtain ⟨VF, hVF⟩ : ∃ v, v = recV rf := ⟨_, rfl⟩
      have HVL := Lib.hid hVL
      have HVF := Lib.hid hVF
      have HLN := Lib.hid hL
      have hLn : (L : Int) < n := by omega
      have hLn' : L < n := by omega
      have hn0 : (0 : Int) < n := by omega
      have hn0' : 0 < n := by omega
      have HN1 : Hid (∀ w, (binOp .neq 41 VL VF).run Tryd.prog w = .ok (.bool (!eqB rl rf)) w) := Lib.hid (fun w => by rw [HVL.out, HVF.out]; exact rec_neq rl rf w)
      have hLi : (n : Int) - 1 = (L : Int) := by omega
      rw [hLi]
      clear hLi hrl hrf hb1 hr1 hb2 hr2 hVL hVF hL hlt hlt' HG HDS DEL SE HDJ HFU
      rcases List.eq_nil_or_concat xs with hxs | ⟨ys, x, hxs⟩
      · subst hxs
        have HEO : Hid (endOk rs (List.map (·.1) ([] : List DT)) = false) := Lib.hid rfl
        obtain ⟨VO, CO, hvo, -⟩ := HO.out.slice
        rw [List.length_nil] at hvo
        subst hvo
        refine wp_region_goesG data_follows (fun x => by simp [putsF, Act.put]; rfl) wr.heap.size wr
          [isV (.slice VO 0 CO), isV (.int .i64 0), isV (.bool true), isV (.bool true), isV undef, isV undef, isV undef, isV undef, isV undef, isV undef, isV undef, isV undef, isV (.bool true), isV (.bool true), isV undef, isV undef, isV undef, isV undef, isV undef, isV undef, isV undef, isV undef, isV undef, isV undef, isV undef, isV (.bool true)]
          (by kernel_rfl) (by kernel_rfl) (by kernel_rfl) rfl ?_ (Below.refl _ _) ?_ ?_
        · repeat (first | exact trivial | refine ⟨isV_stays _, ?_⟩)
        · refine ⟨?_, ?_, ?_, ?_, ?_, ?_, ?_, ?_, ?_, ?_, ?_, ?_, ?_, ?_, ?_, ?_, ?_, ?_, ?_, ?_, ?_, ?_, ?_, ?_, ?_, ?_, trivial⟩
          all_goals
            intro x wx hR hd
            simp at hd
          · refine ⟨fun _ => ?_, fun hX => by first | (simp at hX; done) | (simp [hd] at hX; done)⟩
            (try simp [hd]); go_simp; exact next_same _ rfl rfl hR
          · refine ⟨fun _ => ?_, fun hX => by first | (simp at hX; done) | (simp [hd] at hX; done)⟩
            (try simp [hd]); go_simp; exact next_same _ rfl rfl hR
          · refine ⟨fun _ => ?_, fun hX => by first | (simp at hX; done) | (simp [hd] at hX; done)⟩
            (try simp [hd]); go_simp; exact next_same _ rfl rfl hR
          · refine ⟨fun _ => ?_, fun hX => by first | (simp at hX; done) | (simp [hd] at hX; done)⟩
            (try simp [hd]); go_simp; exact next_same _ rfl rfl hR
          · refine ⟨fun hX => ?_, fun _ => rfl⟩
            exfalso; first | (simp [hd] at hX; done) | (simp [hd, undef] at hX; done)
          · refine ⟨fun hX => ?_, fun _ => rfl⟩
            exfalso; first | (simp [hd] at hX; done) | (simp [hd, undef] at hX; done)
          · refine ⟨fun hX => ?_, fun _ => rfl⟩
            exfalso; first | (simp [hd] at hX; done) | (simp [hd, undef] at hX; done)
          · refine ⟨fun hX => ?_, fun _ => rfl⟩
            exfalso; first | (simp [hd] at hX; done) | (simp [hd, undef] at hX; done)
          · refine ⟨fun hX => ?_, fun _ => rfl⟩
            exfalso; first | (simp [hd] at hX; done) | (simp [hd, undef] at hX; done)
          · refine ⟨fun hX => ?_, fun _ => rfl⟩
            exfalso; first | (simp [hd] at hX; done) | (simp [hd, undef] at hX; done)
          · refine ⟨fun hX => ?_, fun _ => rfl⟩
            exfalso; first | (simp [hd] at hX; done) | (simp [hd, undef] at hX; done)
          · refine ⟨fun hX => ?_, fun _ => rfl⟩
            exfalso; first | (simp [hd] at hX; done) | (simp [hd, undef] at hX; done)
          · refine ⟨fun _ => ?_, fun hX => by first | (simp at hX; done) | (simp [hd] at hX; done)⟩
            (try simp [hd]); go_simp; exact next_same _ rfl rfl hR
          · refine ⟨fun _ => ?_, fun hX => by first | (simp at hX; done) | (simp [hd] at hX; done)⟩
            (try simp [hd]); go_simp; exact next_same _ rfl rfl hR
          · refine ⟨fun hX => ?_, fun _ => rfl⟩
            exfalso; first | (simp [hd] at hX; done) | (simp [hd, undef] at hX; done)
          · refine ⟨fun hX => ?_, fun _ => rfl⟩
            exfalso; first | (simp [hd] at hX; done) | (simp [hd, undef] at hX; done)
          · refine ⟨fun hX => ?_, fun _ => rfl⟩
            exfalso; first | (simp [hd] at hX; done) | (simp [hd, undef] at hX; done)
          · refine ⟨fun hX => ?_, fun _ => rfl⟩
            exfalso; first | (simp [hd] at hX; done) | (simp [hd, undef] at hX; done)
          · refine ⟨fun hX => ?_, fun _ => rfl⟩
            exfalso; first | (simp [hd] at hX; done) | (simp [hd, undef] at hX; done)
          · refine ⟨fun hX => ?_, fun _ => rfl⟩
            exfalso; first | (simp [hd] at hX; done) | (simp [hd, undef] at hX; done)
          · refine ⟨fun hX => ?_, fun _ => rfl⟩
            exfalso; first | (simp [hd] at hX; done) | (simp [hd, undef] at hX; done)
          · refine ⟨fun hX => ?_, fun _ => rfl⟩
            exfalso; first | (simp [hd] at hX; done) | (simp [hd, undef] at hX; done)
          · refine ⟨fun hX => ?_, fun _ => rfl⟩
            exfalso; first | (simp [hd] at hX; done) | (simp [hd, undef] at hX; done)
          · refine ⟨fun hX => ?_, fun _ => rfl⟩
            exfalso; first | (simp [hd] at hX; done) | (simp [hd, undef] at hX; done)
          · refine ⟨fun hX => ?_, fun _ => rfl⟩
            exfalso; first | (simp [hd] at hX; done) | (simp [hd, undef] at hX; done)
          · refine ⟨fun _ => ?_, fun hX => by first | (simp at hX; done) | (simp [hd] at hX; done)⟩
            (try simp [hd]); go_simp; exact next_same _ rfl rfl hR
        intro x w7 hR hx
        simp [AllWords] at hx
        have h25 : x 25 = .bool true := by simp [hx]
        rw [h25]
        clear hx h25
        have HB7 := Lib.hid hR
        clear hR
        go_wp2_with fail
        exact HFAIL.out 4 (by rw [HDR.out, HEO.out]; rfl) _ (below_trans HB.out HB.out.size HB7.out)
      · rw [List.concat_eq_append] at hxs
        obtain ⟨M1, hM1⟩ : ∃ M, M = ys.length := ⟨_, rfl⟩
        obtain ⟨m, hm⟩ : ∃ m, m = xs.length := ⟨_, rfl⟩
        have hmM : m = M1 + 1 := by rw [hm, hxs, hM1]; simp
        have HM := Lib.hid hm.symm
        have hxk := HXK.out
        obtain ⟨VO, CO, hvo, hv1, hv2, hv3⟩ := HO.out.slice3
        rcases hv3 with ⟨-, h, -⟩ | ⟨g, hvg, -, hgw⟩
        · exfalso; omega
        subst hvg
        rw [← hm] at hvo hxk HO
        subst hvo
        have HEO0 : Hid (endOk rs (xs.map (·.1)) = (eqB rl rf && eqB (rAt rs x.1.2.1) rf)) := Lib.hid (by
          unfold endOk
          rw [hxs, List.map_append, List.map_cons, List.map_nil, List.getLast?_append, List.getLast?_singleton]
          simp only [Option.or]
          rw [HL.out, ← HLN.out, HAL.out, HAF.out])
        have hrt : ∀ wx, Below wr.heap.size wr wx → wx.rangeAt g (M1 * 10 + 4) (recCells (rAt rs x.1.2.1)) := fun wx hb j u hu => by
          refine (HO.out.keep hb (Nat.le_refl _)).cell (M1 * 10 + 4 + j) u ?_
          rw [hxs]
          unfold flatD
          rw [List.flatMap_append]
          have hfl : (List.flatMap (delX rs) ys).length = M1 * 10 := by rw [hM1]; exact flatD_len rs ys
          rw [List.getElem?_append_right (by omega), hfl, show M1 * 10 + 4 + j - M1 * 10 = 4 + j by omega, List.flatMap_singleton]
          unfold delX delC
          unfold recCells at hu
          match j, hu with
          | 0, hu => exact hu
          | 1, hu => exact hu
          | 2, hu => exact hu
          | 3, hu => exact hu
          | j + 4, hu => simp at hu
        have HRT := Lib.hid hrt
        generalize rAt rs x.1.2.1 = rt at *
        obtain ⟨VT, hVT⟩ : ∃ v, v = recV rt := ⟨_, rfl⟩
        have HVT := Lib.hid hVT
        have HN2 : Hid (∀ w, (binOp .neq 41 VT VF).run Tryd.prog w = .ok (.bool (!eqB rt rf)) w) := Lib.hid (fun w => by rw [HVT.out, HVF.out]; exact rec_neq rt rf w)
        have z1 : wrap64 ((m : Int) - 1) = (M1 : Int) := by unfold wrap64; omega
        have z2 : IntKind.i64.wrap ((m : Int) - 1) = (M1 : Int) := by rw [IntKind.wrap_i64]; omega
        have z3 : (M1 : Int) < m := by omega
        have z3' : M1 < m := by omega
        have z4 : ((m : Int) == 0) = false := by rw [beq_eq_false_iff_ne]; omega
        have z5 : ¬ (m : Int) = 0 := by omega
        have z6 : ¬ m = 0 := by omega
        clear hM1 hm hmM hxs hv1 hv2 hgw hrt hVT hxk
        cases hq1 : eqB rl rf with
        | false =>
          have HEO : Hid (endOk rs (xs.map (·.1)) = false) := Lib.hid (by rw [HEO0.out, hq1]; rfl)
          rw [hq1] at HN1
          clear hq1 HEO0
          refine wp_region_goesG data_follows (fun x => by simp [putsF, Act.put]; rfl) wr.heap.size wr
            [isV (.slice (some ⟨g, 0, none⟩) m CO), isV (.int .i64 (m : Nat)), isV (.bool false), isV (.bool false), isV (.slice (some ⟨bb, off, none⟩) n c), isV (.int .i64 (L : Nat)), isV (.pointer (some ⟨bb, off + L * 4, none⟩)), isV VL, isV (.slice (some ⟨bb, off, none⟩) n c), isV (.pointer (some ⟨bb, off, none⟩)), isV VF, isV (.bool true), isV (.bool true), isV (.bool true), isV undef, isV undef, isV undef, isV undef, isV undef, isV undef, isV undef, isV undef, isV undef, isV undef, isV undef, isV (.bool true)]
            (by kernel_rfl) (by kernel_rfl) (by kernel_rfl) rfl ?_ (Below.refl _ _) ?_ ?_
          · repeat (first | exact trivial | refine ⟨isV_stays _, ?_⟩)
          · refine ⟨?_, ?_, ?_, ?_, ?_, ?_, ?_, ?_, ?_, ?_, ?_, ?_, ?_, ?_, ?_, ?_, ?_, ?_, ?_, ?_, ?_, ?_, ?_, ?_, ?_, ?_, trivial⟩
            all_goals
              intro x wx hR hd
              simp at hd
            · refine ⟨fun _ => ?_, fun hX => by first | (simp at hX; done) | (simp [hd] at hX; done)⟩
              (try simp [hd]); go_simp; exact next_same _ rfl rfl hR
            · refine ⟨fun _ => ?_, fun hX => by first | (simp at hX; done) | (simp [hd] at hX; done)⟩
              (try simp [hd]); go_simp; exact next_same _ rfl rfl hR
            · refine ⟨fun _ => ?_, fun hX => by first | (simp at hX; done) | (simp [hd] at hX; done)⟩
              (try simp [hd]); go_simp; exact next_same _ rfl rfl hR
            · refine ⟨fun _ => ?_, fun hX => by first | (simp at hX; done) | (simp [hd] at hX; done)⟩
              (try simp [hd]); go_simp; exact next_same _ rfl rfl hR
            · refine ⟨fun _ => ?_, fun hX => by first | (simp at hX; done) | (simp [hd] at hX; done)⟩
              (try simp [hd]); go_simp; exact next_same _ rfl rfl hR
            · refine ⟨fun _ => ?_, fun hX => by first | (simp at hX; done) | (simp [hd] at hX; done)⟩
              (try simp [hd]); go_simp; exact next_same _ rfl rfl hR
            · refine ⟨fun _ => ?_, fun hX => by first | (simp at hX; done) | (simp [hd] at hX; done)⟩
              (try simp [hd]); go_simp; exact next_same _ rfl rfl hR
            · refine ⟨fun _ => ?_, fun hX => by first | (simp at hX; done) | (simp [hd] at hX; done)⟩
              refine wp_load_mid 41 _ rfl bb (off + L * 4) (by simp [go_sem, hd]) _ _ (HRL.out wx (below_trans HB.out HB.out.size hR)) Tryd.underlying41 rfl (by kernel_rfl) ?_
              exact next_same _ rfl HVL.out.symm hR
            · refine ⟨fun _ => ?_, fun hX => by first | (simp at hX; done) | (simp [hd] at hX; done)⟩
              (try simp [hd]); go_simp; exact next_same _ rfl rfl hR
            · refine ⟨fun _ => ?_, fun hX => by first | (simp at hX; done) | (simp [hd] at hX; done)⟩
              (try simp [hd]); go_simp; exact next_same _ rfl rfl hR
            · refine ⟨fun _ => ?_, fun hX => by first | (simp at hX; done) | (simp [hd] at hX; done)⟩
              refine wp_load_mid 41 _ rfl bb (off) (by simp [go_sem, hd]) _ _ (HRF.out wx (below_trans HB.out HB.out.size hR)) Tryd.underlying41 rfl (by kernel_rfl) ?_
              exact next_same _ rfl HVF.out.symm hR
            · refine ⟨fun _ => ?_, fun hX => by first | (simp at hX; done) | (simp [hd] at hX; done)⟩
              obtain ⟨hd0, hd1, -⟩ := hd
              exact wp_binop _ _ _ _ _ rfl hd0 hd1 (by rw [HVL.out, HVF.out]; first | kernel_rfl | rfl) (HN1.out wx) (next_same _ rfl rfl hR)
            · refine ⟨fun _ => ?_, fun hX => by first | (simp at hX; done) | (simp [hd] at hX; done)⟩
              (try simp [hd]); go_simp; exact next_same _ rfl rfl hR
            · refine ⟨fun _ => ?_, fun hX => by first | (simp at hX; done) | (simp [hd] at hX; done)⟩
              (try simp [hd]); go_simp; exact next_same _ rfl rfl hR
            · refine ⟨fun hX => ?_, fun _ => rfl⟩
              exfalso; first | (simp [hd] at hX; done) | (simp [hd, undef] at hX; done)
            · refine ⟨fun hX => ?_, fun _ => rfl⟩
              exfalso; first | (simp [hd] at hX; done) | (simp [hd, undef] at hX; done)
            · refine ⟨fun hX => ?_, fun _ => rfl⟩
              exfalso; first | (simp [hd] at hX; done) | (simp [hd, undef] at hX; done)
            · refine ⟨fun hX => ?_, fun _ => rfl⟩
              exfalso; first | (simp [hd] at hX; done) | (simp [hd, undef] at hX; done)
            · refine ⟨fun hX => ?_, fun _ => rfl⟩
              exfalso; first | (simp [hd] at hX; done) | (simp [hd, undef] at hX; done)
            · refine ⟨fun hX => ?_, fun _ => rfl⟩
              exfalso; first | (simp [hd] at hX; done) | (simp [hd, undef] at hX; done)
            · refine ⟨fun hX => ?_, fun _ => rfl⟩
              exfalso; first | (simp [hd] at hX; done) | (simp [hd, undef] at hX; done)
            · refine ⟨fun hX => ?_, fun _ => rfl⟩
              exfalso; first | (simp [hd] at hX; done) | (simp [hd, undef] at hX; done)
            · refine ⟨fun hX => ?_, fun _ => rfl⟩
              exfalso; first | (simp [hd] at hX; done) | (simp [hd, undef] at hX; done)
            · refine ⟨fun hX => ?_, fun _ => rfl⟩
              exfalso; first | (simp [hd] at hX; done) | (simp [hd, undef] at hX; done)
            · refine ⟨fun hX => ?_, fun _ => rfl⟩
              exfalso; first | (simp [hd] at hX; done) | (simp [hd, undef] at hX; done)
            · refine ⟨fun _ => ?_, fun hX => by first | (simp at hX; done) | (simp [hd] at hX; done)⟩
              (try simp [hd]); go_simp; exact next_same _ rfl rfl hR
          intro x w7 hR hx
          simp [AllWords] at hx
          have h25 : x 25 = .bool true := by simp [hx]
          rw [h25]
          clear hx h25
          have HB7 := Lib.hid hR
          clear hR
          go_wp2_with fail
          exact HFAIL.out 4 (by rw [HDR.out, HEO.out]; rfl) _ (below_trans HB.out HB.out.size HB7.out)
        | true =>
          rw [hq1] at HN1
          cases hq2 : eqB rt rf with
          | false =>
            have HEO : Hid (endOk rs (xs.map (·.1)) = false) := Lib.hid (by rw [HEO0.out, hq1, hq2]; rfl)
            rw [hq2] at HN2
            clear hq1 hq2 HEO0
            refine wp_region_goesG data_follows (fun x => by simp [putsF, Act.put]; rfl) wr.heap.size wr
              [isV (.slice (some ⟨g, 0, none⟩) m CO), isV (.int .i64 (m : Nat)), isV (.bool false), isV (.bool false), isV (.slice (some ⟨bb, off, none⟩) n c), isV (.int .i64 (L : Nat)), isV (.pointer (some ⟨bb, off + L * 4, none⟩)), isV VL, isV (.slice (some ⟨bb, off, none⟩) n c), isV (.pointer (some ⟨bb, off, none⟩)), isV VF, isV (.bool false), isV (.bool false), isV (.bool false), isV (.slice (some ⟨g, 0, none⟩) m CO), isV (.slice (some ⟨g, 0, none⟩) m CO), isV (.int .i64 (m : Nat)), isV (.int .i64 (M1 : Nat)), isV (.pointer (some ⟨g, M1 * 10, none⟩)), isV (.pointer (some ⟨g, M1 * 10 + 4, none⟩)), isV VT, isV (.slice (some ⟨bb, off, none⟩) n c), isV (.pointer (some ⟨bb, off, none⟩)), isV VF, isV (.bool true), isV (.bool true)]
              (by kernel_rfl) (by kernel_rfl) (by kernel_rfl) rfl ?_ (Below.refl _ _) ?_ ?_
            · repeat (first | exact trivial | refine ⟨isV_stays _, ?_⟩)
            · refine ⟨?_, ?_, ?_, ?_, ?_, ?_, ?_, ?_, ?_, ?_, ?_, ?_, ?_, ?_, ?_, ?_, ?_, ?_, ?_, ?_, ?_, ?_, ?_, ?_, ?_, ?_, trivial⟩
              all_goals
                intro x wx hR hd
                simp at hd
              · refine ⟨fun _ => ?_, fun hX => by first | (simp at hX; done) | (simp [hd] at hX; done)⟩
                (try simp [hd]); go_simp; exact next_same _ rfl rfl hR
              · refine ⟨fun _ => ?_, fun hX => by first | (simp at hX; done) | (simp [hd] at hX; done)⟩
                (try simp [hd]); go_simp; exact next_same _ rfl rfl hR
              · refine ⟨fun _ => ?_, fun hX => by first | (simp at hX; done) | (simp [hd] at hX; done)⟩
                (try simp [hd]); go_simp; exact next_same _ rfl rfl hR
              · refine ⟨fun _ => ?_, fun hX => by first | (simp at hX; done) | (simp [hd] at hX; done)⟩
                (try simp [hd]); go_simp; exact next_same _ rfl rfl hR
              · refine ⟨fun _ => ?_, fun hX => by first | (simp at hX; done) | (simp [hd] at hX; done)⟩
                (try simp [hd]); go_simp; exact next_same _ rfl rfl hR
              · refine ⟨fun _ => ?_, fun hX => by first | (simp at hX; done) | (simp [hd] at hX; done)⟩
                (try simp [hd]); go_simp; exact next_same _ rfl rfl hR
              · refine ⟨fun _ => ?_, fun hX => by first | (simp at hX; done) | (simp [hd] at hX; done)⟩
                (try simp [hd]); go_simp; exact next_same _ rfl rfl hR
              · refine ⟨fun _ => ?_, fun hX => by first | (simp at hX; done) | (simp [hd] at hX; done)⟩
                refine wp_load_mid 41 _ rfl bb (off + L * 4) (by simp [go_sem, hd]) _ _ (HRL.out wx (below_trans HB.out HB.out.size hR)) Tryd.underlying41 rfl (by kernel_rfl) ?_
                exact next_same _ rfl HVL.out.symm hR
              · refine ⟨fun _ => ?_, fun hX => by first | (simp at hX; done) | (simp [hd] at hX; done)⟩
                (try simp [hd]); go_simp; exact next_same _ rfl rfl hR
              · refine ⟨fun _ => ?_, fun hX => by first | (simp at hX; done) | (simp [hd] at hX; done)⟩
                (try simp [hd]); go_simp; exact next_same _ rfl rfl hR
              · refine ⟨fun _ => ?_, fun hX => by first | (simp at hX; done) | (simp [hd] at hX; done)⟩
                refine wp_load_mid 41 _ rfl bb (off) (by simp [go_sem, hd]) _ _ (HRF.out wx (below_trans HB.out HB.out.size hR)) Tryd.underlying41 rfl (by kernel_rfl) ?_
                exact next_same _ rfl HVF.out.symm hR
              · refine ⟨fun _ => ?_, fun hX => by first | (simp at hX; done) | (simp [hd] at hX; done)⟩
                obtain ⟨hd0, hd1, -⟩ := hd
                exact wp_binop _ _ _ _ _ rfl hd0 hd1 (by rw [HVL.out, HVF.out]; first | kernel_rfl | rfl) (HN1.out wx) (next_same _ rfl rfl hR)
              · refine ⟨fun _ => ?_, fun hX => by first | (simp at hX; done) | (simp [hd] at hX; done)⟩
                (try simp [hd]); go_simp; exact next_same _ rfl rfl hR
              · refine ⟨fun _ => ?_, fun hX => by first | (simp at hX; done) | (simp [hd] at hX; done)⟩
                (try simp [hd]); go_simp; exact next_same _ rfl rfl hR
              · refine ⟨fun _ => ?_, fun hX => by first | (simp at hX; done) | (simp [hd] at hX; done)⟩
                (try simp [hd]); go_simp; exact next_same _ rfl rfl hR
              · refine ⟨fun _ => ?_, fun hX => by first | (simp at hX; done) | (simp [hd] at hX; done)⟩
                (try simp [hd]); go_simp; exact next_same _ rfl rfl hR
              · refine ⟨fun _ => ?_, fun hX => by first | (simp at hX; done) | (simp [hd] at hX; done)⟩
                (try simp [hd]); go_simp; exact next_same _ rfl rfl hR
              · refine ⟨fun _ => ?_, fun hX => by first | (simp at hX; done) | (simp [hd] at hX; done)⟩
                (try simp [hd]); go_simp; exact next_same _ rfl rfl hR
              · refine ⟨fun _ => ?_, fun hX => by first | (simp at hX; done) | (simp [hd] at hX; done)⟩
                (try simp [hd]); go_simp; exact next_same _ rfl rfl hR
              · refine ⟨fun _ => ?_, fun hX => by first | (simp at hX; done) | (simp [hd] at hX; done)⟩
                (try simp [hd]); go_simp; exact next_same _ rfl rfl hR
              · refine ⟨fun _ => ?_, fun hX => by first | (simp at hX; done) | (simp [hd] at hX; done)⟩
                refine wp_load_mid 41 _ rfl g (M1 * 10 + 4) (by simp [go_sem, hd]) _ _ (HRT.out wx hR) Tryd.underlying41 rfl (by kernel_rfl) ?_
                exact next_same _ rfl HVT.out.symm hR
              · refine ⟨fun _ => ?_, fun hX => by first | (simp at hX; done) | (simp [hd] at hX; done)⟩
                (try simp [hd]); go_simp; exact next_same _ rfl rfl hR
              · refine ⟨fun _ => ?_, fun hX => by first | (simp at hX; done) | (simp [hd] at hX; done)⟩
                (try simp [hd]); go_simp; exact next_same _ rfl rfl hR
              · refine ⟨fun _ => ?_, fun hX => by first | (simp at hX; done) | (simp [hd] at hX; done)⟩
                refine wp_load_mid 41 _ rfl bb (off) (by simp [go_sem, hd]) _ _ (HRF.out wx (below_trans HB.out HB.out.size hR)) Tryd.underlying41 rfl (by kernel_rfl) ?_
                exact next_same _ rfl HVF.out.symm hR
              · refine ⟨fun _ => ?_, fun hX => by first | (simp at hX; done) | (simp [hd] at hX; done)⟩
                obtain ⟨hd0, hd1, -⟩ := hd
                exact wp_binop _ _ _ _ _ rfl hd0 hd1 (by rw [HVT.out, HVF.out]; first | kernel_rfl | rfl) (HN2.out wx) (next_same _ rfl rfl hR)
              · refine ⟨fun _ => ?_, fun hX => by first | (simp at hX; done) | (simp [hd] at hX; done)⟩
                (try simp [hd]); go_simp; exact next_same _ rfl rfl hR
            intro x w7 hR hx
            simp [AllWords] at hx
            have h25 : x 25 = .bool true := by simp [hx]
            rw [h25]
            clear hx h25
            have HB7 := Lib.hid hR
            clear hR
            go_wp2_with fail
            exact HFAIL.out 4 (by rw [HDR.out, HEO.out]; rfl) _ (below_trans HB.out HB.out.size HB7.out)
          | true =>
            have HEO : Hid (endOk rs (xs.map (·.1)) = true) := Lib.hid (by rw [HEO0.out, hq1, hq2]; rfl)
            rw [hq2] at HN2
            clear hq1 hq2 HEO0
            refine wp_region_goesG data_follows (fun x => by simp [putsF, Act.put]; rfl) wr.heap.size wr
              [isV (.slice (some ⟨g, 0, none⟩) m CO), isV (.int .i64 (m : Nat)), isV (.bool false), isV (.bool false), isV (.slice (some ⟨bb, off, none⟩) n c), isV (.int .i64 (L : Nat)), isV (.pointer (some ⟨bb, off + L * 4, none⟩)), isV VL, isV (.slice (some ⟨bb, off, none⟩) n c), isV (.pointer (some ⟨bb, off, none⟩)), isV VF, isV (.bool false), isV (.bool false), isV (.bool false), isV (.slice (some ⟨g, 0, none⟩) m CO), isV (.slice (some ⟨g, 0, none⟩) m CO), isV (.int .i64 (m : Nat)), isV (.int .i64 (M1 : Nat)), isV (.pointer (some ⟨g, M1 * 10, none⟩)), isV (.pointer (some ⟨g, M1 * 10 + 4, none⟩)), isV VT, isV (.slice (some ⟨bb, off, none⟩) n c), isV (.pointer (some ⟨bb, off, none⟩)), isV VF, isV (.bool false), isV (.bool false)]
              (by kernel_rfl) (by kernel_rfl) (by kernel_rfl) rfl ?_ (Below.refl _ _) ?_ ?_
            · repeat (first | exact trivial | refine ⟨isV_stays _, ?_⟩)
            · refine ⟨?_, ?_, ?_, ?_, ?_, ?_, ?_, ?_, ?_, ?_, ?_, ?_, ?_, ?_, ?_, ?_, ?_, ?_, ?_, ?_, ?_, ?_, ?_, ?_, ?_, ?_, trivial⟩
              all_goals
                intro x wx hR hd
                simp at hd
              · refine ⟨fun _ => ?_, fun hX => by first | (simp at hX; done) | (simp [hd] at hX; done)⟩
                (try simp [hd]); go_simp; exact next_same _ rfl rfl hR
              · refine ⟨fun _ => ?_, fun hX => by first | (simp at hX; done) | (simp [hd] at hX; done)⟩
                (try simp [hd]); go_simp; exact next_same _ rfl rfl hR
              · refine ⟨fun _ => ?_, fun hX => by first | (simp at hX; done) | (simp [hd] at hX; done)⟩
                (try simp [hd]); go_simp; exact next_same _ rfl rfl hR
              · refine ⟨fun _ => ?_, fun hX => by first | (simp at hX; done) | (simp [hd] at hX; done)⟩
                (try simp [hd]); go_simp; exact next_same _ rfl rfl hR
              · refine ⟨fun _ => ?_, fun hX => by first | (simp at hX; done) | (simp [hd] at hX; done)⟩
                (try simp [hd]); go_simp; exact next_same _ rfl rfl hR
              · refine ⟨fun _ => ?_, fun hX => by first | (simp at hX; done) | (simp [hd] at hX; done)⟩
                (try simp [hd]); go_simp; exact next_same _ rfl rfl hR
              · refine ⟨fun _ => ?_, fun hX => by first | (simp at hX; done) | (simp [hd] at hX; done)⟩
                (try simp [hd]); go_simp; exact next_same _ rfl rfl hR
              · refine ⟨fun _ => ?_, fun hX => by first | (simp at hX; done) | (simp [hd] at hX; done)⟩
                refine wp_load_mid 41 _ rfl bb (off + L * 4) (by simp [go_sem, hd]) _ _ (HRL.out wx (below_trans HB.out HB.out.size hR)) Tryd.underlying41 rfl (by kernel_rfl) ?_
                exact next_same _ rfl HVL.out.symm hR
              · refine ⟨fun _ => ?_, fun hX => by first | (simp at hX; done) | (simp [hd] at hX; done)⟩
                (try simp [hd]); go_simp; exact next_same _ rfl rfl hR
              · refine ⟨fun _ => ?_, fun hX => by first | (simp at hX; done) | (simp [hd] at hX; done)⟩
                (try simp [hd]); go_simp; exact next_same _ rfl rfl hR
              · refine ⟨fun _ => ?_, fun hX => by first | (simp at hX; done) | (simp [hd] at hX; done)⟩
                refine wp_load_mid 41 _ rfl bb (off) (by simp [go_sem, hd]) _ _ (HRF.out wx (below_trans HB.out HB.out.size hR)) Tryd.underlying41 rfl (by kernel_rfl) ?_
                exact next_same _ rfl HVF.out.symm hR
              · refine ⟨fun _ => ?_, fun hX => by first | (simp at hX; done) | (simp [hd] at hX; done)⟩
                obtain ⟨hd0, hd1, -⟩ := hd
                exact wp_binop _ _ _ _ _ rfl hd0 hd1 (by rw [HVL.out, HVF.out]; first | kernel_rfl | rfl) (HN1.out wx) (next_same _ rfl rfl hR)
              · refine ⟨fun _ => ?_, fun hX => by first | (simp at hX; done) | (simp [hd] at hX; done)⟩
                (try simp [hd]); go_simp; exact next_same _ rfl rfl hR
              · refine ⟨fun _ => ?_, fun hX => by first | (simp at hX; done) | (simp [hd] at hX; done)⟩
                (try simp [hd]); go_simp; exact next_same _ rfl rfl hR
              · refine ⟨fun _ => ?_, fun hX => by first | (simp at hX; done) | (simp [hd] at hX; done)⟩
                (try simp [hd]); go_simp; exact next_same _ rfl rfl hR
              · refine ⟨fun _ => ?_, fun hX => by first | (simp at hX; done) | (simp [hd] at hX; done)⟩
                (try simp [hd]); go_simp; exact next_same _ rfl rfl hR
              · refine ⟨fun _ => ?_, fun hX => by first | (simp at hX; done) | (simp [hd] at hX; done)⟩
                (try simp [hd]); go_simp; exact next_same _ rfl rfl hR
              · refine ⟨fun _ => ?_, fun hX => by first | (simp at hX; done) | (simp [hd] at hX; done)⟩
                (try simp [hd]); go_simp; exact next_same _ rfl rfl hR
              · refine ⟨fun _ => ?_, fun hX => by first | (simp at hX; done) | (simp [hd] at hX; done)⟩
                (try simp [hd]); go_simp; exact next_same _ rfl rfl hR
              · refine ⟨fun _ => ?_, fun hX => by first | (simp at hX; done) | (simp [hd] at hX; done)⟩
                (try simp [hd]); go_simp; exact next_same _ rfl rfl hR
              · refine ⟨fun _ => ?_, fun hX => by first | (simp at hX; done) | (simp [hd] at hX; done)⟩
                refine wp_load_mid 41 _ rfl g (M1 * 10 + 4) (by simp [go_sem, hd]) _ _ (HRT.out wx hR) Tryd.underlying41 rfl (by kernel_rfl) ?_
                exact next_same _ rfl HVT.out.symm hR
              · refine ⟨fun _ => ?_, fun hX => by first | (simp at hX; done) | (simp [hd] at hX; done)⟩
                (try simp [hd]); go_simp; exact next_same _ rfl rfl hR
              · refine ⟨fun _ => ?_, fun hX => by first | (simp at hX; done) | (simp [hd] at hX; done)⟩
                (try simp [hd]); go_simp; exact next_same _ rfl rfl hR
              · refine ⟨fun _ => ?_, fun hX => by first | (simp at hX; done) | (simp [hd] at hX; done)⟩
                refine wp_load_mid 41 _ rfl bb (off) (by simp [go_sem, hd]) _ _ (HRF.out wx (below_trans HB.out HB.out.size hR)) Tryd.underlying41 rfl (by kernel_rfl) ?_
                exact next_same _ rfl HVF.out.symm hR
              · refine ⟨fun _ => ?_, fun hX => by first | (simp at hX; done) | (simp [hd] at hX; done)⟩
                obtain ⟨hd0, hd1, -⟩ := hd
                exact wp_binop _ _ _ _ _ rfl hd0 hd1 (by rw [HVT.out, HVF.out]; first | kernel_rfl | rfl) (HN2.out wx) (next_same _ rfl rfl hR)
              · refine ⟨fun _ => ?_, fun hX => by first | (simp at hX; done) | (simp [hd] at hX; done)⟩
                (try simp [hd]); go_simp; exact next_same _ rfl rfl hR
            intro x w7 hR hx
            simp [AllWords] at hx
            have h25 : x 25 = .bool false := by simp [hx]
            rw [h25]
            clear hx h25
            have HB7 := Lib.hid hR
            clear hR
            go_wp2_with fail
            exact HGOOD.out xs _ _ (by rw [HDR.out, HEO.out]; rfl) (by rw [HM.out]; exact HO.out.keep HB7.out (Nat.le_refl _)) (fun x hx => (HX.out x hx).keep HB7.out (Nat.le_refl _))
end Go.Proofs.YtpbbnpglcadimaaDoor
namespace Go.Proofs.YtpbbnpglcadimaaDoor
open Go.RowKit
set_option linter.unusedVariables false
set_option linter.unusedSimpArgs false
set_option maxRecDepth 20000
attribute [local simp] putsF isV wordOf Deps Region.binds Region.wanted Act.put wantedX isB
theorem results_cellE {fn : Func} {p u : Tmp} {ty : TypeId} (h : fn.results = #[.cell p ty, .tmp u]) (tmps : Array Value) (P : Program) (w : World) (b o : Nat) (cs : List Value) (d : TypeDesc) (hp : tmps.getD p undef = .pointer (some ⟨b, o, none⟩)) (hc : w.rangeAt b o cs)
    (hu : P.underlying ty = some d) (hd : d.isRow = true) (hi : (P.info? ty).map (·.size) = some cs.length) : (results fn tmps).run P w = .ok (.tuple #[.agg cs.toArray, tmps.getD u undef]) w := by
  have hp2 : tmps[p]?.getD undef = .pointer (some ⟨b, o, none⟩) := by rw [← hp, Array.getD_eq_getD_getElem?]
  simp only [results, h]
  simp [Sem.run_bind, Result.andThen, hp2, asAddr, run_loadVar_mid w b o ty cs d hc hu hd hi]
/-- What a transfer brings: an error; nothing new; all; deltas. -/
def partR (m : RecT → Bool) (sf : RecT → Nat) (o : ByteArray) (fr : Nat) (rs : List RecT) : Nat ⊕ Option (Option (List DTrip)) :=
  if admR m o rs = true then (if rs.length = 1 then (if sf (rAt rs 0) = fr then .inr none else .inl 5)
    else if fullR m o rs = true then .inr (some none) else (match deltasR sf fr rs with
      | .inl e => .inl e
      | .inr ts => .inr (some (some ts)))) else .inl 4
/-- Part's answer. -/
def PartA (m : RecT → Bool) (sf : RecT → Nat) (o : ByteArray) (fr : Nat) (rs : List RecT) (w : World) (e : Ending) (w' : World) : Prop :=
  (∃ er : Nat, partR m sf o fr rs = .inl er ∧ e = .returned (.tuple #[.agg #[.bool false, .slice none 0 0, .slice none 0 0], .iface 36 (.int .i64 er)]) ∧ Below w.heap.size w w') ∨
  (partR m sf o fr rs = .inr none ∧ e = .returned (.tuple #[.agg #[.bool true, .slice none 0 0, .slice none 0 0], .nilIface]) ∧ Below w.heap.size w w') ∨
  (partR m sf o fr rs = .inr (some none) ∧ ∃ A c, e = .returned (.tuple #[.agg #[.bool false, .slice A (rs.length - 1) c, .slice none 0 0], .nilIface]) ∧ OBM 4 w.heap.size w (.slice A (rs.length - 1) c) (rs.length - 1) (flatR (rs.take (rs.length - 1))) w') ∨
  (∃ (xs : List DT) (A : Option Addr) (c : Nat), partR m sf o fr rs = .inr (some (some (xs.map (·.1)))) ∧ e = .returned (.tuple #[.agg #[.bool false, .slice none 0 0, .slice A xs.length c], .nilIface]) ∧ OBM 10 w.heap.size w (.slice A xs.length c) xs.length (flatD rs xs) w' ∧ ∀ x ∈ xs, DOk w rs x w')
set_option maxHeartbeats 3200000 in
theorem part_any (m : RecT → Bool) (sf : RecT → Nat) (o : ByteArray) (fr : Nat) (A : Option Addr) (n c : Nat) (rs : List RecT) (w : World) (h : Recs w A rs) (hl : rs.length = n) (hn : n ≤ 1000) (hc : n ≤ c) (hc2 : c ≤ maxLen) (ho : o.size ≤ maxLen) (hz : ∀ r ∈ rs, r.1.size ≤ maxLen)
    (hm : ∀ r ∈ rs, ∀ w, Calls Tryd.prog 40 #[recV r] w fun e w' => e = .returned (.bool (m r)) ∧ Below w.heap.size w w')
    (hs : ∀ r ∈ rs, soaB r = true → ∀ w, Calls Tryd.prog 22 #[recV r] w fun e w' => e = .returned (.int .u32 (sf r : Nat)) ∧ Below w.heap.size w w') :
    Calls Tryd.prog 8 #[.string o, .int .u32 (fr : Nat), .slice A n c] w (PartA m sf o fr rs w) := by
  obtain ⟨AR, hAR⟩ : ∃ R, R = PartA m sf o fr rs w := ⟨_, rfl⟩
  rw [← hAR]
  have HFAIL : Hid (∀ er : Nat, partR m sf o fr rs = .inl er → ∀ w', Below w.heap.size w w' → AR (.returned (.tuple #[.agg #[.bool false, .slice none 0 0, .slice none 0 0], .iface 36 (.int .i64 er)])) w') := Lib.hid (fun er hf w' hb => by rw [hAR]; exact .inl ⟨er, hf, rfl, hb⟩)
  have HSAME : Hid (partR m sf o fr rs = .inr none → ∀ w', Below w.heap.size w w' → AR (.returned (.tuple #[.agg #[.bool true, .slice none 0 0, .slice none 0 0], .nilIface])) w') := Lib.hid (fun hf w' hb => by rw [hAR]; exact .inr (.inl ⟨hf, rfl, hb⟩))
  have HALLR : Hid (partR m sf o fr rs = .inr (some none) → ∀ A c w', OBM 4 w.heap.size w (.slice A (n - 1) c) (n - 1) (flatR (rs.take (n - 1))) w' → AR (.returned (.tuple #[.agg #[.bool false, .slice A (n - 1) c, .slice none 0 0], .nilIface])) w') := Lib.hid (fun hf A c w' hb => by rw [hAR]; exact .inr (.inr (.inl ⟨hf, A, c, by rw [hl], by rw [hl]; exact hb⟩)))
  have HDEL : Hid (∀ (xs : List DT) A c w', partR m sf o fr rs = .inr (some (some (xs.map (·.1)))) → OBM 10 w.heap.size w (.slice A xs.length c) xs.length (flatD rs xs) w' → (∀ x ∈ xs, DOk w rs x w') → AR (.returned (.tuple #[.agg #[.bool false, .slice none 0 0, .slice A xs.length c], .nilIface])) w') := Lib.hid (fun xs A c w' hf hb hx => by rw [hAR]; exact .inr (.inr (.inr ⟨xs, A, c, hf, rfl, hb, hx⟩)))
  have AD := Lib.hid (fun (wx : World) (hb : Below w.heap.size w wx) => admissible_any m o A n c rs wx (h.below hb) hl (by omega) ho hz hm)
  have HP : Hid (partR m sf o fr rs = if admR m o rs = true then (if n = 1 then (if sf (rAt rs 0) = fr then .inr none else .inl 5)
    else if fullR m o rs = true then .inr (some none) else (match deltasR sf fr rs with
      | .inl e => .inl e
      | .inr ts => .inr (some (some ts)))) else .inl 4) := Lib.hid (by unfold partR; rw [hl])
  have HH := Lib.hid h
  have HL := Lib.hid hl
  have HC1 := Lib.hid hc
  have HC2 := Lib.hid hc2
  have HNN := Lib.hid hn
  have HO := Lib.hid ho
  have HZ := Lib.hid hz
  have HMM := Lib.hid hm
  have HSS := Lib.hid hs
  have hZ := Cs.new w #[.bool false, .slice none 0 0, .slice none 0 0] 31 [.bool false, .slice none 0 0, .slice none 0 0]
  have hbZ := (Below.refl w.heap.size w).alloc (Nat.le_refl _) (.cells #[.bool false, .slice none 0 0, .slice none 0 0] 31)
  have H0 := Lib.hid (And.intro hZ hbZ)
  clear h hl hs hAR hm hz ho hc hc2 hn hZ hbZ
  go_enter Tryd.func8, Tryd.ntmps8
  go_upto_region 1 with fail
  obtain ⟨hZ, hbZ⟩ := H0.out
  generalize w.alloc (.cells #[.bool false, .slice none 0 0, .slice none 0 0] 31) = wa at *
  obtain ⟨g, hg⟩ : ∃ g, g = w.heap.size := ⟨_, rfl⟩
  rw [← hg] at hZ ⊢
  have HZA := Lib.hid hZ
  have HG := Lib.hid hg
  have HBA := Lib.hid hbZ
  clear hZ hbZ hg H0
  go_wp2_with fail
  refine (AD.out _ HBA.out).mono ?_
  rintro e wb ⟨rfl, hbb⟩
  have HBB := Lib.hid (below_trans HBA.out HBA.out.size hbb)
  have HCB := Lib.hid (HZA.out.below hbb)
  clear hbb AD
  cases had : admR m o rs with
  | false =>
    have HF := Lib.hid (show partR m sf o fr rs = .inl 4 by rw [HP.out, had]; rfl)
    have HBW := HBB
    have HCW := HCB
    clear had
    have HTH := Lib.hid (HCW.out.there 3 rfl)
    have HM := Lib.hid (HCW.out.mid [.bool false, .slice none 0 0, .slice none 0 0] rfl)
    have HBM := Lib.hid (below_setCells' (B := w.heap.size) (g := g) (by rw [HG.out]; exact Nat.le_refl _) [.bool false, .slice none 0 0, .slice none 0 0] 0 HBW.out)
    go_wp2_with (first | refine wpList_store_mid rfl 31 _ _ rfl g 0 #[.bool false, .slice none 0 0, .slice none 0 0] rfl rfl HTH.out (by kernel_rfl) (by simp [Value.oneCell']) ?_)
    refine bodyPost_ret (v := .tuple #[.agg #[.bool false, .slice none 0 0, .slice none 0 0], .iface 36 (.int .i64 (4 : Nat))]) (results_cellE Tryd.results8 _ _ _ g 0 _ _ rfl HM.out.range Tryd.underlying31 rfl (by kernel_rfl)) rfl ?_
    exact HFAIL.out 4 HF.out _ HBM.out
  | true =>
    have hP2 := HP.out
    rw [had, if_pos rfl] at hP2
    have HP2 := Lib.hid hP2
    have hne : 0 < n := by
      rw [← HL.out]
      match rs, had with
      | _ :: _, _ => simp
    obtain ⟨r, hr⟩ : ∃ r, rs[0]? = some r := ⟨_, List.getElem?_eq_getElem (by rw [HL.out]; exact hne)⟩
    have hsr : soaB r = true := by
      match rs, had, hr with
      | a :: t, had, hr =>
        have e : a = r := by simpa using hr
        unfold admR at had
        rw [Bool.and_eq_true] at had
        rw [← e]; exact had.2
    obtain ⟨bb, off, rfl, hbw, hrg⟩ := HH.out.range hr
    have SE := Lib.hid (HSS.out r (List.mem_of_getElem? hr) hsr)
    have HR0 := Lib.hid (rAt_of hr)
    have HRF : Hid (∀ wx, Below w.heap.size w wx → wx.rangeAt bb off (recCells r)) := Lib.hid (fun wx hb j v hv => (hb.cell (p := ⟨bb, off + j, none⟩) hbw).trans (by have := hrg j v hv; simpa using this))
    have HBL := Lib.hid hbw
    clear had hP2 hr hsr hbw hrg HP
    by_cases h1 : n = 1
    · subst h1
      have hp3 := HP2.out
      rw [if_pos rfl, HR0.out] at hp3
      obtain ⟨SV, hSV⟩ : ∃ S, S = sf r := ⟨_, rfl⟩
      rw [← hSV] at SE hp3
      have HPQ := Lib.hid hp3
      clear hSV HR0 HP2 hp3
      obtain ⟨r0, r1, r2, r3⟩ := r
      unfold recV at SE
      unfold recCells at HRF
      simp only at SE HRF
      have HRB := Lib.hid (HRF.out wb HBB.out)
      go_wp2_with (first | refine wpList_load_midH rfl 41 _ rfl bb off rfl _ _ HRB.out Tryd.underlying41 rfl (by kernel_rfl) ?_)
      refine (SE.out _).mono ?_
      rintro e wc ⟨rfl, hbc⟩
      have HBW := Lib.hid (below_trans HBB.out HBB.out.size hbc)
      have HCW := Lib.hid (HCB.out.below hbc)
      clear hbc SE
      by_cases hsf : SV = fr
      · subst hsf
        have hq : ((SV : Int) == (SV : Int)) = true := by simp
        have hq2 : ((SV : Int) != (SV : Int)) = false := by simp
        have HF := Lib.hid (show partR m sf o SV rs = .inr none by rw [HPQ.out, if_pos rfl])
        have HTH := Lib.hid (HCW.out.there 3 rfl)
        have HM := Lib.hid (HCW.out.mid [.bool true, .slice none 0 0, .slice none 0 0] rfl)
        have HBM := Lib.hid (below_setCells' (B := w.heap.size) (g := g) (by rw [HG.out]; exact Nat.le_refl _) [.bool true, .slice none 0 0, .slice none 0 0] 0 HBW.out)
        go_wp2_with (first | refine wpList_store_mid rfl 31 _ _ rfl g 0 #[.bool true, .slice none 0 0, .slice none 0 0] rfl rfl HTH.out (by kernel_rfl) (by simp [Value.oneCell']) ?_)
        refine bodyPost_ret (v := .tuple #[.agg #[.bool true, .slice none 0 0, .slice none 0 0], .nilIface]) (results_cellE Tryd.results8 _ _ _ g 0 _ _ rfl HM.out.range Tryd.underlying31 rfl (by kernel_rfl)) rfl ?_
        exact HSAME.out HF.out _ HBM.out
      · have hq : ((SV : Int) == (fr : Int)) = false := by rw [beq_eq_false_iff_ne]; omega
        have hq2 : ((SV : Int) != (fr : Int)) = true := by simp [bne, hq]
        have HF := Lib.hid (show partR m sf o fr rs = .inl 5 by rw [HPQ.out, if_neg hsf])
        have HTH := Lib.hid (HCW.out.there 3 rfl)
        have HM := Lib.hid (HCW.out.mid [.bool false, .slice none 0 0, .slice none 0 0] rfl)
        have HBM := Lib.hid (below_setCells' (B := w.heap.size) (g := g) (by rw [HG.out]; exact Nat.le_refl _) [.bool false, .slice none 0 0, .slice none 0 0] 0 HBW.out)
        go_wp2_with (first | refine wpList_store_mid rfl 31 _ _ rfl g 0 #[.bool false, .slice none 0 0, .slice none 0 0] rfl rfl HTH.out (by kernel_rfl) (by simp [Value.oneCell']) ?_)
        refine bodyPost_ret (v := .tuple #[.agg #[.bool false, .slice none 0 0, .slice none 0 0], .iface 36 (.int .i64 (5 : Nat))]) (results_cellE Tryd.results8 _ _ _ g 0 _ _ rfl HM.out.range Tryd.underlying31 rfl (by kernel_rfl)) rfl ?_
        exact HFAIL.out 5 HF.out _ HBM.out
    · have HP3 := HP2.out
      rw [if_neg h1] at HP3
      have HP3 := Lib.hid HP3
      have h2 : 2 ≤ n := by omega
      have FU := Lib.hid (full_any m o bb off n c rs wb (HH.out.below HBB.out) HL.out HNN.out h2 HC1.out HO.out HZ.out (Nat.lt_of_lt_of_le HBL.out HBB.out.size) HMM.out (fun wx hb => by
        have hp := ((HH.out.below HBB.out).below hb).part 0 (n - 1)
        rw [Nat.zero_mul, Nat.add_zero, List.drop_zero] at hp
        have hp2 := hp.sl
        rw [show (rs.take (n - 1)).length = n - 1 by rw [List.length_take, HL.out]; omega] at hp2
        have hn := HNN.out
        exact clone_recs _ _ _ _ _ _ hp2 (flatR_one _) (fun e => by cases e) (by omega)))
      have DS := Lib.hid (fun (wx : World) (hb : Below w.heap.size w wx) => deltas_any sf fr bb off n c rs wx (HH.out.below hb) HL.out HNN.out h2 HC1.out HC2.out HSS.out)
      have hn1 : ((n : Int) == 1) = false := by rw [beq_eq_false_iff_ne]; omega
      have hn1' : ¬ (n : Int) = 1 := by omega
      have FU : Hid (Calls Tryd.prog 23 #[.string o, .slice (some ⟨bb, off, none⟩) n c] wb fun e w' =>
        (fullR m o rs = false ∧ e = .returned (.tuple #[.slice none 0 0, .iface 36 (.int .i64 4)]) ∧ Below wb.heap.size wb w') ∨
        (fullR m o rs = true ∧ ∃ A c, e = .returned (.tuple #[.slice A (n - 1) c, .nilIface]) ∧ OBM 4 wb.heap.size wb (.slice A (n - 1) c) (n - 1) (flatR (rs.take (n - 1))) w')) := Lib.hid (FU.out.mono (by
          rintro e w' (⟨g1, g2, g3⟩ | ⟨g1, v, g2, g3⟩)
          · exact .inl ⟨g1, g2, g3⟩
          · rw [HL.out] at g3
            obtain ⟨A', c', rfl, -⟩ := g3.slice
            exact .inr ⟨g1, A', c', g2, g3⟩))
      have DS : Hid (∀ (wx : World) (hb : Below w.heap.size w wx), Calls Tryd.prog 24 #[.int .u32 (fr : Nat), .slice (some ⟨bb, off, none⟩) n c] wx fun e w' =>
        (∃ er : Nat, deltasR sf fr rs = .inl er ∧ e = .returned (.tuple #[.slice none 0 0, .iface 36 (.int .i64 er)]) ∧ Below wx.heap.size wx w') ∨
        (∃ (xs : List DT) (A : Option Addr) (c : Nat), deltasR sf fr rs = .inr (xs.map (·.1)) ∧ e = .returned (.tuple #[.slice A xs.length c, .nilIface]) ∧ OBM 10 wx.heap.size wx (.slice A xs.length c) xs.length (flatD rs xs) w' ∧ ∀ x ∈ xs, DOk wx rs x w')) := Lib.hid (fun wx hb => (DS.out wx hb).mono (by
          rintro e w' (⟨er, g1, g2, g3⟩ | ⟨ts, xs, v, g1, g2, g3, g4, g5⟩)
          · exact .inl ⟨er, g1, g2, g3⟩
          · subst g2
            obtain ⟨A', c', rfl, -⟩ := g4.slice
            exact .inr ⟨xs, A', c', g1, g3, g4, g5⟩))
      clear h1 h2
      go_wp2_with fail
      refine FU.out.mono ?_
      rintro e wc (⟨hf0, rfl, hbc⟩ | ⟨hf0, A', c', rfl, ho1⟩)
      · have HBC := Lib.hid (below_trans HBB.out HBB.out.size hbc)
        have HCC := Lib.hid (HCB.out.below hbc)
        have hp4 := HP3.out
        rw [hf0, if_neg (by simp)] at hp4
        have HP4 := Lib.hid hp4
        clear hp4
        clear hbc hf0 FU
        go_wp2_with fail
        refine (DS.out _ HBC.out).mono ?_
        rintro e wd (⟨er, hd0, rfl, hbd⟩ | ⟨xs, A', c', hd0, rfl, ho1, hx⟩)
        · have HF := Lib.hid (show partR m sf o fr rs = .inl er by rw [HP4.out, hd0])
          have HBW := Lib.hid (below_trans HBC.out HBC.out.size hbd)
          have HCW := Lib.hid (HCC.out.below hbd)
          clear hd0 hbd DS
          have HTH := Lib.hid (HCW.out.there 3 rfl)
          have HM := Lib.hid (HCW.out.mid [.bool false, .slice none 0 0, .slice none 0 0] rfl)
          have HBM := Lib.hid (below_setCells' (B := w.heap.size) (g := g) (by rw [HG.out]; exact Nat.le_refl _) [.bool false, .slice none 0 0, .slice none 0 0] 0 HBW.out)
          go_wp2_with (first | refine wpList_store_mid rfl 31 _ _ rfl g 0 #[.bool false, .slice none 0 0, .slice none 0 0] rfl rfl HTH.out (by kernel_rfl) (by simp [Value.oneCell']) ?_)
          refine bodyPost_ret (v := .tuple #[.agg #[.bool false, .slice none 0 0, .slice none 0 0], .iface 36 (.int .i64 er)]) (results_cellE Tryd.results8 _ _ _ g 0 _ _ rfl HM.out.range Tryd.underlying31 rfl (by kernel_rfl)) rfl ?_
          exact HFAIL.out er HF.out _ HBM.out
        · have HF := Lib.hid (show partR m sf o fr rs = .inr (some (some (xs.map (·.1)))) by rw [HP4.out, hd0])
          have HBW := Lib.hid (below_trans HBC.out HBC.out.size ho1.bel)
          have HCW := Lib.hid (HCC.out.below ho1.bel)
          have hgl : w.heap.size ≤ g := by rw [HG.out]; exact Nat.le_refl _
          have hgc : g < wc.heap.size := HCC.out.lt
          have hb5 := below_setCells' hgl [.bool false, .slice none 0 0, .slice A' xs.length c'] 0 HBW.out
          have hst := setCells_heap wd g [.bool false, .slice none 0 0, .slice A' xs.length c'] 0
          have O1 := Lib.hid ((ho1.out HBC.out.size HBC.out).block hb5 (by rw [hst.1]; exact Nat.le_refl _) (fun k hk => hst.2 k (fun e => by have := (ho1.lt k hk).1; omega)))
          have OX := Lib.hid (fun x (hm : x ∈ xs) => (show DOk w rs x (wd.setCells g 0 [.bool false, .slice none 0 0, .slice A' xs.length c']) from ⟨((hx x hm).gone.out HBC.out.size HBC.out).block hb5 (by rw [hst.1]; exact Nat.le_refl _) (fun k hk => hst.2 k (fun e => by have := ((hx x hm).gone.lt k hk).1; omega)), ((hx x hm).new.out HBC.out.size HBC.out).block hb5 (by rw [hst.1]; exact Nat.le_refl _) (fun k hk => hst.2 k (fun e => by have := ((hx x hm).new.lt k hk).1; omega))⟩))
          clear hd0 DS hgl hgc hb5 hst ho1 hx
          have HTH := Lib.hid (HCW.out.there 3 rfl)
          have HM := Lib.hid (HCW.out.mid [.bool false, .slice none 0 0, .slice A' xs.length c'] rfl)
          have HBM := Lib.hid (below_setCells' (B := w.heap.size) (g := g) (by rw [HG.out]; exact Nat.le_refl _) [.bool false, .slice none 0 0, .slice A' xs.length c'] 0 HBW.out)
          go_wp2_with (first | refine wpList_store_mid rfl 31 _ _ rfl g 0 #[.bool false, .slice none 0 0, .slice A' xs.length c'] rfl rfl HTH.out (by kernel_rfl) (by simp [Value.oneCell']) ?_)
          refine bodyPost_ret (v := .tuple #[.agg #[.bool false, .slice none 0 0, .slice A' xs.length c'], .nilIface]) (results_cellE Tryd.results8 _ _ _ g 0 _ _ rfl HM.out.range Tryd.underlying31 rfl (by kernel_rfl)) rfl ?_
          exact HDEL.out xs _ _ _ HF.out O1.out OX.out
      · have HF := Lib.hid (show partR m sf o fr rs = .inr (some none) by rw [HP3.out, hf0, if_pos rfl])
        have HBW := Lib.hid (below_trans HBB.out HBB.out.size ho1.bel)
        have HCW := Lib.hid (HCB.out.below ho1.bel)
        have hgl : w.heap.size ≤ g := by rw [HG.out]; exact Nat.le_refl _
        have hgc : g < wb.heap.size := HCB.out.lt
        have hb5 := below_setCells' hgl [.bool false, .slice A' (n - 1) c', .slice none 0 0] 0 HBW.out
        have hst := setCells_heap wc g [.bool false, .slice A' (n - 1) c', .slice none 0 0] 0
        have O1 := Lib.hid ((ho1.out HBB.out.size HBB.out).block hb5 (by rw [hst.1]; exact Nat.le_refl _) (fun k hk => hst.2 k (fun e => by have := (ho1.lt k hk).1; omega)))
        clear hf0 FU hgl hgc hb5 hst ho1
        have HTH := Lib.hid (HCW.out.there 3 rfl)
        have HM := Lib.hid (HCW.out.mid [.bool false, .slice A' (n - 1) c', .slice none 0 0] rfl)
        have HBM := Lib.hid (below_setCells' (B := w.heap.size) (g := g) (by rw [HG.out]; exact Nat.le_refl _) [.bool false, .slice A' (n - 1) c', .slice none 0 0] 0 HBW.out)
        go_wp2_with (first | refine wpList_store_mid rfl 31 _ _ rfl g 0 #[.bool false, .slice A' (n - 1) c', .slice none 0 0] rfl rfl HTH.out (by kernel_rfl) (by simp [Value.oneCell']) ?_)
        refine bodyPost_ret (v := .tuple #[.agg #[.bool false, .slice A' (n - 1) c', .slice none 0 0], .nilIface]) (results_cellE Tryd.results8 _ _ _ g 0 _ _ rfl HM.out.range Tryd.underlying31 rfl (by kernel_rfl)) rfl ?_
        exact HALLR.out HF.out _ _ _ O1.out
end Go.Proofs.YtpbbnpglcadimaaDoor
namespace Go.Proofs.YtpbbnpglcadimaaDoor
open Go.RowKit
set_option linter.unusedVariables false
set_option linter.unusedSimpArgs false
set_option maxRecDepth 20000
/-- The example's SOA of a serial number. -/
def exD (n : Nat) : ByteArray := ⟨(dataL [] [] [n, 0, 0, 0, 0]).toArray⟩
def exR (n : Nat) : RecT := (⟨#[]⟩, 6, 0, exD n)
set_option maxHeartbeats 1600000 in
theorem ex9_any (n : Nat) (hn : n < 4294967296) (w : World) : Calls Tryd.prog 17 #[.int .u32 (n : Nat)] w fun e w' => e = .returned (recV (exR n)) ∧ Below w.heap.size w w' := by
  have DT : Hid (∀ w, Calls Tryd.prog 18 #[.agg #[.string ⟨#[]⟩, .string ⟨#[]⟩, .int .u32 (n : Nat), .int .u32 0, .int .u32 0, .int .u32 0, .int .u32 0]] w fun e w' => e = .returned (.tuple #[.string (exD n), .bool true]) ∧ Below w.heap.size w w') :=
    Lib.hid (fun w => (sdata_any ⟨#[]⟩ ⟨#[]⟩ n 0 0 0 0 w (by decide) (by decide) hn (by omega) (by omega) (by omega) (by omega)).mono (by
      rintro e w' ⟨hb, ⟨-, rfl⟩ | ⟨hno, -⟩⟩
      · exact ⟨rfl, hb⟩
      · exact absurd ⟨rfl, rfl⟩ hno))
  unfold exR recV
  simp only
  generalize exD n = D at *
  have hb := (Below.refl w.heap.size w).alloc (Nat.le_refl _) (.cells #[.string ⟨#[]⟩, .int .u16 0, .int .u32 0, .string ⟨#[]⟩] 41)
  have hC := Cs.new w #[.string ⟨#[]⟩, .int .u16 0, .int .u32 0, .string ⟨#[]⟩] 41 [.string ⟨#[]⟩, .int .u16 0, .int .u32 0, .string ⟨#[]⟩]
  have H0 := Lib.hid (And.intro hb hC)
  clear hb hC
  go_enter Tryd.func17, Tryd.ntmps17
  go_wp2_with fail
  refine (DT.out _).mono ?_
  rintro e w1 ⟨rfl, hb1⟩
  have hC1 := H0.out.2.below hb1
  have HTH := Lib.hid (hC1.there 4 rfl)
  have HM := Lib.hid (hC1.mid [.string ⟨#[]⟩, .int .u16 6, .int .u32 0, .string D] rfl)
  have HBM := Lib.hid (below_setCells' (B := w.heap.size) (g := w.heap.size) (Nat.le_refl _) [.string ⟨#[]⟩, .int .u16 6, .int .u32 0, .string D] 0 (below_trans H0.out.1 H0.out.1.size hb1))
  clear hb1 hC1
  go_wp2_with (first | refine wpList_store_mid rfl 41 _ _ rfl w.heap.size 0 #[.string ⟨#[]⟩, .int .u16 6, .int .u32 0, .string D] rfl rfl HTH.out (by kernel_rfl) (by simp [Value.oneCell']) ?_)
  exact bodyPost_ret (v := .agg #[.string ⟨#[]⟩, .int .u16 6, .int .u32 0, .string D]) (results_cell1 Tryd.results17 _ _ _ w.heap.size 0 _ _ rfl HM.out.range Tryd.underlying41 rfl (by kernel_rfl)) rfl ⟨rfl, HBM.out⟩
end Go.Proofs.YtpbbnpglcadimaaDoor
