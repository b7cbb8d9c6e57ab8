/- What an argument of records is, and one that is a message, read off the own reading of the statement. -/
import Derived.Test.YtbjbppnjheaecaaRecB
namespace Go.Proofs.Ytbjbppnjheaecaa
open Go.ChangeShapes Go.WideShapes Go.ChangeAt Go.RowKit Go.Deep
set_option linter.unusedVariables false
set_option linter.unusedSimpArgs false
theorem flatR_at : ∀ (rs : List RecT) (j : Nat) (u : Value), (flatR rs)[j]? = some u → ∃ r, rs[j / 4]? = some r ∧ (recCells r)[j % 4]? = some u
  | [], j, u, h => by simp [flatR] at h
  | q :: rs, j, u, h => by
    have e : flatR (q :: rs) = recCells q ++ flatR rs := rfl
    have l : (recCells q).length = 4 := rfl
    rw [e] at h
    by_cases hj : j < 4
    · rw [List.getElem?_append_left (by omega)] at h
      exact ⟨q, by rw [Nat.div_eq_of_lt hj]; rfl, by rw [Nat.mod_eq_of_lt hj]; exact h⟩
    · rw [List.getElem?_append_right (by omega), l] at h
      obtain ⟨r, h1, h2⟩ := flatR_at rs (j - 4) u h
      have e1 : j / 4 = (j - 4) / 4 + 1 := by omega
      have e2 : j % 4 = (j - 4) % 4 := by omega
      exact ⟨r, by rw [e1]; simpa using h1, by rw [e2]; exact h2⟩
/-- Records lie as cells. -/
theorem Recs.sl {w : World} {A : Option Addr} {rs : List RecT} (h : Recs w A rs) : Sl w w.heap.size 4 A rs.length (flatR rs) := by
  refine ⟨flatR_len rs, fun hn => ?_⟩
  obtain ⟨b, off, rfl, hb, -⟩ := h 0 (rs[0]'hn) (List.getElem?_eq_getElem hn)
  refine ⟨b, off, rfl, hb, fun j u hu => ?_⟩
  obtain ⟨r, h1, h2⟩ := flatR_at rs j u hu
  obtain ⟨b', off', e, -, g0, g1, g2, g3⟩ := h _ r h1
  injection e with e; injection e with e1 e2 e3; subst e1 e2
  have hm := Nat.mod_lt j (show 0 < 4 by omega)
  have hj : j = j / 4 * 4 + j % 4 := by omega
  generalize j % 4 = m at *
  generalize j / 4 = d at *
  subst hj
  rcases (by omega : m = 0 ∨ m = 1 ∨ m = 2 ∨ m = 3) with rfl | rfl | rfl | rfl <;> (unfold recCells at h2; simp at h2; subst h2)
  · exact g0
  · exact g1
  · exact g2
  · exact g3
/-- An argument of records. -/
structure RecsV (w : World) (A : Option Addr) (n c : Nat) (rs : List RecT) : Prop where
  len : rs.length = n
  none_ : A = none → n = 0 ∧ c = 0
  le : n ≤ c
  max : c ≤ maxLen
  recs : Recs w A rs
  ok : ∀ r ∈ rs, r.1.size ≤ maxLen ∧ (Lit.int .u16 r.2.1).wf = true ∧ (Lit.int .u32 r.2.2.1).wf = true ∧ r.2.2.2.size ≤ maxLen
/-- A message: number, flags, code; the name and the type that are asked for; three rows of records; the size. -/
structure MsgT where
  id : Int
  reply : Bool
  op : Int
  auth : Bool
  trunc : Bool
  want : Bool
  avail : Bool
  code : Int
  qn : ByteArray
  qt : Int
  A1 : Option Addr
  n1 : Nat
  c1 : Nat
  r1 : List RecT
  A2 : Option Addr
  n2 : Nat
  c2 : Nat
  r2 : List RecT
  A3 : Option Addr
  n3 : Nat
  c3 : Nat
  r3 : List RecT
  sz : Int
def MsgT.cells (m : MsgT) : List Value := [.int .u16 m.id, .bool m.reply, .int .i64 m.op, .bool m.auth, .bool m.trunc, .bool m.want, .bool m.avail, .int .i64 m.code, .string m.qn, .int .u16 m.qt, .slice m.A1 m.n1 m.c1, .slice m.A2 m.n2 m.c2, .slice m.A3 m.n3 m.c3, .int .i64 m.sz]
def MsgT.v (m : MsgT) : Value := .agg #[.int .u16 m.id, .bool m.reply, .int .i64 m.op, .bool m.auth, .bool m.trunc, .bool m.want, .bool m.avail, .int .i64 m.code, .string m.qn, .int .u16 m.qt, .slice m.A1 m.n1 m.c1, .slice m.A2 m.n2 m.c2, .slice m.A3 m.n3 m.c3, .int .i64 m.sz]
structure MsgOk (w : World) (m : MsgT) : Prop where
  op : (Lit.int .i64 m.op).wf = true
  code : (Lit.int .i64 m.code).wf = true
  id : (Lit.int .u16 m.id).wf = true
  qt : (Lit.int .u16 m.qt).wf = true
  qn : m.qn.size ≤ maxLen
  sz : (Lit.int .i64 m.sz).wf = true
  r1 : RecsV w m.A1 m.n1 m.c1 m.r1
  r2 : RecsV w m.A2 m.n2 m.c2 m.r2
  r3 : RecsV w m.A3 m.n3 m.c3 m.r3
/-- Where the fields of a struct stand, and how many cells they have. -/
def spotFields (P : Program) (fs : Array Field) : List (Nat × Nat) := fs.toList.map fun f => (f.offset, P.cellsOf f.type)
section
variable {H : Type} {enc : TypeId × Value → H} {P : Program} {w : World} {d : DataW H} {p : List MemPlace}
theorem view_recs4 {t e : TypeId} {f0 f1 f2 f3 : Field} (ht : P.underlying t = some (.slice e)) (hs : P.underlying e = some (.struct #[f0, f1, f2, f3])) (hone : oneCellFields P #[f0, f1, f2, f3] = true) (hC : P.cellsOf e = 4)
    (h0 : P.underlying f0.type = some .string) (h1 : P.underlying f1.type = some (.int .u16)) (h2 : P.underlying f2.type = some (.int .u32)) (h3 : P.underlying f3.type = some .string) {m : Nat} {cs : List Value}
    (h : DataW.trod enc P w 0 (fun _ => true) true m t cs = some (d, p)) :
    ∃ A n c, ∃ rs : List RecT, ∃ el : List (DataW H), cs = [.slice A n c] ∧ RecsV w A n c rs ∧ el.length = n ∧ ((d = .nil ∧ n = 0 ∧ c = 0) ∨ ∃ sp, d = .slice el sp ∧ sp.length = c - n) := by
  rcases open_slice ht h with ⟨rfl, hx⟩ | ⟨a, len, cap, m', n', D, Pl, rfl, hbase, hl, hm, hmm, hx, hi⟩
  · simp only [Prod.mk.injEq] at hx
    exact ⟨none, 0, 0, [], [], rfl, ⟨rfl, fun _ => ⟨rfl, rfl⟩, Nat.le_refl _, Nat.zero_le _, fun i r h => by simp at h, by simp⟩, rfl, .inl ⟨hx.1, rfl, rfl⟩⟩
  · simp only [if_true] at hmm
    simp only [Prod.mk.injEq] at hx
    have key : ∀ j, j < len → ∃ x : RecT, (w.cell? (a.add (j * 4)) = some (.string x.1) ∧ w.cell? (a.add (j * 4 + 1)) = some (.int .u16 x.2.1) ∧ w.cell? (a.add (j * 4 + 2)) = some (.int .u32 x.2.2.1) ∧ w.cell? (a.add (j * 4 + 3)) = some (.string x.2.2.2)) ∧
        (x.1.size ≤ maxLen ∧ (Lit.int .u16 x.2.1).wf = true ∧ (Lit.int .u32 x.2.2.1).wf = true ∧ x.2.2.2.size ≤ maxLen) := by
      intro j hj
      obtain ⟨cs', g1, g2⟩ := hi j (by omega)
      rw [hC] at g1
      obtain ⟨_, hlen, hcell⟩ := World.cells?_some g1
      match cs', hlen with
      | [v0, v1, v2, v3], _ =>
        obtain ⟨y0, y1, y2, y3, k, hy, _, t0, t1, t2, t3⟩ := Joins.trod_struct4 hs g2
        obtain ⟨o0, k0⟩ := hone_of hone 0 f0 rfl
        obtain ⟨o1, k1⟩ := hone_of hone 1 f1 rfl
        obtain ⟨o2, k2⟩ := hone_of hone 2 f2 rfl
        obtain ⟨o3, k3⟩ := hone_of hone 3 f3 rfl
        rw [o0, k0] at t0
        rw [o1, k1] at t1
        rw [o2, k2] at t2
        rw [o3, k3] at t3
        simp only [List.drop_zero, List.take_succ_cons, List.take_zero, List.drop_succ_cons] at t0 t1 t2 t3
        obtain ⟨z0, e0, -, w0⟩ := DataW.trod_string h0 t0
        obtain ⟨z1, e1, -, w1⟩ := DataW.trod_int h1 t1
        obtain ⟨z2, e2, -, w2⟩ := DataW.trod_int h2 t2
        obtain ⟨z3, e3, -, w3⟩ := DataW.trod_string h3 t3
        simp only [List.cons.injEq, and_true] at e0 e1 e2 e3
        subst e0 e1 e2 e3
        refine ⟨(z0, z1, z2, z3), ⟨?_, ?_, ?_, ?_⟩, w0, w1, w2, w3⟩
        · have q := hcell 0 (by omega); rw [Addr.add_add] at q; exact q
        · have q := hcell 1 (by omega); rw [Addr.add_add] at q; exact q
        · have q := hcell 2 (by omega); rw [Addr.add_add] at q; exact q
        · have q := hcell 3 (by omega); rw [Addr.add_add] at q; exact q
    obtain ⟨ds, hal, has⟩ := choose_idx len key
    refine ⟨some a, len, cap, ds, (List.range len).map D, rfl, ⟨hal, (fun h => by cases h), hl, hm, fun i r hr => ?_, ?_⟩, by simp, .inr ⟨_, hx.1, by simp; omega⟩⟩
    · obtain ⟨b', off, spot⟩ := a
      obtain ⟨q0, q1, q2, q3⟩ := (has i r hr).1
      obtain ⟨x0, hx0⟩ : ∃ x, ds[0]? = some x := ⟨_, List.getElem?_eq_getElem (by have := (List.getElem?_eq_some_iff.1 hr).1; omega)⟩
      have g0 := (has 0 x0 hx0).1.1
      have hspot : spot = none := by simpa [Addr.add] using World.cell?_spot g0
      subst hspot
      refine ⟨b', off, rfl, ?_, ?_⟩
      · have := World.block_lt_of_cell? w _ q0
        rwa [Addr.add_lit] at this
      · rw [Addr.add_lit] at q0 q1 q2 q3
        exact ⟨q0, by rw [Nat.add_assoc]; exact q1, by rw [Nat.add_assoc]; exact q2, by rw [Nat.add_assoc]; exact q3⟩
    · intro x hx'
      obtain ⟨i, hi', rfl⟩ := List.getElem_of_mem hx'
      exact (has i _ (List.getElem?_eq_getElem hi')).2
theorem weight_slice {t e : TypeId} (ht : P.underlying t = some (.slice e)) {n c : Nat} (hle : n ≤ c) {el : List (DataW H)} (hl : el.length = n) (h : (d = .nil ∧ n = 0 ∧ c = 0) ∨ ∃ sp, d = .slice el sp ∧ sp.length = c - n) : c = 0 ∨ c * P.bytesOf e ∈ d.weights P t := by
  rcases h with ⟨_, _, h0⟩ | ⟨sp, rfl, hsp⟩
  · exact .inl h0
  · right
    simp [DataW.weights, ht, hl, hsp]
    left
    rw [show n + (c - n) = c by omega]
theorem open_msg {r : Reach} {b0 : Nat} {t te e : TypeId} {f0 f1 f2 f3 f4 f5 g0 g1 g2 g3 g4 g5 g6 g7 q0 q1 k0 k1 k2 k3 : Field} {v : Value}
    (hs : P.underlying t = some (.struct #[f0, f1, f2, f3, f4, f5])) (hsp : spotFields P #[f0, f1, f2, f3, f4, f5] = [(0, 8), (8, 2), (10, 1), (11, 1), (12, 1), (13, 1)]) (hC : P.cellsOf t = 14)
    (hs0 : P.underlying f0.type = some (.struct #[g0, g1, g2, g3, g4, g5, g6, g7])) (hone0 : oneCellFields P #[g0, g1, g2, g3, g4, g5, g6, g7] = true)
    (u0 : P.underlying g0.type = some (.int .u16)) (u1 : P.underlying g1.type = some .bool) (u2 : P.underlying g2.type = some (.int .i64)) (u3 : P.underlying g3.type = some .bool) (u4 : P.underlying g4.type = some .bool) (u5 : P.underlying g5.type = some .bool) (u6 : P.underlying g6.type = some .bool) (u7 : P.underlying g7.type = some (.int .i64))
    (hs1 : P.underlying f1.type = some (.struct #[q0, q1])) (hone1 : oneCellFields P #[q0, q1] = true) (uq0 : P.underlying q0.type = some .string) (uq1 : P.underlying q1.type = some (.int .u16))
    (h2 : f2.type = te) (h3 : f3.type = te) (h4 : f4.type = te) (u5' : P.underlying f5.type = some (.int .i64))
    (ht : P.underlying te = some (.slice e)) (hse : P.underlying e = some (.struct #[k0, k1, k2, k3])) (honee : oneCellFields P #[k0, k1, k2, k3] = true) (hCe : P.cellsOf e = 4)
    (uk0 : P.underlying k0.type = some .string) (uk1 : P.underlying k1.type = some (.int .u16)) (uk2 : P.underlying k2.type = some (.int .u32)) (uk3 : P.underlying k3.type = some .string)
    (hv : Value.okWide P w r b0 t v) (h : DataW.Trod enc P w 0 (fun _ => true) true t v d p) :
    ∃ m : MsgT, v = m.v ∧ MsgOk w m ∧ (m.c1 = 0 ∨ m.c1 * P.bytesOf e ∈ d.weights P t) ∧ (m.c2 = 0 ∨ m.c2 * P.bytesOf e ∈ d.weights P t) ∧ (m.c3 = 0 ∨ m.c3 * P.bytesOf e ∈ d.weights P t) := by
  obtain ⟨cs, rfl, hsz⟩ := okWide_struct hs hv
  rw [hC] at hsz
  obtain ⟨l⟩ := cs
  have hl : l.length = 14 := hsz
  rcases l with _ | ⟨x0, _ | ⟨x1, _ | ⟨x2, _ | ⟨x3, _ | ⟨x4, _ | ⟨x5, _ | ⟨x6, _ | ⟨x7, _ | ⟨x8, _ | ⟨x9, _ | ⟨x10, _ | ⟨x11, _ | ⟨x12, _ | ⟨x13, l⟩⟩⟩⟩⟩⟩⟩⟩⟩⟩⟩⟩⟩⟩ <;> simp at hl
  subst hl
  obtain ⟨fuel, hf⟩ := h
  obtain ⟨xs, n, _, hx, _, hlen, hff⟩ := DataW.trod_struct hs hf
  unfold spotFields at hsp
  simp only [List.map_cons, List.map_nil, List.cons.injEq, Prod.mk.injEq, and_true] at hsp
  obtain ⟨⟨o0, c0⟩, ⟨o1, c1⟩, ⟨o2, c2⟩, ⟨o3, c3⟩, ⟨o4, c4⟩, ⟨o5, c5⟩⟩ := hsp
  match xs, hlen with
  | [y0, y1, y2, y3, y4, y5], _ =>
    have a0 := hff 0 f0 rfl
    have a1 := hff 1 f1 rfl
    have a2 := hff 2 f2 rfl
    have a3 := hff 3 f3 rfl
    have a4 := hff 4 f4 rfl
    have a5 := hff 5 f5 rfl
    rw [o0, c0] at a0
    rw [o1, c1] at a1
    rw [o2, c2, h2] at a2
    rw [o3, c3, h3] at a3
    rw [o4, c4, h4] at a4
    rw [o5, c5] at a5
    simp only [Value.cells, List.drop_zero, List.take_succ_cons, List.take_zero, List.drop_succ_cons, List.getElem?_cons_zero, List.getElem?_cons_succ] at a0 a1 a2 a3 a4 a5
    obtain ⟨zs, n0, _, hz, _, hzl, hzf⟩ := DataW.trod_struct hs0 a0
    match zs, hzl with
    | [z0, z1, z2, z3, z4, z5, z6, z7], _ =>
      have b0 := hzf 0 g0 rfl
      have b1 := hzf 1 g1 rfl
      have b2 := hzf 2 g2 rfl
      have b3 := hzf 3 g3 rfl
      have b4 := hzf 4 g4 rfl
      have b5 := hzf 5 g5 rfl
      have b6 := hzf 6 g6 rfl
      have b7 := hzf 7 g7 rfl
      rw [(hone_of hone0 0 g0 rfl).1, (hone_of hone0 0 g0 rfl).2] at b0
      rw [(hone_of hone0 1 g1 rfl).1, (hone_of hone0 1 g1 rfl).2] at b1
      rw [(hone_of hone0 2 g2 rfl).1, (hone_of hone0 2 g2 rfl).2] at b2
      rw [(hone_of hone0 3 g3 rfl).1, (hone_of hone0 3 g3 rfl).2] at b3
      rw [(hone_of hone0 4 g4 rfl).1, (hone_of hone0 4 g4 rfl).2] at b4
      rw [(hone_of hone0 5 g5 rfl).1, (hone_of hone0 5 g5 rfl).2] at b5
      rw [(hone_of hone0 6 g6 rfl).1, (hone_of hone0 6 g6 rfl).2] at b6
      rw [(hone_of hone0 7 g7 rfl).1, (hone_of hone0 7 g7 rfl).2] at b7
      simp only [List.drop_zero, List.take_succ_cons, List.take_zero, List.drop_succ_cons, List.getElem?_cons_zero, List.getElem?_cons_succ] at b0 b1 b2 b3 b4 b5 b6 b7
      obtain ⟨qs, n1, _, hq, _, hql, hqf⟩ := DataW.trod_struct hs1 a1
      match qs, hql with
      | [p0, p1], _ =>
        have d0 := hqf 0 q0 rfl
        have d1 := hqf 1 q1 rfl
        rw [(hone_of hone1 0 q0 rfl).1, (hone_of hone1 0 q0 rfl).2] at d0
        rw [(hone_of hone1 1 q1 rfl).1, (hone_of hone1 1 q1 rfl).2] at d1
        simp only [List.drop_zero, List.take_succ_cons, List.take_zero, List.drop_succ_cons, List.getElem?_cons_zero, List.getElem?_cons_succ] at d0 d1
        obtain ⟨v0, e0, -, w0⟩ := DataW.trod_int u0 b0
        obtain ⟨v1, e1, -⟩ := DataW.trod_bool u1 b1
        obtain ⟨v2, e2, -, w2⟩ := DataW.trod_int u2 b2
        obtain ⟨v3, e3, -⟩ := DataW.trod_bool u3 b3
        obtain ⟨v4, e4, -⟩ := DataW.trod_bool u4 b4
        obtain ⟨v5, e5, -⟩ := DataW.trod_bool u5 b5
        obtain ⟨v6, e6, -⟩ := DataW.trod_bool u6 b6
        obtain ⟨v7, e7, -, w7⟩ := DataW.trod_int u7 b7
        obtain ⟨v8, e8, -, w8⟩ := DataW.trod_string uq0 d0
        obtain ⟨v9, e9, -, w9⟩ := DataW.trod_int uq1 d1
        obtain ⟨v13, e13, -, w13⟩ := DataW.trod_int u5' a5
        obtain ⟨y2a, y2b⟩ := y2
        obtain ⟨y3a, y3b⟩ := y3
        obtain ⟨y4a, y4b⟩ := y4
        obtain ⟨A1, n1, c1, r1, el1, e10, V1, L1, D1⟩ := view_recs4 ht hse honee hCe uk0 uk1 uk2 uk3 a2
        obtain ⟨A2, n2, c2, r2, el2, e11, V2, L2, D2⟩ := view_recs4 ht hse honee hCe uk0 uk1 uk2 uk3 a3
        obtain ⟨A3, n3, c3, r3, el3, e12, V3, L3, D3⟩ := view_recs4 ht hse honee hCe uk0 uk1 uk2 uk3 a4
        simp only [List.cons.injEq, and_true] at e0 e1 e2 e3 e4 e5 e6 e7 e8 e9 e10 e11 e12 e13
        subst e0 e1 e2 e3 e4 e5 e6 e7 e8 e9 e10 e11 e12 e13
        have g1 := weight_slice ht V1.le L1 D1
        have g2 := weight_slice ht V2.le L2 D2
        have g3 := weight_slice ht V3.le L3 D3
        obtain rfl : d = .agg [y0.1, y1.1, y2a, y3a, y4a, y5.1] := by have := congrArg Prod.fst hx; simpa using this
        refine ⟨⟨v0, v1, v2, v3, v4, v5, v6, v7, v8, v9, A1, n1, c1, r1, A2, n2, c2, r2, A3, n3, c3, r3, v13⟩, rfl, ⟨w2, w7, w0, w9, w8, w13, V1, V2, V3⟩, g1.imp id fun q => ?_, g2.imp id fun q => ?_, g3.imp id fun q => ?_⟩ <;>
          (simp only [DataW.weights, hs, DataW.weightsEach, List.map_cons, List.map_nil, h2, h3, h4, List.mem_append, Array.toList, List.toArray]; simp [q])
end
end Go.Proofs.Ytbjbppnjheaecaa
