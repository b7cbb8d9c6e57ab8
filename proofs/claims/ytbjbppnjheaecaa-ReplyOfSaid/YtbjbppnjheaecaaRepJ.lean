/- Messages that have the same, wherever their records lie. -/
import Derived.Test.YtbjbppnjheaecaaRepG
import Derived.Test.YtbjbppnjheaecaaRepI
namespace Go.Proofs.Ytbjbppnjheaecaa
open Go.RowKit
set_option linter.unusedVariables false
set_option linter.unusedSimpArgs false
set_option maxRecDepth 20000
/-- The same, but for where the records lie. -/
structure SameT (m u : MsgT) : Prop where
  id : m.id = u.id
  reply : m.reply = u.reply
  op : m.op = u.op
  auth : m.auth = u.auth
  trunc : m.trunc = u.trunc
  want : m.want = u.want
  avail : m.avail = u.avail
  code : m.code = u.code
  qn : m.qn = u.qn
  qt : m.qt = u.qt
  sz : m.sz = u.sz
  r1 : m.r1 = u.r1
  r2 : m.r2 = u.r2
  r3 : m.r3 = u.r3
theorem SameT.refl (m : MsgT) : SameT m m := ⟨rfl, rfl, rfl, rfl, rfl, rfl, rfl, rfl, rfl, rfl, rfl, rfl, rfl, rfl⟩
theorem SameT.symm {m u : MsgT} (h : SameT m u) : SameT u m := ⟨h.id.symm, h.reply.symm, h.op.symm, h.auth.symm, h.trunc.symm, h.want.symm, h.avail.symm, h.code.symm, h.qn.symm, h.qt.symm, h.sz.symm, h.r1.symm, h.r2.symm, h.r3.symm⟩
theorem SameT.trans {m u x : MsgT} (h : SameT m u) (k : SameT u x) : SameT m x := ⟨h.id.trans k.id, h.reply.trans k.reply, h.op.trans k.op, h.auth.trans k.auth, h.trunc.trans k.trunc, h.want.trans k.want, h.avail.trans k.avail, h.code.trans k.code, h.qn.trans k.qn, h.qt.trans k.qt, h.sz.trans k.sz, h.r1.trans k.r1, h.r2.trans k.r2, h.r3.trans k.r3⟩
/-- A message's records lie there. -/
structure MsgHas (w : World) (m : MsgT) : Prop where
  h1 : Recs w m.A1 m.r1
  h2 : Recs w m.A2 m.r2
  h3 : Recs w m.A3 m.r3
  l1 : m.r1.length = m.n1
  l2 : m.r2.length = m.n2
  l3 : m.r3.length = m.n3
  x1 : m.n1 ≤ maxLen
  x2 : m.n2 ≤ maxLen
  x3 : m.n3 ≤ maxLen
theorem MsgHas.below {w w' : World} {m : MsgT} (h : MsgHas w m) (hb : Below w.heap.size w w') : MsgHas w' m := ⟨h.h1.below hb, h.h2.below hb, h.h3.below hb, h.l1, h.l2, h.l3, h.x1, h.x2, h.x3⟩
theorem MsgOk.has {w : World} {m : MsgT} (h : MsgOk w m) : MsgHas w m := ⟨h.r1.recs, h.r2.recs, h.r3.recs, h.r1.len, h.r2.len, h.r3.len, Nat.le_trans h.r1.le h.r1.max, Nat.le_trans h.r2.le h.r2.max, Nat.le_trans h.r3.le h.r3.max⟩
theorem Recs.nil (w : World) (A : Option Addr) : Recs w A [] := fun i r h => by simp at h
theorem same_msgT (m u : MsgT) (w : World) (h : MsgHas w m) (k : MsgHas w u) (e : SameT m u) : Calls Try.prog 10 #[m.v, u.v] w fun e w' => e = .returned (.bool true) ∧ Below w.heap.size w w' := by
  obtain ⟨id, reply, op, auth, trunc, want, avail, cd, qn, qt, A1, n1, c1, r1, A2, n2, c2, r2, A3, n3, c3, r3, z⟩ := m
  obtain ⟨uid, ureply, uop, uauth, utrunc, uwant, uavail, ucd, uqn, uqt, U1, un1, uc1, s1, U2, un2, uc2, s2, U3, un3, uc3, s3, uz⟩ := u
  obtain ⟨rfl, rfl, rfl, rfl, rfl, rfl, rfl, rfl, rfl, rfl, rfl, rfl, rfl, rfl⟩ := e
  obtain ⟨h1, h2, h3, l1, l2, l3, x1, x2, x3⟩ := h
  obtain ⟨k1, k2, k3, m1, m2, m3, y1, y2, y3⟩ := k
  unfold MsgT.v
  dsimp only at *
  have q := same_msg id reply op auth trunc want avail cd qn qt z A1 A2 A3 U1 U2 U3 c1 c2 c3 uc1 uc2 uc3 r1 r2 r3 w h1 h2 h3 k1 k2 k3 (by rw [l1]; exact x1) (by rw [l2]; exact x2) (by rw [l3]; exact x3)
  subst l1 l2 l3
  subst m1 m2 m3
  exact q
/-- What a reply says. -/
def MsgT.baseT (m : MsgT) (code : Int) (trunc : Bool) (rs : List RecT) : MsgT := ⟨m.id, true, m.op, false, trunc, m.want, true, code % 16, m.qn, m.qt, none, 0, 0, rs, none, 0, 0, [], none, 0, 0, [], minZ m.sz⟩
def MsgT.passT (m u : MsgT) : MsgT := ⟨m.id, true, m.op, u.auth, false, m.want, true, u.code % 16, m.qn, m.qt, none, 0, 0, u.r1, none, 0, 0, u.r2, none, 0, 0, u.r3, minZ m.sz⟩
def zeroT : MsgT := ⟨0, false, 0, false, false, false, false, 0, ⟨#[]⟩, 0, none, 0, 0, [], none, 0, 0, [], none, 0, 0, [], 0⟩
/-- A message whose records lie in new blocks. -/
structure OwnM (B : Nat) (m : MsgT) : Prop where
  o1 : OwnA B m.A1
  o2 : OwnA B m.A2
  o3 : OwnA B m.A3
/-- A call told a message. -/
def TellsM (P : Program) (F : Nat) (args : Array Value) (w : World) (t : MsgT) : Prop := Calls P F args w fun e w' => ∃ m, e = .returned m.v ∧ SameT m t ∧ MsgHas w' m ∧ OwnM w.heap.size m ∧ Below w.heap.size w w'
/-- A call told a message, and whether there is one. -/
def TellsB (P : Program) (F : Nat) (args : Array Value) (w : World) (t : MsgT) (b : Bool) : Prop := Calls P F args w fun e w' => ∃ m : MsgT, e = .returned (.tuple #[m.v, .bool b]) ∧ SameT m t ∧ MsgHas w' m ∧ OwnM w.heap.size m ∧ Below w.heap.size w w'
theorem MsgHas.base (w : World) (m : MsgT) (code : Int) (t : Bool) : MsgHas w (m.baseT code t []) := ⟨Recs.nil _ _, Recs.nil _ _, Recs.nil _ _, rfl, rfl, rfl, Nat.zero_le _, Nat.zero_le _, Nat.zero_le _⟩
theorem base_v (m : MsgT) (code : Int) : m.base code = (m.baseT code false []).v := rfl
theorem passed_tells (q u : MsgT) (w : World) (h : MsgHas w u) (d1 : u.A1 = none → u.n1 = 0 ∧ u.c1 = 0) (d2 : u.A2 = none → u.n2 = 0 ∧ u.c2 = 0) (d3 : u.A3 = none → u.n3 = 0 ∧ u.c3 = 0) (b1 : u.n1 * 40 ≤ 140737488355328) (b2 : u.n2 * 40 ≤ 140737488355328) (b3 : u.n3 * 40 ≤ 140737488355328) :
    TellsM Try.prog 13 #[q.v, u.v] w (q.passT u) := by
  refine (passed_any q u w h.h1 h.h2 h.h3 h.l1 h.l2 h.l3 d1 d2 d3 b1 b2 b3).mono ?_
  rintro e w' ⟨A1, c1, A2, c2, A3, c3, rfl, o1, o2, o3, k1, k2, k3, hb⟩
  exact ⟨⟨q.id, true, q.op, u.auth, false, q.want, true, u.code % 16, q.qn, q.qt, A1, u.n1, c1, u.r1, A2, u.n2, c2, u.r2, A3, u.n3, c3, u.r3, minZ q.sz⟩, rfl, ⟨rfl, rfl, rfl, rfl, rfl, rfl, rfl, rfl, rfl, rfl, rfl, rfl, rfl, rfl⟩, ⟨k1, k2, k3, h.l1, h.l2, h.l3, h.x1, h.x2, h.x3⟩, ⟨o1, o2, o3⟩, hb⟩
theorem lpassed_tells (q u : MsgT) (w : World) (hw : (Lit.int .i64 u.code).wf = true) (h : MsgHas w u) (d1 : u.A1 = none → u.n1 = 0 ∧ u.c1 = 0) (d2 : u.A2 = none → u.n2 = 0 ∧ u.c2 = 0) (d3 : u.A3 = none → u.n3 = 0 ∧ u.c3 = 0) (b1 : u.n1 * 40 ≤ 140737488355328) (b2 : u.n2 * 40 ≤ 140737488355328) (b3 : u.n3 * 40 ≤ 140737488355328) :
    TellsM Try.prog 14 #[q.v, u.v] w (q.passT u) := by
  refine (lpassed_any q u w hw h.h1 h.h2 h.h3 h.l1 h.l2 h.l3 d1 d2 d3 b1 b2 b3).mono ?_
  rintro e w' ⟨A1, c1, A2, c2, A3, c3, rfl, o1, o2, o3, k1, k2, k3, hb⟩
  exact ⟨⟨q.id, true, q.op, u.auth, false, q.want, true, u.code % 16, q.qn, q.qt, A1, u.n1, c1, u.r1, A2, u.n2, c2, u.r2, A3, u.n3, c3, u.r3, minZ q.sz⟩, rfl, ⟨rfl, rfl, rfl, rfl, rfl, rfl, rfl, rfl, rfl, rfl, rfl, rfl, rfl, rfl⟩, ⟨k1, k2, k3, h.l1, h.l2, h.l3, h.x1, h.x2, h.x3⟩, ⟨o1, o2, o3⟩, hb⟩
end Go.Proofs.Ytbjbppnjheaecaa
