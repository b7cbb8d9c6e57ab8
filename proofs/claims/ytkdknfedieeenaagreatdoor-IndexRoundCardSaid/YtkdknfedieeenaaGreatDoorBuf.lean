/- A slice that a call owns, carried from append to append. It speaks of no program. -/
import Derived.Test.YtkdknfedieeenaaGreatDoorBase
import Derived.Laws.AppendOwn
namespace Go.Proofs.YtkdknfedieeenaaGreatDoor
open Go.RowKit
set_option linter.unusedVariables false

/-- In w the slice v owns a row of n cells xs in a block from B on; of what lay below B in W nothing has turned. -/
def Buf (B : Nat) (e : TypeId) (W : World) (v : Value) (n : Nat) (xs : List Value) (w : World) : Prop :=
  w.ownsRow B e 1 v n xs ∧ Below B W w ∧ B ≤ w.heap.size
section
variable {B : Nat} {e : TypeId} {W w w' : World} {v v' : Value} {n n' : Nat} {xs xs' : List Value}
theorem Buf.start (w : World) (e : TypeId) : Buf w.heap.size e w (.slice none 0 0) 0 [] w := ⟨World.ownsRow_nil _ _ _ _, Below.refl _ _, Nat.le_refl _⟩
theorem Buf.nil (W w : World) (e : TypeId) (hb : Below B W w) (hB : B ≤ w.heap.size) : Buf B e W (.slice none 0 0) 0 [] w := ⟨World.ownsRow_nil _ _ _ _, hb, hB⟩
theorem Buf.alloc (h : Buf B e W v n xs w) (o : Obj) : Buf B e W v n xs (w.alloc o) := ⟨h.1.alloc o, h.2.1.alloc h.2.2 o, by have := h.2.2; simp; omega⟩
theorem Buf.drewN (h : Buf B e W v n xs w) (k : Nat) : Buf B e W v n xs (w.drewN k) := ⟨h.1, ⟨h.2.1.os, h.2.1.tape, h.2.1.output, h.2.1.size, h.2.1.block⟩, h.2.2⟩
theorem Buf.grown (h : Buf B e W v n xs w) (ho : w'.ownsRow B e 1 v' n' xs') (hg : w.grownBy w' v.ownBlock) : Buf B e W v' n' xs' w' :=
  ⟨ho, h.2.1.grown hg h.2.2 (fun k hk => (h.1.lt k hk).1), Nat.le_trans h.2.2 hg.size⟩
theorem Buf.len (h : Buf B e W v n xs w) : xs.length = n := by simpa using h.1.1
theorem Buf.below (h : Buf B e W v n xs w) : Below B W w := h.2.1
theorem Buf.slice (h : Buf B e W v n xs w) : ∃ A c, v = .slice A n c ∧ n ≤ c ∧ c ≤ maxLen ∧ (A = none → n = 0 ∧ c = 0) := by
  rcases h.1.2 with ⟨rfl, rfl⟩ | ⟨g, cap, cur, rfl, hb, hg, h1, h2, _⟩
  · exact ⟨none, 0, rfl, Nat.le_refl _, Nat.zero_le _, fun _ => ⟨rfl, rfl⟩⟩
  · exact ⟨_, cap, rfl, h1, h2, fun h => by cases h⟩
theorem Buf.sl {A : Option Addr} {c : Nat} (h : Buf B e W (.slice A n c) n xs w) : Sl w w.heap.size 1 A n xs := Sl.of_own h.1
/-- What is below a greater block stays. -/
theorem Buf.keep {C : Nat} (h : Buf B e W v n xs w) (hb : Below C w w') (hC : w.heap.size ≤ C) : Buf B e W v n xs w' := by
  refine ⟨⟨h.1.1, ?_⟩, h.2.1.trans (hb.mono (Nat.le_trans h.2.2 hC)), Nat.le_trans h.2.2 hb.size⟩
  rcases h.1.2 with hn | ⟨g, cap, cur, rfl, hB, hg, rest⟩
  · exact .inl hn
  · exact .inr ⟨g, cap, cur, rfl, hB, by rw [hb.block g (Nat.lt_of_lt_of_le (Array.getElem?_eq_some_iff.1 hg).1 hC)]; exact hg, rest⟩
theorem Buf.mono {C : Nat} (h : Buf B e W v n xs w) (hC : C ≤ B) : Buf C e W v n xs w := by
  refine ⟨⟨h.1.1, ?_⟩, h.2.1.mono hC, Nat.le_trans hC h.2.2⟩
  rcases h.1.2 with hn | ⟨g, cap, cur, rfl, hB, hg, rest⟩
  · exact .inl hn
  · exact .inr ⟨g, cap, cur, rfl, Nat.le_trans hC hB, hg, rest⟩
/-- A buffer that a callee made, seen from farther out. -/
theorem Buf.out {W0 : World} (h : Buf B e W v n xs w) {C : Nat} (hC : C ≤ B) (h0 : Below C W0 W) : Buf C e W0 v n xs w :=
  ⟨(h.mono hC).1, h0.trans (h.2.1.mono hC), Nat.le_trans hC h.2.2⟩
/-- The same buffer, told from another beginning. -/
theorem Buf.from {W' : World} (h : Buf B e W v n xs w) (h0 : Below B W' w) : Buf B e W' v n xs w := ⟨h.1, h0, h.2.2⟩
end

section
variable {P : Program}
/-- 'buf = append(buf, u)': the one new value lies in the block that the statement has just laid. -/
theorem wpList_append_one {ops : Array Oper} {rest : List Oper} {o : Oper} {a : Act} {Q : Exit → Act → World → Prop} (hgd : o.guard = none) (s x : Operand) (t : TypeId)
    (ho : o.op = .call { callee := .builtin .append, args := #[s, x], argTypes := #[t, t] })
    (B : Nat) (e : TypeId) (i : TypeInfo) (z : Value) (bytes : Nat) (ht : P.underlying t = some (.slice e)) (hi : P.info? e = some i) (hz : i.zero = some z) (hsize : i.size = 1) (hby : i.bytes = bytes) (hzs : z.cells.size = 1)
    {v : Value} {n : Nat} {xs : List Value} {W w0 : World} {u : Value} (hb : Buf B e W v n xs w0) (hs : a.eval s = v)
    (hx : a.eval x = .slice (some ⟨w0.heap.size, 0, none⟩) 1 1) (h1 : u.oneCell' = true) (hlen : n + 1 ≤ maxLen) (hbytes : (n + 1) * bytes ≤ 140737488355328)
    (h : ∀ v' w', Buf B e W v' (n + 1) (xs ++ [u]) w' → wpList P ops Q rest (a.put o.dst v') w') : wpList P ops Q (o :: rest) a (w0.alloc (.cells #[u] e)) := by
  have hb' := hb.alloc (.cells #[u] e)
  refine wpList_append_own _ hgd s x t ho B e i z 1 bytes ht hi hz hsize hby hzs (by decide) v n xs hs hb'.1 ⟨w0.heap.size, 0, none⟩ 1 1 [u] hx rfl ?_ ?_ hlen hbytes hb'.2.2 ?_
  · exact news_at w0 #[u] e
  · intro y hy; simp at hy; subst hy; exact h1
  · intro v' w' ho' hg _
    exact h v' w' (hb'.grown ho' hg)
end

/-- Strings and their bytes. -/
def sv (l : List UInt8) : Value := .string ⟨l.toArray⟩
theorem sv_bytes (s : ByteArray) : sv s.data.toList = .string s := by simp [sv]
theorem sv_eq (l : List UInt8) : Value.string ⟨l.toArray⟩ = sv l := rfl
theorem ba_extract (s : ByteArray) (a b : Nat) : Value.string (s.extract a b) = sv (s.data.toList.extract a b) := by
  unfold sv
  congr 1
  apply ByteArray.ext
  apply Array.toList_inj.1
  simp [List.extract_eq_take_drop]
theorem toList_get (s : ByteArray) (i : Nat) (h : i < s.size) : s.data.toList[i]'(by simpa using h) = s[i] := rfl
theorem mk_size (l : List UInt8) : (ByteArray.mk l.toArray).size = l.length := by simp [ByteArray.size]
theorem mk_get (l : List UInt8) (i : Nat) (h : i < l.length) : (ByteArray.mk l.toArray)[i]'(by rw [mk_size]; exact h) = l[i] := rfl
theorem ba_eta (s : ByteArray) : (⟨s.data.toList.toArray⟩ : ByteArray) = s := by simp
theorem str_same (a b : ByteArray) (h : a.data.toList = b.data.toList) : (a.toList == b.toList) = true := by rw [ByteArray.toList_eq, ByteArray.toList_eq, h]; simp
theorem str_other (a b : ByteArray) (h : a.data.toList ≠ b.data.toList) : (a.toList == b.toList) = false := by rw [ByteArray.toList_eq, ByteArray.toList_eq]; simpa using h
theorem str_is (a : ByteArray) (l : List UInt8) : (a.toList == l) = (a.data.toList == l) := by rw [ByteArray.toList_eq]
theorem str_empty (s : ByteArray) (h : s.size ≠ 0) : (s.toList == []) = false := by
  rw [ByteArray.toList_eq, beq_eq_false_iff_ne]
  intro e
  apply h
  have := congrArg List.length e
  simpa using this
theorem str_empty' (s : ByteArray) (h : s.size ≠ 0) : s.toList.isEmpty = false := by
  rw [ByteArray.toList_eq]
  cases hs : s.data.toList with
  | nil => exact absurd (by have := congrArg List.length hs; simpa using this) h
  | cons a l => rfl
end Go.Proofs.YtkdknfedieeenaaGreatDoor
