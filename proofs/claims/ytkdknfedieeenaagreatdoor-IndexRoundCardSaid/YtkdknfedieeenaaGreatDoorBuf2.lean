/- 'buf = append(buf, xs...)' of any slice that reads as a list, nil or not. It speaks of no program. -/
import Derived.Test.YtkdknfedieeenaaGreatDoorBuf
import Derived.Laws.AppendOwnNone
namespace Go.Proofs.YtkdknfedieeenaaGreatDoor
open Go.RowKit
set_option linter.unusedVariables false
section
variable {P : Program}
/-- 'buf = append(buf, u)', also guarded; told as well: what other blocks hold. -/
theorem wpList_append_one_g {ops : Array Oper} {rest : List Oper} {o : Oper} {a : Act} {Q : Exit → Act → World → Prop} (hgd : Region.wanted o (yielded ops a.tmps) = true) (s x : Operand) (t : TypeId)
    (ho : o.op = .call { callee := .builtin .append, args := #[s, x], argTypes := #[t, t] })
    (B : Nat) (e : TypeId) (i : TypeInfo) (z : Value) (bytes : Nat) (ht : P.underlying t = some (.slice e)) (hi : P.info? e = some i) (hz : i.zero = some z) (hsize : i.size = 1) (hby : i.bytes = bytes) (hzs : z.cells.size = 1)
    {v : Value} {n : Nat} {xs : List Value} {W w0 : World} {u : Value} (hb : Buf B e W v n xs w0) (hs : a.eval s = v)
    (hx : a.eval x = .slice (some ⟨w0.heap.size, 0, none⟩) 1 1) (h1 : u.oneCell' = true) (hlen : n + 1 ≤ maxLen) (hbytes : (n + 1) * bytes ≤ 140737488355328)
    (h : ∀ v' w', Buf B e W v' (n + 1) (xs ++ [u]) w' → w0.heap.size ≤ w'.heap.size → (∀ k, k < w0.heap.size → some k ≠ v.ownBlock → w'.heap[k]? = w0.heap[k]?) → wpList P ops Q rest (a.put o.dst v') w') : wpList P ops Q (o :: rest) a (w0.alloc (.cells #[u] e)) := by
  have hb' := hb.alloc (.cells #[u] e)
  refine wpList_step fun K hK => ?_
  rw [if_pos hgd]
  refine wp_append_own _ s x t ho B e i z 1 bytes ht hi hz hsize hby hzs (by decide) v n xs hs hb'.1 ⟨w0.heap.size, 0, none⟩ 1 1 [u] hx rfl ?_ ?_ hlen hbytes hb'.2.2 ?_
  · exact news_at w0 #[u] e
  · intro y hy; simp at hy; subst hy; exact h1
  · intro v' w' ho' hg _
    refine hK _ _ (h v' w' (hb'.grown ho' hg) ?_ ?_)
    · have := hg.size; simp at this; omega
    · intro k hk hne
      rw [hg.block k (by simp; omega) hne]
      exact Below.heap_alloc w0 _ k hk
theorem wpList_append_all {ops : Array Oper} {rest : List Oper} {o : Oper} {a : Act} {Q : Exit → Act → World → Prop} {w : World} (hgd : Region.wanted o (yielded ops a.tmps) = true) (s x : Operand) (t : TypeId)
    (ho : o.op = .call { callee := .builtin .append, args := #[s, x], argTypes := #[t, t] })
    (B : Nat) (e : TypeId) (i : TypeInfo) (z : Value) (bytes : Nat) (ht : P.underlying t = some (.slice e)) (hi : P.info? e = some i) (hz : i.zero = some z) (hsize : i.size = 1) (hby : i.bytes = bytes) (hzs : z.cells.size = 1)
    {v : Value} {n : Nat} {xs : List Value} {W : World} (hb : Buf B e W v n xs w) (hs : a.eval s = v)
    {C : Nat} {A : Option Addr} {m c : Nat} {news : List Value} (hA : Sl w C 1 A m news) (hA0 : A = none → m = 0 ∧ c = 0)
    (hx : a.eval x = .slice A m c) (h1 : ∀ u ∈ news, u.oneCell' = true) (hlen : n + m ≤ maxLen) (hbytes : (n + m) * bytes ≤ 140737488355328)
    (h : ∀ v' w', Buf B e W v' (n + m) (xs ++ news) w' → wpList P ops Q rest (a.put o.dst v') w') : wpList P ops Q (o :: rest) a w := by
  cases A with
  | none =>
    obtain ⟨rfl, rfl⟩ := hA0 rfl
    have hn : news = [] := List.eq_nil_of_length_eq_zero (by simpa using hA.1)
    subst hn
    refine wpList_step fun K hK => ?_
    rw [if_pos hgd]
    have hrun := run_append_owned_none (P := P) (w := w) B t o.type e i 1 ht hi v n xs hb.1
    unfold Oper.wp
    simp [execOp, ho, resolve, invoke, builtin, hs, hx, hrun, Result.andThen]
    exact hK _ _ (h v w (by simpa using hb))
  | some ad =>
    refine wpList_step fun K hK => ?_
    rw [if_pos hgd]
    refine wp_append_own w s x t ho B e i z 1 bytes ht hi hz hsize hby hzs (by decide) v n xs hs hb.1 ad m c news hx hA.1 (hA.cells_at ad rfl) h1 hlen hbytes hb.2.2 ?_
    intro v' w' ho' hg _
    exact hK _ _ (h v' w' (hb.grown ho' hg))
end
theorem Buf.slice3 {B : Nat} {e : TypeId} {W w : World} {v : Value} {n : Nat} {xs : List Value} (h : Buf B e W v n xs w) : ∃ A c, v = .slice A n c ∧ n ≤ c ∧ c ≤ maxLen ∧ ((A = none ∧ n = 0 ∧ c = 0) ∨ ∃ g, A = some ⟨g, 0, none⟩ ∧ g < w.heap.size) := by
  rcases h.1.2 with ⟨rfl, rfl⟩ | ⟨g, cap, cur, rfl, hb, hg, h1, h2, _⟩
  · exact ⟨none, 0, rfl, Nat.le_refl _, Nat.zero_le _, .inl ⟨rfl, rfl, rfl⟩⟩
  · exact ⟨_, cap, rfl, h1, h2, .inr ⟨g, rfl, (Array.getElem?_eq_some_iff.1 hg).1⟩⟩
end Go.Proofs.YtkdknfedieeenaaGreatDoor
