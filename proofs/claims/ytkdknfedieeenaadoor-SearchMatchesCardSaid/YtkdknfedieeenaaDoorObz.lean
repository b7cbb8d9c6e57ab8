/- 'append' to a slice with no room and no elements, wherever it points: what Clone does. It speaks of no program. -/
import Derived.Test.YtkdknfedieeenaaDoorObn
namespace Go.Proofs.YtkdknfedieeenaaDoor
open Go.RowKit
set_option linter.unusedVariables false
/-- What Clone gives: of no element the same empty slice and the same world; of some an own slice. -/
def Cloned (sz B : Nat) (W : World) (base : Option Addr) (m : Nat) (news : List Value) (v : Value) (w : World) : Prop :=
  (m = 0 ∧ v = .slice base 0 0 ∧ w = W) ∨ (0 < m ∧ OBM sz B W v m news w)
theorem run_append_zero {P : Program} {sz : Nat} {w : World} (t tx ty e : TypeId) (i : TypeInfo) (z : Value) (bytes : Nat) (ht : P.underlying t = some (.slice e)) (hi : P.info? e = some i) (hz : i.zero = some z)
    (hsize : i.size = sz) (hby : i.bytes = bytes) (hzs : z.cells.size = sz) (base : Option Addr) (x : Value) (m : Nat) (news : List Value) (hs : Src P sz tx x m news w) (hnl : news.length = m * sz) (h63 : m ≤ maxLen) (hbytes : m * bytes ≤ 140737488355328) :
    ∃ v' w', (Builtin.append_ #[t, tx] ty #[.slice base 0 0, x]).run P w = .ok v' w' ∧ Cloned sz w.heap.size w base m news v' w' := by
  by_cases hm : m = 0
  · subst hm
    have hn : news = [] := List.eq_nil_of_length_eq_zero (by rw [hnl]; simp)
    subst hn
    refine ⟨.slice base 0 0, w, ?_, .inl ⟨rfl, rfl, rfl⟩⟩
    have hc := hs.cells
    rw [show sz = i.size from hsize.symm] at hc
    have hst : ∀ a : Addr, (storeCells a []).run P w = .ok () w := fun a => by simp [storeCells]
    cases base <;> rcases hs.kind with ⟨e', hk⟩ | hk <;> simp [Builtin.append_, run_underlying ht, run_underlying hk, sizeOf, typeInfo, hi, hs.len, hc, hst]
  · have h63' : ((0 + m : Nat) : Int) ≤ 9223372036854775807 := by unfold maxLen at h63; omega
    have hfit : Builtin.nextslicecap (0 + m) 0 * i.bytes ≤ 281474976710656 := growslice_fits (by omega) (by rw [hby, Nat.zero_add]; exact hbytes)
    have hold : (Builtin.firstCells i.size 0 (.slice base 0 0)).run P w.drew = .ok ([] : List Value).toArray w.drew := by
      cases base with
      | none => exact run_firstCells_none w.drew i.size 0 0 0
      | some a => exact run_firstCells_some w.drew i.size 0 a 0 0 [] (by simp) (fun j u hu => by simp at hu)
    have hr := run_append_grow_src (P := P) w t tx ty e i z ht hi hz base 0 0 [] hold x m news (by rw [hsize]; exact hs) (by omega) h63' hfit
    have hge := grownCap_ge w (0 + m) 0 e
    have hcm := grownCap_le_maxLen w (0 + m) 0 e (by omega)
    rw [Nat.zero_add] at hge hcm
    simp only [Nat.zero_add, List.nil_append] at hr
    generalize grownCap w m 0 e = K at *
    have hsz : (news.toArray ++ Builtin.zeroCells z.cells (K - m)).size = K * sz := by
      rw [Array.size_append, List.size_toArray, hnl, size_zeroCells, hzs]
      have e1 : K = m + (K - m) := by omega
      conv => rhs; rw [e1, Nat.add_mul]
    have hg : (w.drew.alloc (.cells (news.toArray ++ Builtin.zeroCells z.cells (K - m)) e)).heap[w.heap.size]? = some (.cells (news.toArray ++ Builtin.zeroCells z.cells (K - m)) e (0, 0)) := heap_alloc_new w.drew _
    refine ⟨_, _, hr, .inr ⟨by omega, ⟨((Below.refl w.heap.size w).drew).alloc (Nat.le_refl _) _, by simp, hnl, .inr ⟨w.heap.size, K, rfl, Nat.le_refl _, by simp, hge, hcm, fun j hj => ?_, fun j u hu => ?_⟩⟩⟩⟩
    · refine ⟨?_, frozen_of_row _ _ j _ e hg⟩
      rw [cell_of_row _ _ j _ e (0, 0) hg, Array.getElem?_eq_getElem (by rw [hsz]; exact hj)]; rfl
    · have hj := (List.getElem?_eq_some_iff.1 hu).1
      rw [cell_of_row _ _ j _ e (0, 0) hg, Array.getElem?_append_left (by simpa using hj)]
      rw [List.getElem?_toArray]; exact hu
section
variable {P : Program}
theorem wpList_append_zero {ops : Array Oper} {rest : List Oper} {o : Oper} {a : Act} {Q : Exit → Act → World → Prop} {w : World} (hgd : Region.wanted o (yielded ops a.tmps) = true) (s x : Operand) (t tx : TypeId)
    (ho : o.op = .call { callee := .builtin .append, args := #[s, x], argTypes := #[t, tx] }) {sz : Nat}
    (e : TypeId) (i : TypeInfo) (z : Value) (bytes : Nat) (ht : P.underlying t = some (.slice e)) (hi : P.info? e = some i) (hz : i.zero = some z) (hsize : i.size = sz) (hby : i.bytes = bytes) (hzs : z.cells.size = sz)
    {base : Option Addr} (hs : a.eval s = .slice base 0 0) {vx : Value} {m : Nat} {news : List Value} (hx : a.eval x = vx) (hsrc : Src P sz tx vx m news w) (hnl : news.length = m * sz)
    (hlen : m ≤ maxLen) (hbytes : m * bytes ≤ 140737488355328)
    (h : ∀ v' w', Cloned sz w.heap.size w base m news v' w' → wpList P ops Q rest (a.put o.dst v') w') :
    wpList P ops Q (o :: rest) a w := by
  obtain ⟨v', w', hr, h1⟩ := run_append_zero (P := P) t tx o.type e i z bytes ht hi hz hsize hby hzs base vx m news hsrc hnl hlen hbytes
  refine wpList_step fun K hK => ?_
  rw [if_pos hgd]
  unfold Oper.wp execOp
  simp only [ho, resolve, invoke, builtin, Sem.run_bind, Sem.run_pure, Result.andThen_ok, List.map_toArray, List.map_cons, List.map_nil, hs, hx, hr]
  exact hK _ _ (h v' w' h1)
end
end Go.Proofs.YtkdknfedieeenaaDoor
