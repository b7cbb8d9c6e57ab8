/- 'append(s, make([]T, m)...)' to a slice that the call owns. It speaks of no program. -/
import Derived.Test.YtkdknfedieeenaaGreatDoorOb
import Derived.Lib.AppendZerosOnto
namespace Go.Proofs.YtkdknfedieeenaaGreatDoor
open Go.RowKit
set_option linter.unusedVariables false

theorem zeroCells_one (z : Value) (m : Nat) : (Builtin.zeroCells #[z] m).toList = List.replicate m z := by
  apply List.ext_getElem
  · simp [Builtin.zeroCells]
  · intro i h1 h2
    simp [Builtin.zeroCells, Nat.mod_one]
theorem run_append_room_zeros {P : Program} (w : World) (t tn ty e : TypeId) (i : TypeInfo) (z : Value) (k kn : IntKind) (ht : P.underlying t = some (.slice e)) (htn : P.underlying tn = some (.int kn)) (hi : P.info? e = some i) (hz : i.zero = some z) (h1 : i.size = 1) (hzc : z.cells = #[z])
    (b sLen sCap m : Nat) (hm : 0 < m) (hroom : sLen + m ≤ sCap) (h63 : (m : Int) ≤ 9223372036854775807) (h48 : m * i.bytes ≤ 281474976710656) (hz1 : z.oneCell' = true)
    (hc : ∀ j, j < m → (w.cell? ⟨b, sLen + j, none⟩).isSome = true) (hf : ∀ j, j < m → w.frozen? ⟨b, sLen + j, none⟩ = false) :
    (Builtin.append_ #[t, tn] ty #[.slice (some ⟨b, 0, none⟩) sLen sCap, .int k m]).run P w = .ok (.slice (some ⟨b, 0, none⟩) (sLen + m) sCap) (w.setCells b sLen (List.replicate m z)) := by
  have hw : IntKind.i64.wrap (m : Int) = m := by rw [IntKind.wrap_i64]; omega
  have h48i : ¬ (281474976710656 < (m : Int) * (i.bytes : Int)) := by
    rw [← Int.natCast_mul]
    omega
  have hneg : ¬ ((m : Int) < 0) := by omega
  have hm0 : m ≠ 0 := by omega
  have hst := run_storeCells_cells (P := P) b sLen (List.replicate m z) 0 w (by simpa using hc) (by simpa using hf) (by intro v hv; rw [List.eq_of_mem_replicate hv]; exact hz1)
  simp only [Nat.add_zero] at hst
  have hzz : Builtin.zeroCells z.cells m = (List.replicate m z).toArray := by rw [hzc]; apply Array.ext'; rw [zeroCells_one]
  simp [Builtin.append_, run_underlying ht, run_underlying htn, sizeOf, typeInfo, zeroValue, hi, hz, asInt, asIntOf, hw, hneg, hm0, h48i, h1, hroom, Addr.add_lit, hzz, hst]

theorem run_append_zeros_ob {P : Program} {B : Nat} {W w : World} {v : Value} {n : Nat} {l : List Value} (t tn ty e : TypeId) (i : TypeInfo) (z : Value) (bytes : Nat) (k kn : IntKind) (ht : P.underlying t = some (.slice e)) (htn : P.underlying tn = some (.int kn)) (hi : P.info? e = some i) (hz : i.zero = some z)
    (hsize : i.size = 1) (hby : i.bytes = bytes) (hzc : z.cells = #[z]) (hz1 : z.oneCell' = true) (h : OB B W v n l w) (m : Nat) (hm : 0 < m) (h63 : n + m ≤ maxLen) (hbytes : (n + m) * bytes ≤ 140737488355328) :
    ∃ v' w', (Builtin.append_ #[t, tn] ty #[v, .int k m]).run P w = .ok v' w' ∧ OB B W v' (n + m) (l ++ List.replicate m z) w' ∧ w.heap.size ≤ w'.heap.size ∧ (∀ k, k < w.heap.size → some k ≠ v.ownBlock → w'.heap[k]? = w.heap[k]?) ∧
      (v'.ownBlock = v.ownBlock ∨ v'.ownBlock = some w.heap.size) := by
  have hzs : z.cells.size = 1 := by rw [hzc]; rfl
  have hll : (l ++ List.replicate m z).length = n + m := by rw [List.length_append, h.len]; simp
  have h63' : ((n + m : Nat) : Int) ≤ 9223372036854775807 := by unfold maxLen at h63; omega
  have hmb : m * i.bytes ≤ 281474976710656 := by rw [hby]; have : m * bytes ≤ (n + m) * bytes := Nat.mul_le_mul_right _ (by omega); omega
  have hzz : Builtin.zeroCells z.cells m = (List.replicate m z).toArray := by rw [hzc]; apply Array.ext'; rw [zeroCells_one]
  have grow : ∀ (base : Option Addr) (c : Nat), v = .slice base n c → c < n + m → (Builtin.firstCells i.size n (.slice base n c)).run P w.drew = .ok l.toArray w.drew →
      ∃ v' w', (Builtin.append_ #[t, tn] ty #[v, .int k m]).run P w = .ok v' w' ∧ OB B W v' (n + m) (l ++ List.replicate m z) w' ∧ w.heap.size ≤ w'.heap.size ∧ (∀ k, k < w.heap.size → some k ≠ v.ownBlock → w'.heap[k]? = w.heap[k]?) ∧
        (v'.ownBlock = v.ownBlock ∨ v'.ownBlock = some w.heap.size) := by
    intro base c hv hc hold
    have hfit : Builtin.nextslicecap (n + m) c * i.bytes ≤ 281474976710656 := growslice_fits hc (by rw [hby]; exact hbytes)
    have hr := Lib.run_append_grow_zeros (P := P) w t tn ty e i z k kn ht htn hi hz base n c l hold m hm (by omega) hc h63' hmb hfit
    have hge := grownCap_ge w (n + m) c e
    have hcm := grownCap_le_maxLen w (n + m) c e h63
    rw [← hv, hzz] at hr
    rw [show l.toArray ++ (List.replicate m z).toArray = (l ++ List.replicate m z).toArray by simp] at hr
    generalize grownCap w (n + m) c e = K at *
    generalize List.replicate m z = news at *
    have hsz : ((l ++ news).toArray ++ Builtin.zeroCells z.cells (K - (n + m))).size = K := by
      rw [Array.size_append, List.size_toArray, hll, size_zeroCells, hzs]; omega
    refine ⟨_, _, hr, ⟨(h.bel.drew).alloc h.base _, by have := h.base; simp; omega, hll, .inr ⟨w.heap.size, K, rfl, h.base, by simp, hge, hcm, fun j hj => ?_, fun j u hu => ?_⟩⟩, by simp, fun k hk _ => Below.heap_alloc w.drew _ k hk, .inr rfl⟩
    · have hg : (w.drew.alloc (.cells ((l ++ news).toArray ++ Builtin.zeroCells z.cells (K - (n + m))) e)).heap[w.heap.size]? = some (.cells ((l ++ news).toArray ++ Builtin.zeroCells z.cells (K - (n + m))) e (0, 0)) := heap_alloc_new w.drew _
      refine ⟨?_, frozen_of_row _ _ j _ e hg⟩
      rw [cell_of_row _ _ j _ e (0, 0) hg, Array.getElem?_eq_getElem (by rw [hsz]; exact hj)]; rfl
    · have hg : (w.drew.alloc (.cells ((l ++ news).toArray ++ Builtin.zeroCells z.cells (K - (n + m))) e)).heap[w.heap.size]? = some (.cells ((l ++ news).toArray ++ Builtin.zeroCells z.cells (K - (n + m))) e (0, 0)) := heap_alloc_new w.drew _
      have hj := (List.getElem?_eq_some_iff.1 hu).1
      rw [cell_of_row _ _ j _ e (0, 0) hg, Array.getElem?_append_left (by simpa using hj)]
      rw [List.getElem?_toArray]; exact hu
  rcases h.own with ⟨rfl, rfl⟩ | ⟨g, cap, rfl, h1, h2, h3, h4, h5, h6⟩
  · have hx : l = [] := List.eq_nil_of_length_eq_zero h.len
    subst hx
    exact grow none 0 rfl (by omega) (run_firstCells_none w.drew i.size 0 0 0)
  · by_cases hroom : n + m ≤ cap
    · have hr := run_append_room_zeros (P := P) w t tn ty e i z k kn ht htn hi hz hsize hzc g n cap m hm hroom (by unfold maxLen at h63; omega) hmb hz1
        (fun j hj => (h5 _ (by omega)).1) (fun j hj => (h5 _ (by omega)).2)
      have hnl : (List.replicate m z).length = m := by simp
      generalize List.replicate m z = news at *
      obtain ⟨k1, k2⟩ := setCells_heap w g news n
      have hin : ∀ j, j < news.length → (w.cell? ⟨g, n + j, none⟩).isSome = true := fun j hj => (h5 _ (by omega)).1
      have hcell : ∀ j, j < cap → (j < n ∨ n + news.length ≤ j → (w.setCells g n news).cell? ⟨g, j, none⟩ = w.cell? ⟨g, j, none⟩) := fun j hj hout => World.cell?_setCells_out g news n w ⟨g, j, none⟩ (fun _ _ => hout)
      refine ⟨_, _, hr, ⟨below_setCells' h1 news n h.bel, by rw [k1]; exact h.base, hll, .inr ⟨g, cap, rfl, h1, by rw [k1]; exact h2, hroom, h4, fun j hj => ?_, fun j u hu => ?_⟩⟩, by rw [k1]; exact Nat.le_refl _, fun k hk hne => k2 k (fun e => hne (by rw [e]; rfl)), .inl rfl⟩
      · refine ⟨?_, by rw [World.frozen?_setCells]; exact (h5 j hj).2⟩
        by_cases hj1 : j < n ∨ n + news.length ≤ j
        · rw [hcell j hj hj1]; exact (h5 j hj).1
        · have := World.cell?_setCells_in g news n w hin (j - n) (by omega)
          rw [show n + (j - n) = j by omega] at this
          rw [this]; rfl
      · rw [List.getElem?_append] at hu
        split at hu
        · rename_i hjl
          rw [h.len] at hjl
          rw [hcell j (by omega) (.inl hjl)]
          exact h6 j u hu
        · rename_i hjl
          rw [h.len] at hu hjl
          obtain ⟨hj2, rfl⟩ := List.getElem?_eq_some_iff.1 hu
          have := World.cell?_setCells_in g news n w hin (j - n) hj2
          rwa [show n + (j - n) = j by omega] at this
    · refine grow _ cap rfl (by omega) (run_firstCells_some w.drew i.size n ⟨g, 0, none⟩ n cap l (by rw [hsize, Nat.mul_one]; exact h.len) (fun j u hu => ?_))
      rw [Addr.add_lit, Nat.zero_add]
      exact h6 j u hu
theorem wpList_append_zeros {P : Program} {ops : Array Oper} {rest : List Oper} {o : Oper} {a : Act} {Q : Exit → Act → World → Prop} {w : World} (hgd : Region.wanted o (yielded ops a.tmps) = true) (s x : Operand) (t tn : TypeId)
    (ho : o.op = .call { callee := .builtin .append, args := #[s, x], argTypes := #[t, tn] })
    (e : TypeId) (i : TypeInfo) (z : Value) (bytes : Nat) (k kn : IntKind) (ht : P.underlying t = some (.slice e)) (htn : P.underlying tn = some (.int kn)) (hi : P.info? e = some i) (hz : i.zero = some z) (hsize : i.size = 1) (hby : i.bytes = bytes) (hzc : z.cells = #[z]) (hz1 : z.oneCell' = true)
    {B : Nat} {v : Value} {n : Nat} {l : List Value} {W : World} (hb : OB B W v n l w) (hs : a.eval s = v) {m : Nat} (hx : a.eval x = .int k m) (hm : 0 < m)
    (hlen : n + m ≤ maxLen) (hbytes : (n + m) * bytes ≤ 140737488355328)
    (h : ∀ v' w', OB B W v' (n + m) (l ++ List.replicate m z) w' → w.heap.size ≤ w'.heap.size → (∀ k, k < w.heap.size → some k ≠ v.ownBlock → w'.heap[k]? = w.heap[k]?) → (v'.ownBlock = v.ownBlock ∨ v'.ownBlock = some w.heap.size) → wpList P ops Q rest (a.put o.dst v') w') :
    wpList P ops Q (o :: rest) a w := by
  obtain ⟨v', w', hr, h1, h2, h3, h4⟩ := run_append_zeros_ob (P := P) t tn o.type e i z bytes k kn ht htn hi hz hsize hby hzc hz1 hb m hm hlen hbytes
  refine wpList_step fun K hK => ?_
  rw [if_pos hgd]
  unfold Oper.wp execOp
  simp only [ho, resolve, invoke, builtin, Sem.run_bind, Sem.run_pure, Result.andThen_ok, List.map_toArray, List.map_cons, List.map_nil, hs, hx, hr]
  exact hK _ _ (h v' w' h1 h2 h3 h4)
end Go.Proofs.YtkdknfedieeenaaGreatDoor
