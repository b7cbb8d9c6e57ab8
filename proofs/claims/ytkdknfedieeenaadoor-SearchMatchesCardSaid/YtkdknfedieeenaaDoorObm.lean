/- A slice that the call owns, whose elements take several cells each: its cells flat, one behind the other. It speaks of no program. -/
import Derived.Test.YtkdknfedieeenaaDoorOb
namespace Go.Proofs.YtkdknfedieeenaaDoor
open Go.RowKit
set_option linter.unusedVariables false
/-- As OB, of n elements of sz cells each; l: all cells. -/
structure OBM (sz : Nat) (B : Nat) (W : World) (v : Value) (n : Nat) (l : List Value) (w : World) : Prop where
  bel : Below B W w
  base : B ≤ w.heap.size
  len : l.length = n * sz
  own : (v = .slice none 0 0 ∧ n = 0) ∨ ∃ g cap, v = .slice (some ⟨g, 0, none⟩) n cap ∧ B ≤ g ∧ g < w.heap.size ∧ n ≤ cap ∧ cap ≤ maxLen ∧
    (∀ j, j < cap * sz → (w.cell? ⟨g, j, none⟩).isSome = true ∧ w.frozen? ⟨g, j, none⟩ = false) ∧ ∀ j u, l[j]? = some u → w.cell? ⟨g, j, none⟩ = some u
section
variable {sz B : Nat} {W w w' : World} {v v' : Value} {n n' : Nat} {l l' : List Value}
theorem OBM.nil (h : Below B W w) (hB : B ≤ w.heap.size) : OBM sz B W (.slice none 0 0) 0 [] w := ⟨h, hB, by simp, .inl ⟨rfl, rfl⟩⟩
theorem OBM.start (w : World) : OBM sz w.heap.size w (.slice none 0 0) 0 [] w := OBM.nil (Below.refl _ _) (Nat.le_refl _)
theorem OBM.lt (h : OBM sz B W v n l w) : ∀ k, v.ownBlock = some k → B ≤ k ∧ k < w.heap.size := by
  intro k hk
  rcases h.own with ⟨rfl, _⟩ | ⟨g, cap, rfl, hb, hg, _⟩
  · cases hk
  · injection hk with hk; subst hk; exact ⟨hb, hg⟩
theorem OBM.block (h : OBM sz B W v n l w) (hb : Below B W w') (hs : w.heap.size ≤ w'.heap.size) (hk : ∀ k, v.ownBlock = some k → w'.heap[k]? = w.heap[k]?) : OBM sz B W v n l w' := by
  refine ⟨hb, Nat.le_trans h.base hs, h.len, ?_⟩
  rcases h.own with hn | ⟨g, cap, rfl, h1, h2, h3, h4, h5, h6⟩
  · exact .inl hn
  · have hg := hk g rfl
    refine .inr ⟨g, cap, rfl, h1, Nat.lt_of_lt_of_le h2 hs, h3, h4, fun j hj => ?_, fun j u hu => ?_⟩
    · rw [World.cell?_of_block (a := ⟨g, j, none⟩) hg, World.frozen?_of_block (a := ⟨g, j, none⟩) hg]; exact h5 j hj
    · rw [World.cell?_of_block (a := ⟨g, j, none⟩) hg]; exact h6 j u hu
theorem OBM.keep {C : Nat} (h : OBM sz B W v n l w) (hb : Below C w w') (hC : w.heap.size ≤ C) : OBM sz B W v n l w' :=
  h.block (h.bel.trans (hb.mono (Nat.le_trans h.base hC))) hb.size (fun k hk => hb.block k (Nat.lt_of_lt_of_le (h.lt k hk).2 hC))
theorem OBM.alloc (h : OBM sz B W v n l w) (o : Obj) : OBM sz B W v n l (w.alloc o) := h.keep ((Below.refl w.heap.size w).alloc (Nat.le_refl _) o) (Nat.le_refl _)
theorem OBM.drewN (h : OBM sz B W v n l w) (k : Nat) : OBM sz B W v n l (w.drewN k) :=
  h.block ⟨h.bel.os, h.bel.tape, h.bel.output, h.bel.size, h.bel.block⟩ (Nat.le_refl _) (fun _ _ => rfl)
theorem OBM.out {W0 : World} {C : Nat} (h : OBM sz B W v n l w) (hC : C ≤ B) (h0 : Below C W0 W) : OBM sz C W0 v n l w := by
  refine ⟨h0.trans (h.bel.mono hC), Nat.le_trans hC h.base, h.len, ?_⟩
  rcases h.own with hn | ⟨g, cap, rfl, h1, h2⟩
  · exact .inl hn
  · exact .inr ⟨g, cap, rfl, Nat.le_trans hC h1, h2⟩
theorem OBM.slice (h : OBM sz B W v n l w) : ∃ A c, v = .slice A n c ∧ n ≤ c ∧ c ≤ maxLen ∧ (A = none → n = 0 ∧ c = 0) := by
  rcases h.own with ⟨rfl, rfl⟩ | ⟨g, cap, rfl, _, _, h1, h2, _⟩
  · exact ⟨none, 0, rfl, Nat.le_refl _, Nat.zero_le _, fun _ => ⟨rfl, rfl⟩⟩
  · exact ⟨_, cap, rfl, h1, h2, fun h => by cases h⟩
theorem OBM.cell {g c : Nat} (h : OBM sz B W (.slice (some ⟨g, 0, none⟩) n c) n l w) (j : Nat) (u : Value) (hu : l[j]? = some u) : w.cell? ⟨g, j, none⟩ = some u := by
  rcases h.own with ⟨hv, _⟩ | ⟨g', cap, hv, h1, h2, h3, h4, h5, h6⟩
  · cases hv
  · injection hv with hv hv1 hv2; injection hv with hv; injection hv with hv; subst hv
    exact h6 j u hu
theorem OBM.frozen {g c : Nat} (h : OBM sz B W (.slice (some ⟨g, 0, none⟩) n c) n l w) (j : Nat) (hj : j < c * sz) : w.frozen? ⟨g, j, none⟩ = false := by
  rcases h.own with ⟨hv, _⟩ | ⟨g', cap, hv, h1, h2, h3, h4, h5, h6⟩
  · cases hv
  · injection hv with hv hv1 hv2; injection hv with hv; injection hv with hv; subst hv hv2
    exact (h5 j hj).2
end
/-- 'append', whatever is appended, at elements of several cells. -/
theorem run_append_obm {P : Program} {sz B : Nat} {W w : World} {v : Value} {n : Nat} {l : List Value} (t tx ty e : TypeId) (i : TypeInfo) (z : Value) (bytes : Nat) (ht : P.underlying t = some (.slice e)) (hi : P.info? e = some i) (hz : i.zero = some z)
    (hsize : i.size = sz) (hby : i.bytes = bytes) (hzs : z.cells.size = sz) (h : OBM sz B W v n l w) (x : Value) (m : Nat) (news : List Value) (hs : Src P sz tx x m news w) (hnl : news.length = m * sz) (h63 : n + m ≤ maxLen) (hbytes : (n + m) * bytes ≤ 140737488355328) :
    ∃ v' w', (Builtin.append_ #[t, tx] ty #[v, x]).run P w = .ok v' w' ∧ OBM sz B W v' (n + m) (l ++ news) w' ∧ w.heap.size ≤ w'.heap.size ∧ (∀ k, k < w.heap.size → some k ≠ v.ownBlock → w'.heap[k]? = w.heap[k]?) ∧
      (v'.ownBlock = v.ownBlock ∨ v'.ownBlock = some w.heap.size) := by
  have hll : (l ++ news).length = (n + m) * sz := by rw [List.length_append, h.len, hnl, Nat.add_mul]
  have h63' : ((n + m : Nat) : Int) ≤ 9223372036854775807 := by unfold maxLen at h63; omega
  have grow : ∀ (base : Option Addr) (c : Nat), v = .slice base n c → c < n + m → (Builtin.firstCells i.size n (.slice base n c)).run P w.drew = .ok l.toArray w.drew →
      ∃ v' w', (Builtin.append_ #[t, tx] ty #[v, x]).run P w = .ok v' w' ∧ OBM sz B W v' (n + m) (l ++ news) w' ∧ w.heap.size ≤ w'.heap.size ∧ (∀ k, k < w.heap.size → some k ≠ v.ownBlock → w'.heap[k]? = w.heap[k]?) ∧
        (v'.ownBlock = v.ownBlock ∨ v'.ownBlock = some w.heap.size) := by
    intro base c hv hc hold
    have hfit : Builtin.nextslicecap (n + m) c * i.bytes ≤ 281474976710656 := growslice_fits hc (by rw [hby]; exact hbytes)
    have hr := run_append_grow_src (P := P) w t tx ty e i z ht hi hz base n c l hold x m news (by rw [hsize]; exact hs) hc h63' hfit
    have hge := grownCap_ge w (n + m) c e
    have hcm := grownCap_le_maxLen w (n + m) c e h63
    rw [← hv] at hr
    generalize grownCap w (n + m) c e = K at *
    have hsz : ((l ++ news).toArray ++ Builtin.zeroCells z.cells (K - (n + m))).size = K * sz := by
      rw [Array.size_append, List.size_toArray, hll, size_zeroCells, hzs]
      have e1 : K = (n + m) + (K - (n + m)) := by omega
      conv => rhs; rw [e1, Nat.add_mul]

    refine ⟨_, _, hr, ⟨(h.bel.drew).alloc h.base _, by have := h.base; simp; omega, hll, .inr ⟨w.heap.size, K, rfl, h.base, by simp, hge, hcm, fun j hj => ?_, fun j u hu => ?_⟩⟩, by simp, fun k hk _ => Below.heap_alloc w.drew _ k hk, .inr rfl⟩
    · have hg : (w.drew.alloc (.cells ((l ++ news).toArray ++ Builtin.zeroCells z.cells (K - (n + m))) e)).heap[w.heap.size]? = some (.cells ((l ++ news).toArray ++ Builtin.zeroCells z.cells (K - (n + m))) e (0, 0)) := heap_alloc_new w.drew _
      refine ⟨?_, frozen_of_row _ _ j _ e hg⟩
      rw [cell_of_row _ _ j _ e (0, 0) hg, Array.getElem?_eq_getElem (by rw [hsz]; exact hj)]; rfl
    · have hg : (w.drew.alloc (.cells ((l ++ news).toArray ++ Builtin.zeroCells z.cells (K - (n + m))) e)).heap[w.heap.size]? = some (.cells ((l ++ news).toArray ++ Builtin.zeroCells z.cells (K - (n + m))) e (0, 0)) := heap_alloc_new w.drew _
      have hj := (List.getElem?_eq_some_iff.1 hu).1
      rw [cell_of_row _ _ j _ e (0, 0) hg, Array.getElem?_append_left (by simpa using hj)]
      rw [List.getElem?_toArray]; exact hu
  rcases h.own with ⟨rfl, rfl⟩ | ⟨g, cap, rfl, h1, h2, h3, h4, h5, h6⟩
  · have hx : l = [] := List.eq_nil_of_length_eq_zero (by rw [h.len]; simp)
    subst hx
    by_cases hm : m = 0
    · subst hm
      have hn : news = [] := List.eq_nil_of_length_eq_zero (by rw [hnl]; simp)
      subst hn
      refine ⟨.slice none 0 0, w, ?_, ⟨h.bel, h.base, by simp, .inl ⟨rfl, rfl⟩⟩, Nat.le_refl _, fun _ _ _ => rfl, .inl rfl⟩
      have hc := hs.cells
      rw [show sz = i.size from hsize.symm] at hc
      rcases hs.kind with ⟨e', hk⟩ | hk <;> simp [Builtin.append_, run_underlying ht, run_underlying hk, sizeOf, typeInfo, hi, hs.len, hc]
    · exact grow none 0 rfl (by omega) (run_firstCells_none w.drew i.size 0 0 0)
  · by_cases hroom : n + m ≤ cap
    · have hroomsz : n * sz + news.length ≤ cap * sz := by rw [hnl, ← Nat.add_mul]; exact Nat.mul_le_mul_right sz hroom
      have hr := run_append_room_src (P := P) w t tx ty e i ht hi g 0 n cap x m news (by rw [hsize]; exact hs) hroom
        (fun j hj => by rw [hsize, Nat.zero_add]; exact (h5 _ (by omega)).1) (fun j hj => by rw [hsize, Nat.zero_add]; exact (h5 _ (by omega)).2)
      rw [hsize, Nat.zero_add] at hr
      obtain ⟨k1, k2⟩ := setCells_heap w g news (n * sz)
      have hin : ∀ j, j < news.length → (w.cell? ⟨g, n * sz + j, none⟩).isSome = true := fun j hj => (h5 _ (by omega)).1
      have hcell : ∀ j, j < cap * sz → (j < n * sz ∨ n * sz + news.length ≤ j → (w.setCells g (n * sz) news).cell? ⟨g, j, none⟩ = w.cell? ⟨g, j, none⟩) := fun j hj hout => World.cell?_setCells_out g news (n * sz) w ⟨g, j, none⟩ (fun _ _ => hout)
      refine ⟨_, _, hr, ⟨below_setCells' h1 news (n * sz) h.bel, by rw [k1]; exact h.base, hll, .inr ⟨g, cap, rfl, h1, by rw [k1]; exact h2, hroom, h4, fun j hj => ?_, fun j u hu => ?_⟩⟩, by rw [k1]; exact Nat.le_refl _, fun k hk hne => k2 k (fun e => hne (by rw [e]; rfl)), .inl rfl⟩
      · refine ⟨?_, by rw [World.frozen?_setCells]; exact (h5 j hj).2⟩
        by_cases hj1 : j < n * sz ∨ n * sz + news.length ≤ j
        · rw [hcell j hj hj1]; exact (h5 j hj).1
        · have := World.cell?_setCells_in g news (n * sz) w hin (j - n * sz) (by omega)
          rw [show n * sz + (j - n * sz) = j by omega] at this
          rw [this]; rfl
      · rw [List.getElem?_append] at hu
        split at hu
        · rename_i hjl
          rw [h.len] at hjl
          rw [hcell j (by omega) (.inl hjl)]
          exact h6 j u hu
        · rename_i hjl
          rw [h.len] at hu hjl
          obtain ⟨hj2, rfl⟩ := List.getElem?_eq_some_iff.1 hu
          have := World.cell?_setCells_in g news (n * sz) w hin (j - n * sz) hj2
          rwa [show n * sz + (j - n * sz) = j by omega] at this
    · refine grow _ cap rfl (by omega) (run_firstCells_some w.drew i.size n ⟨g, 0, none⟩ n cap l (by rw [hsize]; exact h.len) (fun j u hu => ?_))
      rw [Addr.add_lit, Nat.zero_add]
      exact h6 j u hu
section
variable {P : Program}
theorem wpList_append_obm {ops : Array Oper} {rest : List Oper} {o : Oper} {a : Act} {Q : Exit → Act → World → Prop} {w : World} (hgd : Region.wanted o (yielded ops a.tmps) = true) (s x : Operand) (t tx : TypeId)
    (ho : o.op = .call { callee := .builtin .append, args := #[s, x], argTypes := #[t, tx] }) {sz : Nat}
    (e : TypeId) (i : TypeInfo) (z : Value) (bytes : Nat) (ht : P.underlying t = some (.slice e)) (hi : P.info? e = some i) (hz : i.zero = some z) (hsize : i.size = sz) (hby : i.bytes = bytes) (hzs : z.cells.size = sz)
    {B : Nat} {v : Value} {n : Nat} {l : List Value} {W : World} (hb : OBM sz B W v n l w) (hs : a.eval s = v) {vx : Value} {m : Nat} {news : List Value} (hx : a.eval x = vx) (hsrc : Src P sz tx vx m news w) (hnl : news.length = m * sz)
    (hlen : n + m ≤ maxLen) (hbytes : (n + m) * bytes ≤ 140737488355328)
    (h : ∀ v' w', OBM sz B W v' (n + m) (l ++ news) w' → w.heap.size ≤ w'.heap.size → (∀ k, k < w.heap.size → some k ≠ v.ownBlock → w'.heap[k]? = w.heap[k]?) → (v'.ownBlock = v.ownBlock ∨ v'.ownBlock = some w.heap.size) → wpList P ops Q rest (a.put o.dst v') w') :
    wpList P ops Q (o :: rest) a w := by
  obtain ⟨v', w', hr, h1, h2, h3, h4⟩ := run_append_obm (P := P) t tx o.type e i z bytes ht hi hz hsize hby hzs hb vx m news hsrc hnl hlen hbytes
  refine wpList_step fun K hK => ?_
  rw [if_pos hgd]
  unfold Oper.wp execOp
  simp only [ho, resolve, invoke, builtin, Sem.run_bind, Sem.run_pure, Result.andThen_ok, List.map_toArray, List.map_cons, List.map_nil, hs, hx, hr]
  exact hK _ _ (h v' w' h1 h2 h3 h4)
end
end Go.Proofs.YtkdknfedieeenaaDoor
