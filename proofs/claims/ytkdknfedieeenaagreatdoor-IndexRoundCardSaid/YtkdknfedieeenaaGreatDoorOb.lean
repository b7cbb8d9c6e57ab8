/- A slice that a call owns, whatever made its array ('make', 'append', '[]byte(s)', a literal): read, written, appended to. It speaks of no program. -/
import Derived.Test.YtkdknfedieeenaaGreatDoorBuf2
import Derived.Test.YtkdknfedieeenaaGreatDoorRow
import Derived.Deep.AppendSrc
import Derived.OpenShut
namespace Go.Proofs.YtkdknfedieeenaaGreatDoor
open Go.RowKit
set_option linter.unusedVariables false

/-- In w the slice v owns n one-cell elements l in a block from B on; of what lay below B in W nothing has turned. -/
structure OB (B : Nat) (W : World) (v : Value) (n : Nat) (l : List Value) (w : World) : Prop where
  bel : Below B W w
  base : B ≤ w.heap.size
  len : l.length = n
  own : (v = .slice none 0 0 ∧ n = 0) ∨ ∃ g cap, v = .slice (some ⟨g, 0, none⟩) n cap ∧ B ≤ g ∧ g < w.heap.size ∧ n ≤ cap ∧ cap ≤ maxLen ∧
    (∀ j, j < cap → (w.cell? ⟨g, j, none⟩).isSome = true ∧ w.frozen? ⟨g, j, none⟩ = false) ∧ ∀ j u, l[j]? = some u → w.cell? ⟨g, j, none⟩ = some u

section
variable {B : Nat} {W w w' : World} {v v' : Value} {n n' : Nat} {l l' : List Value}
theorem OB.nil (h : Below B W w) (hB : B ≤ w.heap.size) : OB B W (.slice none 0 0) 0 [] w := ⟨h, hB, rfl, .inl ⟨rfl, rfl⟩⟩
theorem OB.start (w : World) : OB w.heap.size w (.slice none 0 0) 0 [] w := OB.nil (Below.refl _ _) (Nat.le_refl _)
theorem OB.of_own {e : TypeId} (ho : w.ownsRow B e 1 v n l) (h : Below B W w) (hB : B ≤ w.heap.size) : OB B W v n l w := by
  refine ⟨h, hB, by simpa using ho.1, ?_⟩
  rcases ho.2 with hn | ⟨g, cap, cur, hv, hb, hg, h1, h2, h3, h4⟩
  · exact .inl hn
  · refine .inr ⟨g, cap, hv, hb, (Array.getElem?_eq_some_iff.1 hg).1, h1, h2, fun j hj => ⟨?_, frozen_of_row w g j cur e hg⟩, fun j u hu => ?_⟩
    · rw [cell_of_row w g j cur e (0, 0) hg]
      simp [h3, hj]
    · rw [cell_of_row w g j cur e (0, 0) hg]
      rw [← h4] at hu
      rw [List.getElem?_take] at hu
      split at hu
      · simpa using hu
      · cases hu
theorem OB.of_buf {e : TypeId} (h : Buf B e W v n l w) : OB B W v n l w := OB.of_own h.1 h.2.1 h.2.2
theorem OB.below (h : OB B W v n l w) : Below B W w := h.bel
theorem OB.lt (h : OB B W v n l w) : ∀ k, v.ownBlock = some k → B ≤ k ∧ k < w.heap.size := by
  intro k hk
  rcases h.own with ⟨rfl, _⟩ | ⟨g, cap, rfl, hb, hg, _⟩
  · cases hk
  · injection hk with hk; subst hk; exact ⟨hb, hg⟩
/-- The block is as it was. -/
theorem OB.block (h : OB B W v n l w) (hb : Below B W w') (hs : w.heap.size ≤ w'.heap.size) (hk : ∀ k, v.ownBlock = some k → w'.heap[k]? = w.heap[k]?) : OB B W v n l w' := by
  refine ⟨hb, Nat.le_trans h.base hs, h.len, ?_⟩
  rcases h.own with hn | ⟨g, cap, rfl, h1, h2, h3, h4, h5, h6⟩
  · exact .inl hn
  · have hg := hk g rfl
    refine .inr ⟨g, cap, rfl, h1, Nat.lt_of_lt_of_le h2 hs, h3, h4, fun j hj => ?_, fun j u hu => ?_⟩
    · rw [World.cell?_of_block (a := ⟨g, j, none⟩) hg, World.frozen?_of_block (a := ⟨g, j, none⟩) hg]; exact h5 j hj
    · rw [World.cell?_of_block (a := ⟨g, j, none⟩) hg]; exact h6 j u hu
theorem OB.keep {C : Nat} (h : OB B W v n l w) (hb : Below C w w') (hC : w.heap.size ≤ C) : OB B W v n l w' :=
  h.block (h.bel.trans (hb.mono (Nat.le_trans h.base hC))) hb.size (fun k hk => hb.block k (Nat.lt_of_lt_of_le (h.lt k hk).2 hC))
theorem OB.alloc (h : OB B W v n l w) (o : Obj) : OB B W v n l (w.alloc o) := h.keep ((Below.refl w.heap.size w).alloc (Nat.le_refl _) o) (Nat.le_refl _)
theorem OB.drewN (h : OB B W v n l w) (k : Nat) : OB B W v n l (w.drewN k) :=
  h.block ⟨h.bel.os, h.bel.tape, h.bel.output, h.bel.size, h.bel.block⟩ (Nat.le_refl _) (fun _ _ => rfl)
theorem OB.drew (h : OB B W v n l w) : OB B W v n l w.drew := h.drewN 1
theorem OB.out {W0 : World} {C : Nat} (h : OB B W v n l w) (hC : C ≤ B) (h0 : Below C W0 W) : OB C W0 v n l w := by
  refine ⟨h0.trans (h.bel.mono hC), Nat.le_trans hC h.base, h.len, ?_⟩
  rcases h.own with hn | ⟨g, cap, rfl, h1, h2⟩
  · exact .inl hn
  · exact .inr ⟨g, cap, rfl, Nat.le_trans hC h1, h2⟩
theorem OB.slice (h : OB B W v n l w) : ∃ A c, v = .slice A n c ∧ n ≤ c ∧ c ≤ maxLen ∧ (A = none → n = 0 ∧ c = 0) := by
  rcases h.own with ⟨rfl, rfl⟩ | ⟨g, cap, rfl, _, _, h1, h2, _⟩
  · exact ⟨none, 0, rfl, Nat.le_refl _, Nat.zero_le _, fun _ => ⟨rfl, rfl⟩⟩
  · exact ⟨_, cap, rfl, h1, h2, fun h => by cases h⟩
theorem OB.slice3 (h : OB B W v n l w) : ∃ A c, v = .slice A n c ∧ n ≤ c ∧ c ≤ maxLen ∧ ((A = none ∧ n = 0 ∧ c = 0) ∨ ∃ g, A = some ⟨g, 0, none⟩ ∧ B ≤ g ∧ g < w.heap.size) := by
  rcases h.own with ⟨rfl, rfl⟩ | ⟨g, cap, rfl, hb, hg, h1, h2, _⟩
  · exact ⟨none, 0, rfl, Nat.le_refl _, Nat.zero_le _, .inl ⟨rfl, rfl, rfl⟩⟩
  · exact ⟨_, cap, rfl, h1, h2, .inr ⟨g, rfl, hb, hg⟩⟩
theorem OB.sl {A : Option Addr} {c : Nat} (h : OB B W (.slice A n c) n l w) : Sl w w.heap.size 1 A n l := by
  refine ⟨by simpa using h.len, fun hn => ?_⟩
  rcases h.own with ⟨_, h0⟩ | ⟨g, cap, hv, _, hg, _, _, _, h6⟩
  · omega
  · have hA : A = some ⟨g, 0, none⟩ := by injection hv
    exact ⟨g, 0, hA, hg, fun j u hu => by rw [Nat.zero_add]; exact h6 j u hu⟩
theorem OB.cell {g c : Nat} (h : OB B W (.slice (some ⟨g, 0, none⟩) n c) n l w) (j : Nat) (u : Value) (hu : l[j]? = some u) : w.cell? ⟨g, j, none⟩ = some u := by
  have := h.sl.cell j u hu
  rwa [Nat.zero_add] at this
theorem OB.frozen {g c : Nat} (h : OB B W (.slice (some ⟨g, 0, none⟩) n c) n l w) (j : Nat) (hj : j < c) : w.frozen? ⟨g, j, none⟩ = false := by
  rcases h.own with ⟨hv, _⟩ | ⟨g', cap, hv, _, _, _, _, h5, _⟩
  · cases hv
  · injection hv with hv hv1 hv2; injection hv with hv; injection hv with hv; subst hv hv2
    exact (h5 j hj).2
/-- A place is written. -/
theorem OB.set {g c : Nat} (h : OB B W (.slice (some ⟨g, 0, none⟩) n c) n l w) (j : Nat) (hj : j < n) (u : Value) : OB B W (.slice (some ⟨g, 0, none⟩) n c) n (l.set j u) (w.setCell ⟨g, j, none⟩ u) := by
  rcases h.own with ⟨hv, _⟩ | ⟨g', cap, hv, h1, h2, h3, h4, h5, h6⟩
  · cases hv
  · injection hv with hv hv1 hv2; injection hv with hv; injection hv with hv; subst hv hv2
    have hjl : j < l.length := by rw [h.len]; exact hj
    refine ⟨h.bel.setCell h1 u, by simpa using h.base, by simpa using h.len, .inr ⟨g, c, rfl, h1, by simpa using h2, h3, h4, fun i hi => ?_, fun i x hx => ?_⟩⟩
    · rw [World.frozen?_setCell]
      refine ⟨?_, (h5 i hi).2⟩
      by_cases he : i = j
      · subst he
        rw [World.cell?_setCell_same w _ _ (h6 i l[i] (List.getElem?_eq_getElem hjl))]; rfl
      · rw [World.cell?_setCell_other w _ _ _ (by intro e; injection e with _ e2; exact he e2.symm)]
        exact (h5 i hi).1
    · by_cases he : i = j
      · subst he
        rw [List.getElem?_set_self hjl] at hx
        rw [World.cell?_setCell_same w _ _ (h6 i l[i] (List.getElem?_eq_getElem hjl))]
        exact hx
      · rw [List.getElem?_set_ne (fun e => he e.symm)] at hx
        rw [World.cell?_setCell_other w _ _ _ (by intro e; injection e with _ e2; exact he e2.symm)]
        exact h6 i x hx
end

theorem setCells_heap (w : World) (g : Nat) : ∀ (vs : List Value) (o : Nat), (w.setCells g o vs).heap.size = w.heap.size ∧ ∀ k, k ≠ g → (w.setCells g o vs).heap[k]? = w.heap[k]? := by
  intro vs
  induction vs generalizing w with
  | nil => intro o; exact ⟨rfl, fun _ _ => rfl⟩
  | cons u r ih =>
    intro o
    obtain ⟨h1, h2⟩ := ih (w.setCell ⟨g, o, none⟩ u) (o + 1)
    refine ⟨by rw [World.setCells, h1]; simp, fun k hk => ?_⟩
    rw [World.setCells, h2 k hk]
    exact Below.heap_setCell w _ u k hk
theorem below_setCells' {B g : Nat} (hg : B ≤ g) : ∀ (vs : List Value) (o : Nat) {W w : World}, Below B W w → Below B W (w.setCells g o vs)
  | [], _, _, _, h => h
  | u :: r, o, _, _, h => by rw [World.setCells]; exact below_setCells' hg r (o + 1) (h.setCell hg u)

/-- 'append', whatever is appended. -/
theorem run_append_ob {P : Program} {B : Nat} {W w : World} {v : Value} {n : Nat} {l : List Value} (t tx ty e : TypeId) (i : TypeInfo) (z : Value) (bytes : Nat) (ht : P.underlying t = some (.slice e)) (hi : P.info? e = some i) (hz : i.zero = some z)
    (hsize : i.size = 1) (hby : i.bytes = bytes) (hzs : z.cells.size = 1) (h : OB B W v n l w) (x : Value) (m : Nat) (news : List Value) (hs : Src P 1 tx x m news w) (h63 : n + m ≤ maxLen) (hbytes : (n + m) * bytes ≤ 140737488355328) :
    ∃ v' w', (Builtin.append_ #[t, tx] ty #[v, x]).run P w = .ok v' w' ∧ OB B W v' (n + m) (l ++ news) w' ∧ w.heap.size ≤ w'.heap.size ∧ (∀ k, k < w.heap.size → some k ≠ v.ownBlock → w'.heap[k]? = w.heap[k]?) ∧
      (v'.ownBlock = v.ownBlock ∨ v'.ownBlock = some w.heap.size) := by
  have hnl : news.length = m := by have := hs.newsLen; omega
  have hll : (l ++ news).length = n + m := by rw [List.length_append, h.len, hnl]
  have h63' : ((n + m : Nat) : Int) ≤ 9223372036854775807 := by unfold maxLen at h63; omega
  have grow : ∀ (base : Option Addr) (c : Nat), v = .slice base n c → c < n + m → (Builtin.firstCells i.size n (.slice base n c)).run P w.drew = .ok l.toArray w.drew →
      ∃ v' w', (Builtin.append_ #[t, tx] ty #[v, x]).run P w = .ok v' w' ∧ OB B W v' (n + m) (l ++ news) w' ∧ w.heap.size ≤ w'.heap.size ∧ (∀ k, k < w.heap.size → some k ≠ v.ownBlock → w'.heap[k]? = w.heap[k]?) ∧
        (v'.ownBlock = v.ownBlock ∨ v'.ownBlock = some w.heap.size) := by
    intro base c hv hc hold
    have hfit : Builtin.nextslicecap (n + m) c * i.bytes ≤ 281474976710656 := growslice_fits hc (by rw [hby]; exact hbytes)
    have hr := run_append_grow_src (P := P) w t tx ty e i z ht hi hz base n c l hold x m news (by rw [hsize]; exact hs) hc h63' hfit
    have hge := grownCap_ge w (n + m) c e
    have hcm := grownCap_le_maxLen w (n + m) c e h63
    rw [← hv] at hr
    generalize grownCap w (n + m) c e = K at *
    have hsz : ((l ++ news).toArray ++ Builtin.zeroCells z.cells (K - (n + m))).size = K := by
      rw [Array.size_append, List.size_toArray, hll, size_zeroCells, hzs]; omega
    refine ⟨_, _, hr, ⟨(h.bel.drew).alloc h.base _, by have := h.base; simp; omega, hll, .inr ⟨w.heap.size, K, rfl, h.base, by simp, hge, hcm, fun j hj => ?_, fun j u hu => ?_⟩⟩, by simp, fun k hk _ => Below.heap_alloc w.drew _ k hk, .inr rfl⟩
    · have hg : (w.drew.alloc (.cells ((l ++ news).toArray ++ Builtin.zeroCells z.cells (K - (n + m))) e)).heap[w.heap.size]? = some (.cells ((l ++ news).toArray ++ Builtin.zeroCells z.cells (K - (n + m))) e (0, 0)) := heap_alloc_new w.drew _
      refine ⟨?_, frozen_of_row _ _ j _ e hg⟩
      rw [cell_of_row _ _ j _ e (0, 0) hg, Array.getElem?_eq_getElem (by rw [hsz]; exact hj)]; rfl
    · have hg : (w.drew.alloc (.cells ((l ++ news).toArray ++ Builtin.zeroCells z.cells (K - (n + m))) e)).heap[w.heap.size]? = some (.cells ((l ++ news).toArray ++ Builtin.zeroCells z.cells (K - (n + m))) e (0, 0)) := heap_alloc_new w.drew _
      have hj := (List.getElem?_eq_some_iff.1 hu).1
      rw [cell_of_row _ _ j _ e (0, 0) hg, Array.getElem?_append_left (by simpa using hj)]
      rw [List.getElem?_toArray]; exact hu
  rcases h.own with ⟨rfl, rfl⟩ | ⟨g, cap, rfl, h1, h2, h3, h4, h5, h6⟩
  · have hx : l = [] := List.eq_nil_of_length_eq_zero h.len
    subst hx
    by_cases hm : m = 0
    · subst hm
      have hn : news = [] := List.eq_nil_of_length_eq_zero hnl
      subst hn
      refine ⟨.slice none 0 0, w, ?_, ⟨h.bel, h.base, rfl, .inl ⟨rfl, rfl⟩⟩, Nat.le_refl _, fun _ _ _ => rfl, .inl rfl⟩
      have hc := hs.cells
      rw [show (1 : Nat) = i.size from hsize.symm] at hc
      rcases hs.kind with ⟨e', hk⟩ | hk <;> simp [Builtin.append_, run_underlying ht, run_underlying hk, sizeOf, typeInfo, hi, hs.len, hc]
    · exact grow none 0 rfl (by omega) (run_firstCells_none w.drew i.size 0 0 0)
  · by_cases hroom : n + m ≤ cap
    · have hr := run_append_room_src (P := P) w t tx ty e i ht hi g 0 n cap x m news (by rw [hsize]; exact hs) hroom
        (fun j hj => by rw [hsize, Nat.mul_one, Nat.zero_add]; exact (h5 _ (by omega)).1) (fun j hj => by rw [hsize, Nat.mul_one, Nat.zero_add]; exact (h5 _ (by omega)).2)
      rw [hsize, Nat.mul_one, Nat.zero_add] at hr
      obtain ⟨k1, k2⟩ := setCells_heap w g news n
      have hin : ∀ j, j < news.length → (w.cell? ⟨g, n + j, none⟩).isSome = true := fun j hj => (h5 _ (by omega)).1
      have hcell : ∀ j, j < cap → (j < n ∨ n + news.length ≤ j → (w.setCells g n news).cell? ⟨g, j, none⟩ = w.cell? ⟨g, j, none⟩) := fun j hj hout => World.cell?_setCells_out g news n w ⟨g, j, none⟩ (fun _ _ => hout)
      refine ⟨_, _, hr, ⟨below_setCells' h1 news n h.bel, by rw [k1]; exact h.base, hll, .inr ⟨g, cap, rfl, h1, by rw [k1]; exact h2, hroom, h4, fun j hj => ?_, fun j u hu => ?_⟩⟩, by rw [k1]; exact Nat.le_refl _, fun k hk hne => k2 k (fun e => hne (by rw [e]; rfl)), .inl rfl⟩
      · refine ⟨?_, by rw [World.frozen?_setCells]; exact (h5 j hj).2⟩
        by_cases hj1 : j < n ∨ n + news.length ≤ j
        · rw [hcell j hj hj1]; exact (h5 j hj).1
        · have := World.cell?_setCells_in g news n w hin (j - n) (by omega)
          rw [show n + (j - n) = j by omega] at this
          rw [this]; rfl
      · rw [List.getElem?_append] at hu
        split at hu
        · rename_i hjl
          rw [h.len] at hjl
          rw [hcell j (by omega) (.inl hjl)]
          exact h6 j u hu
        · rename_i hjl
          rw [h.len] at hu hjl
          obtain ⟨hj2, rfl⟩ := List.getElem?_eq_some_iff.1 hu
          have := World.cell?_setCells_in g news n w hin (j - n) hj2
          rwa [show n + (j - n) = j by omega] at this
    · refine grow _ cap rfl (by omega) (run_firstCells_some w.drew i.size n ⟨g, 0, none⟩ n cap l (by rw [hsize, Nat.mul_one]; exact h.len) (fun j u hu => ?_))
      rw [Addr.add_lit, Nat.zero_add]
      exact h6 j u hu

theorem Sl.src {P : Program} {w : World} {C m c : Nat} {A : Option Addr} {news : List Value} {tx e' : TypeId} (hk : P.underlying tx = some (.slice e')) (hA : Sl w C 1 A m news) (hA0 : A = none → m = 0) (h1 : ∀ u ∈ news, u.oneCell' = true) : Src P 1 tx (.slice A m c) m news w := by
  cases A with
  | none =>
    obtain rfl := hA0 rfl
    obtain rfl : news = [] := List.eq_nil_of_length_eq_zero (by simpa using hA.1)
    exact Src.ofNil w hk c
  | some ad => exact Src.ofSlice w hk ad m c news hA.1 (hA.cells_at ad rfl) h1
section
variable {P : Program}
theorem wpList_append_ob {ops : Array Oper} {rest : List Oper} {o : Oper} {a : Act} {Q : Exit → Act → World → Prop} {w : World} (hgd : Region.wanted o (yielded ops a.tmps) = true) (s x : Operand) (t tx : TypeId)
    (ho : o.op = .call { callee := .builtin .append, args := #[s, x], argTypes := #[t, tx] })
    (e : TypeId) (i : TypeInfo) (z : Value) (bytes : Nat) (ht : P.underlying t = some (.slice e)) (hi : P.info? e = some i) (hz : i.zero = some z) (hsize : i.size = 1) (hby : i.bytes = bytes) (hzs : z.cells.size = 1)
    {B : Nat} {v : Value} {n : Nat} {l : List Value} {W : World} (hb : OB B W v n l w) (hs : a.eval s = v) {vx : Value} {m : Nat} {news : List Value} (hx : a.eval x = vx) (hsrc : Src P 1 tx vx m news w)
    (hlen : n + m ≤ maxLen) (hbytes : (n + m) * bytes ≤ 140737488355328)
    (h : ∀ v' w', OB B W v' (n + m) (l ++ news) w' → w.heap.size ≤ w'.heap.size → (∀ k, k < w.heap.size → some k ≠ v.ownBlock → w'.heap[k]? = w.heap[k]?) → (v'.ownBlock = v.ownBlock ∨ v'.ownBlock = some w.heap.size) → wpList P ops Q rest (a.put o.dst v') w') :
    wpList P ops Q (o :: rest) a w := by
  obtain ⟨v', w', hr, h1, h2, h3, h4⟩ := run_append_ob (P := P) t tx o.type e i z bytes ht hi hz hsize hby hzs hb vx m news hsrc hlen hbytes
  refine wpList_step fun K hK => ?_
  rw [if_pos hgd]
  unfold Oper.wp execOp
  simp only [ho, resolve, invoke, builtin, Sem.run_bind, Sem.run_pure, Result.andThen_ok, List.map_toArray, List.map_cons, List.map_nil, hs, hx, hr]
  exact hK _ _ (h v' w' h1 h2 h3 h4)
end
/-- '[]byte(s)'. -/
theorem OB.of_bytes (w : World) (s : ByteArray) (e : TypeId) (hs : s.size ≤ maxLen) :
    OB w.heap.size w (.slice (some ⟨w.heap.size, 0, none⟩) s.size (grownCap w s.size 0 e)) s.size (s.data.toList.map bv) (w.drew.alloc (.cells (bytesRow s (grownCap w s.size 0 e)) e ((bytesRow s (grownCap w s.size 0 e)).size, (bytesRow s (grownCap w s.size 0 e)).size + 1))) := by
  have hge := grownCap_ge w s.size 0 e
  have hcm := grownCap_le_maxLen w s.size 0 e hs
  have hbr := BR.new w s (grownCap w s.size 0 e) e hge
  generalize grownCap w s.size 0 e = K at *
  have hsz : (bytesRow s K).size = K := by unfold bytesRow; simp; omega
  refine ⟨((Below.refl _ w).drew).alloc (Nat.le_refl _) _, by simp, by simp, .inr ⟨_, K, rfl, Nat.le_refl _, by simp, hge, hcm, fun j hj => ⟨?_, ?_⟩, fun j u hu => ?_⟩⟩
  · have := World.cell?_alloc_mark w.drew (bytesRow s K) e ((bytesRow s K).size, (bytesRow s K).size + 1) j
    rw [show w.drew.heap.size = w.heap.size from rfl] at this
    rw [this, Array.getElem?_eq_getElem (by rw [hsz]; exact hj)]; rfl
  · have := World.frozen?_alloc_mark w.drew (bytesRow s K) e (bytesRow s K).size ((bytesRow s K).size + 1) j
    rw [show w.drew.heap.size = w.heap.size from rfl] at this
    rw [this, hsz]
    simp; omega
  · rw [List.getElem?_map] at hu
    obtain ⟨y, hy, rfl⟩ := Option.map_eq_some_iff.1 hu
    obtain ⟨hj, rfl⟩ := List.getElem?_eq_some_iff.1 hy
    exact (hbr j hj).1
/-- A slice over a block that was just laid, and marked. -/
theorem Sl.freshM (w : World) (cs : Array Value) (t : TypeId) (lo hi : Nat) (n : Nat) (xs : List Value) (hx : cs.toList = xs) (hn : xs.length = n * 1) :
    Sl (w.alloc (.cells cs t (lo, hi))) (w.alloc (.cells cs t (lo, hi))).heap.size 1 (some ⟨w.heap.size, 0, none⟩) n xs := by
  refine ⟨hn, fun _ => ⟨w.heap.size, 0, rfl, by simp, fun j u hu => ?_⟩⟩
  rw [Nat.zero_add, World.cell?_alloc_mark w cs t (lo, hi) j]
  rw [← hx] at hu
  simpa using hu
/-- A block that was just laid whole, with nothing spare. -/
theorem OB.fresh {B : Nat} {W w : World} (h : Below B W w) (hB : B ≤ w.heap.size) (cs : Array Value) (t : TypeId) (n : Nat) (l : List Value) (hx : cs.toList = l) (hn : cs.size = n) (hm : n ≤ maxLen) :
    OB B W (.slice (some ⟨w.heap.size, 0, none⟩) n n) n l (w.alloc (.cells cs t)) := by
  refine ⟨h.alloc hB _, by simp; omega, by rw [← hx, ← hn]; simp, .inr ⟨_, n, rfl, hB, by simp, Nat.le_refl _, hm, fun j hj => ?_, fun j u hu => ?_⟩⟩
  · have hg : (w.alloc (.cells cs t)).heap[w.heap.size]? = some (.cells cs t (0, 0)) := heap_alloc_new w _
    refine ⟨?_, frozen_of_row _ _ j _ t hg⟩
    rw [cell_of_row _ _ j _ t (0, 0) hg, Array.getElem?_eq_getElem (by omega)]; rfl
  · have := news_at w cs t j u (by rw [hx]; exact hu)
    rwa [Addr.add_lit, Nat.zero_add] at this
theorem bytes_of (zs : List Int) (h : ∀ z ∈ zs, (Lit.int .u8 z).wf = true) : ∃ l : List UInt8, zs.map (Value.int .u8) = l.map bv := ⟨zs.map fun z => UInt8.ofNat z.toNat, by
  rw [List.map_map]
  apply List.map_congr_left
  intro z hz
  have := bounds_u8 (h z hz)
  simp only [Function.comp, bv]
  rw [UInt8.toNat_ofNat_of_lt' (by simp; omega)]
  congr 1; omega⟩
theorem Sl.take {w : World} {B n : Nat} {A : Option Addr} {l : List UInt8} (h : Sl w B 1 A n (l.map bv)) (k : Nat) (hk : k ≤ n) : Sl w B 1 A k ((l.take k).map bv) := by
  have hl : l.length = n := by simpa using h.1
  refine ⟨by simp; omega, fun hpos => ?_⟩
  obtain ⟨b, off, e, hb, hc⟩ := h.2 (by omega)
  refine ⟨b, off, e, hb, fun j u hu => hc j u ?_⟩
  rw [List.map_take, List.getElem?_take] at hu
  split at hu
  · exact hu
  · cases hu
end Go.Proofs.YtkdknfedieeenaaGreatDoor
