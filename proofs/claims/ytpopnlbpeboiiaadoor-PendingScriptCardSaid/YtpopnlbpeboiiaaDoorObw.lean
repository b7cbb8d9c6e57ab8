/- Slices that the call owns, of elements of several cells, in regions that draw their order: what is said of them, and append. It speaks of no program. -/
import Derived.Test.YtpopnlbpeboiiaaDoorObz
import Derived.Test.YtpopnlbpeboiiaaDoorReg6
import Derived.Test.YtpopnlbpeboiiaaDoorCs
namespace Go.Proofs.YtpopnlbpeboiiaaDoor
open Go.RowKit
set_option linter.unusedVariables false
theorem oper_append_obm {P : Program} {o : Oper} {a : Act} {Q : Exit → Act → World → Prop} {K : Act → World → Prop} {w : World} (s x : Operand) (t tx : TypeId)
    (ho : o.op = .call { callee := .builtin .append, args := #[s, x], argTypes := #[t, tx] }) {sz : Nat}
    (e : TypeId) (i : TypeInfo) (z : Value) (bytes : Nat) (ht : P.underlying t = some (.slice e)) (hi : P.info? e = some i) (hz : i.zero = some z) (hsize : i.size = sz) (hby : i.bytes = bytes) (hzs : z.cells.size = sz)
    {B : Nat} {v : Value} {n : Nat} {l : List Value} {W : World} (hb : OBM sz B W v n l w) (hs : a.eval s = v) {vx : Value} {m : Nat} {news : List Value} (hx : a.eval x = vx) (hsrc : Src P sz tx vx m news w) (hnl : news.length = m * sz)
    (hlen : n + m ≤ maxLen) (hbytes : (n + m) * bytes ≤ 140737488355328)
    (h : ∀ v' w', OBM sz B W v' (n + m) (l ++ news) w' → w.heap.size ≤ w'.heap.size → (∀ k, k < w.heap.size → some k ≠ v.ownBlock → w'.heap[k]? = w.heap[k]?) → (v'.ownBlock = v.ownBlock ∨ v'.ownBlock = some w.heap.size) → K (a.put o.dst v') w') :
    Oper.wp P o a w K Q := by
  obtain ⟨v', w', hr, h1, h2, h3, h4⟩ := run_append_obm (P := P) t tx o.type e i z bytes ht hi hz hsize hby hzs hb vx m news hsrc hnl hlen hbytes
  unfold Oper.wp execOp
  simp only [ho, resolve, invoke, builtin, Sem.run_bind, Sem.run_pure, Result.andThen_ok, List.map_toArray, List.map_cons, List.map_nil, hs, hx, hr]
  exact h v' w' h1 h2 h3 h4
/-- A slice that reads as cells is what append can take. -/
theorem Sl.srcM {P : Program} {w : World} {C sz m c : Nat} {A : Option Addr} {news : List Value} {tx e' : TypeId} (hk : P.underlying tx = some (.slice e')) (hA : Sl w C sz A m news) (hA0 : A = none → m = 0) (h1 : ∀ u ∈ news, u.oneCell' = true) : Src P sz tx (.slice A m c) m news w := by
  cases A with
  | none =>
    have h0 := hA0 rfl
    subst h0
    have : news = [] := List.eq_nil_of_length_eq_zero (by rw [hA.1]; simp)
    subst this
    exact Src.ofNil w hk c
  | some ad => exact Src.ofSlice _ hk ad m c news hA.1 (fun j u hu => hA.cells_at ad rfl j u hu) h1
/-! ### append, and the elder slice -/
/-- 'append', whatever is appended, at elements of several cells. -/
theorem run_append_obk {P : Program} {sz B : Nat} {W w : World} {v : Value} {n : Nat} {l : List Value} (t tx ty e : TypeId) (i : TypeInfo) (z : Value) (bytes : Nat) (ht : P.underlying t = some (.slice e)) (hi : P.info? e = some i) (hz : i.zero = some z)
    (hsize : i.size = sz) (hby : i.bytes = bytes) (hzs : z.cells.size = sz) (h : OBM sz B W v n l w) (x : Value) (m : Nat) (news : List Value) (hs : Src P sz tx x m news w) (hnl : news.length = m * sz) (h63 : n + m ≤ maxLen) (hbytes : (n + m) * bytes ≤ 140737488355328) :
    ∃ v' w', (Builtin.append_ #[t, tx] ty #[v, x]).run P w = .ok v' w' ∧ OBM sz B W v' (n + m) (l ++ news) w' ∧ w.heap.size ≤ w'.heap.size ∧ (∀ k, k < w.heap.size → some k ≠ v.ownBlock → w'.heap[k]? = w.heap[k]?) ∧
      (v'.ownBlock = v.ownBlock ∨ v'.ownBlock = some w.heap.size) ∧ OBM sz B W v n l w' := by
  have hll : (l ++ news).length = (n + m) * sz := by rw [List.length_append, h.len, hnl, Nat.add_mul]
  have h63' : ((n + m : Nat) : Int) ≤ 9223372036854775807 := by unfold maxLen at h63; omega
  have grow : ∀ (base : Option Addr) (c : Nat), v = .slice base n c → c < n + m → (Builtin.firstCells i.size n (.slice base n c)).run P w.drew = .ok l.toArray w.drew →
      ∃ v' w', (Builtin.append_ #[t, tx] ty #[v, x]).run P w = .ok v' w' ∧ OBM sz B W v' (n + m) (l ++ news) w' ∧ w.heap.size ≤ w'.heap.size ∧ (∀ k, k < w.heap.size → some k ≠ v.ownBlock → w'.heap[k]? = w.heap[k]?) ∧
        (v'.ownBlock = v.ownBlock ∨ v'.ownBlock = some w.heap.size) ∧ OBM sz B W v n l w' := by
    intro base c hv hc hold
    have hfit : Builtin.nextslicecap (n + m) c * i.bytes ≤ 281474976710656 := growslice_fits hc (by rw [hby]; exact hbytes)
    have hr := run_append_grow_src (P := P) w t tx ty e i z ht hi hz base n c l hold x m news (by rw [hsize]; exact hs) hc h63' hfit
    have hge := grownCap_ge w (n + m) c e
    have hcm := grownCap_le_maxLen w (n + m) c e h63
    rw [← hv] at hr
    generalize grownCap w (n + m) c e = K at *
    have hsz : ((l ++ news).toArray ++ Builtin.zeroCells z.cells (K - (n + m))).size = K * sz := by
      rw [Array.size_append, List.size_toArray, hll, size_zeroCells, hzs]
      have e1 : K = (n + m) + (K - (n + m)) := by omega
      conv => rhs; rw [e1, Nat.add_mul]

    refine ⟨_, _, hr, ⟨(h.bel.drew).alloc h.base _, by have := h.base; simp; omega, hll, .inr ⟨w.heap.size, K, rfl, h.base, by simp, hge, hcm, fun j hj => ?_, fun j u hu => ?_⟩⟩, by simp, fun k hk _ => Below.heap_alloc w.drew _ k hk, .inr rfl, (h.drewN 1).alloc _⟩
    · have hg : (w.drew.alloc (.cells ((l ++ news).toArray ++ Builtin.zeroCells z.cells (K - (n + m))) e)).heap[w.heap.size]? = some (.cells ((l ++ news).toArray ++ Builtin.zeroCells z.cells (K - (n + m))) e (0, 0)) := heap_alloc_new w.drew _
      refine ⟨?_, frozen_of_row _ _ j _ e hg⟩
      rw [cell_of_row _ _ j _ e (0, 0) hg, Array.getElem?_eq_getElem (by rw [hsz]; exact hj)]; rfl
    · have hg : (w.drew.alloc (.cells ((l ++ news).toArray ++ Builtin.zeroCells z.cells (K - (n + m))) e)).heap[w.heap.size]? = some (.cells ((l ++ news).toArray ++ Builtin.zeroCells z.cells (K - (n + m))) e (0, 0)) := heap_alloc_new w.drew _
      have hj := (List.getElem?_eq_some_iff.1 hu).1
      rw [cell_of_row _ _ j _ e (0, 0) hg, Array.getElem?_append_left (by simpa using hj)]
      rw [List.getElem?_toArray]; exact hu
  rcases h.own with ⟨rfl, rfl⟩ | ⟨g, cap, rfl, h1, h2, h3, h4, h5, h6⟩
  · have hx : l = [] := List.eq_nil_of_length_eq_zero (by rw [h.len]; simp)
    subst hx
    by_cases hm : m = 0
    · subst hm
      have hn : news = [] := List.eq_nil_of_length_eq_zero (by rw [hnl]; simp)
      subst hn
      refine ⟨.slice none 0 0, w, ?_, ⟨h.bel, h.base, by simp, .inl ⟨rfl, rfl⟩⟩, Nat.le_refl _, fun _ _ _ => rfl, .inl rfl, h⟩
      have hc := hs.cells
      rw [show sz = i.size from hsize.symm] at hc
      rcases hs.kind with ⟨e', hk⟩ | hk <;> simp [Builtin.append_, run_underlying ht, run_underlying hk, sizeOf, typeInfo, hi, hs.len, hc]
    · exact grow none 0 rfl (by omega) (run_firstCells_none w.drew i.size 0 0 0)
  · by_cases hroom : n + m ≤ cap
    · have hroomsz : n * sz + news.length ≤ cap * sz := by rw [hnl, ← Nat.add_mul]; exact Nat.mul_le_mul_right sz hroom
      have hr := run_append_room_src (P := P) w t tx ty e i ht hi g 0 n cap x m news (by rw [hsize]; exact hs) hroom
        (fun j hj => by rw [hsize, Nat.zero_add]; exact (h5 _ (by omega)).1) (fun j hj => by rw [hsize, Nat.zero_add]; exact (h5 _ (by omega)).2)
      rw [hsize, Nat.zero_add] at hr
      obtain ⟨k1, k2⟩ := setCells_heap w g news (n * sz)
      have hin : ∀ j, j < news.length → (w.cell? ⟨g, n * sz + j, none⟩).isSome = true := fun j hj => (h5 _ (by omega)).1
      have hcell : ∀ j, j < cap * sz → (j < n * sz ∨ n * sz + news.length ≤ j → (w.setCells g (n * sz) news).cell? ⟨g, j, none⟩ = w.cell? ⟨g, j, none⟩) := fun j hj hout => World.cell?_setCells_out g news (n * sz) w ⟨g, j, none⟩ (fun _ _ => hout)
      have hkeep : OBM sz B W (.slice (some ⟨g, 0, none⟩) n cap) n l (w.setCells g (n * sz) news) := by
        refine ⟨below_setCells' h1 news (n * sz) h.bel, by rw [k1]; exact h.base, h.len, .inr ⟨g, cap, rfl, h1, by rw [k1]; exact h2, h3, h4, fun j hj => ⟨?_, by rw [World.frozen?_setCells]; exact (h5 j hj).2⟩, fun j u hu => ?_⟩⟩
        · by_cases hj1 : j < n * sz ∨ n * sz + news.length ≤ j
          · rw [hcell j hj hj1]; exact (h5 j hj).1
          · have := World.cell?_setCells_in g news (n * sz) w hin (j - n * sz) (by omega)
            rw [show n * sz + (j - n * sz) = j by omega] at this
            rw [this]; rfl
        · have hjl := (List.getElem?_eq_some_iff.1 hu).1
          rw [h.len] at hjl
          rw [hcell j (by omega) (.inl hjl)]
          exact h6 j u hu
      refine ⟨_, _, hr, ⟨below_setCells' h1 news (n * sz) h.bel, by rw [k1]; exact h.base, hll, .inr ⟨g, cap, rfl, h1, by rw [k1]; exact h2, hroom, h4, fun j hj => ?_, fun j u hu => ?_⟩⟩, by rw [k1]; exact Nat.le_refl _, fun k hk hne => k2 k (fun e => hne (by rw [e]; rfl)), .inl rfl, hkeep⟩
      · refine ⟨?_, by rw [World.frozen?_setCells]; exact (h5 j hj).2⟩
        by_cases hj1 : j < n * sz ∨ n * sz + news.length ≤ j
        · rw [hcell j hj hj1]; exact (h5 j hj).1
        · have := World.cell?_setCells_in g news (n * sz) w hin (j - n * sz) (by omega)
          rw [show n * sz + (j - n * sz) = j by omega] at this
          rw [this]; rfl
      · rw [List.getElem?_append] at hu
        split at hu
        · rename_i hjl
          rw [h.len] at hjl
          rw [hcell j (by omega) (.inl hjl)]
          exact h6 j u hu
        · rename_i hjl
          rw [h.len] at hu hjl
          obtain ⟨hj2, rfl⟩ := List.getElem?_eq_some_iff.1 hu
          have := World.cell?_setCells_in g news (n * sz) w hin (j - n * sz) hj2
          rwa [show n * sz + (j - n * sz) = j by omega] at this
    · refine grow _ cap rfl (by omega) (run_firstCells_some w.drew i.size n ⟨g, 0, none⟩ n cap l (by rw [hsize]; exact h.len) (fun j u hu => ?_))
      rw [Addr.add_lit, Nat.zero_add]
      exact h6 j u hu
theorem oper_append_obk {P : Program} {o : Oper} {a : Act} {Q : Exit → Act → World → Prop} {K : Act → World → Prop} {w : World} (s x : Operand) (t tx : TypeId)
    (ho : o.op = .call { callee := .builtin .append, args := #[s, x], argTypes := #[t, tx] }) {sz : Nat}
    (e : TypeId) (i : TypeInfo) (z : Value) (bytes : Nat) (ht : P.underlying t = some (.slice e)) (hi : P.info? e = some i) (hz : i.zero = some z) (hsize : i.size = sz) (hby : i.bytes = bytes) (hzs : z.cells.size = sz)
    {B : Nat} {v : Value} {n : Nat} {l : List Value} {W : World} (hb : OBM sz B W v n l w) (hs : a.eval s = v) {vx : Value} {m : Nat} {news : List Value} (hx : a.eval x = vx) (hsrc : Src P sz tx vx m news w) (hnl : news.length = m * sz)
    (hlen : n + m ≤ maxLen) (hbytes : (n + m) * bytes ≤ 140737488355328)
    (h : ∀ v' w', OBM sz B W v' (n + m) (l ++ news) w' → w.heap.size ≤ w'.heap.size → (∀ k, k < w.heap.size → some k ≠ v.ownBlock → w'.heap[k]? = w.heap[k]?) → (v'.ownBlock = v.ownBlock ∨ v'.ownBlock = some w.heap.size) → OBM sz B W v n l w' → K (a.put o.dst v') w') :
    Oper.wp P o a w K Q := by
  obtain ⟨v', w', hr, h1, h2, h3, h4, h5⟩ := run_append_obk (P := P) t tx o.type e i z bytes ht hi hz hsize hby hzs hb vx m news hsrc hnl hlen hbytes
  unfold Oper.wp execOp
  simp only [ho, resolve, invoke, builtin, Sem.run_bind, Sem.run_pure, Result.andThen_ok, List.map_toArray, List.map_cons, List.map_nil, hs, hx, hr]
  exact h v' w' h1 h2 h3 h4 h5
/-! ### Words -/
def ownW (sz B : Nat) (W : World) (n : Nat) (l : List Value) : Value → World → Prop := fun v w => OBM sz B W v n l w
theorem ownW_stays (sz B : Nat) (W : World) (n : Nat) (l : List Value) : ∀ v w w', ownW sz B W n l v w → Goes w w' → ownW sz B W n l v w' := fun _ _ _ h hb => OBM.keep h hb (Nat.le_refl _)
/-- A slice of one element over a block of these cells. -/
def litW (n : Nat) (vs : List Value) : Value → World → Prop := fun v w => ∃ g, v = .slice (some ⟨g, 0, none⟩) n n ∧ Cs w g vs
theorem litW_stays (n : Nat) (vs : List Value) : ∀ v w w', litW n vs v w → Goes w w' → litW n vs v w' := by
  rintro v w w' ⟨g, rfl, h⟩ hb
  exact ⟨g, rfl, h.below hb⟩
theorem litW_new (n : Nat) (w : World) (cs : Array Value) (t : TypeId) (vs : List Value) (hv : cs.toList = vs := by rfl) : litW n vs (.slice (some ⟨w.heap.size, 0, none⟩) n n) (w.alloc (.cells cs t)) := ⟨_, rfl, Cs.new w cs t vs hv⟩
/-- A place within a block of these cells. -/
def atW (j : Nat) (vs : List Value) : Value → World → Prop := fun v w => ∃ g, v = .pointer (some ⟨g, j, none⟩) ∧ Cs w g vs
theorem atW_stays (j : Nat) (vs : List Value) : ∀ v w w', atW j vs v w → Goes w w' → atW j vs v w' := by
  rintro v w w' ⟨g, rfl, h⟩ hb
  exact ⟨g, rfl, h.below hb⟩
/-- A box of these cells, which lies above B. -/
def boxW (B : Nat) (vs : List Value) : Value → World → Prop := fun v w => ∃ g, v = .pointer (some ⟨g, 0, none⟩) ∧ B ≤ g ∧ Cs w g vs
theorem boxW_stays (B : Nat) (vs : List Value) : ∀ v w w', boxW B vs v w → Goes w w' → boxW B vs v w' := by
  rintro v w w' ⟨g, rfl, hB, h⟩ hb
  exact ⟨g, rfl, hB, h.below hb⟩
theorem until_done {k K : Nat} {p : Value → World → Prop} {d : Nat → Bool} {v : Value} {w : World} (h : d k = true) : until_ k p (setD d K) v w := fun hk => by
  have := setD_le d K k h; rw [hk] at this; cases this
theorem until_self {K : Nat} {p : Value → World → Prop} {d : Nat → Bool} {v : Value} {w : World} : until_ K p (setD d K) v w := fun hk => by simp [setD] at hk
theorem until_of {k : Nat} {p : Value → World → Prop} {d : Nat → Bool} {v : Value} {w : World} (h : p v w) : until_ k p d v w := fun _ => h
end Go.Proofs.YtpopnlbpeboiiaaDoor
