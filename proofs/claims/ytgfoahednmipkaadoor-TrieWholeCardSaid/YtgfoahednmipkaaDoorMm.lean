/- Maps that the call made, by their contents: what is read of each key, and how many there are. It speaks of no program. -/
import Derived.Test.YtgfoahednmipkaaDoorBase
import Derived.Maps.Own
import Derived.Maps.OwnSet
namespace Go.Proofs.YtgfoahednmipkaaDoor
open Go.RowKit
set_option linter.unusedVariables false
/-- The block b is a map of n keys whose contents are M; a key k stands as K k. -/
def MM {κ : Type} (K : κ → Value) (w : World) (b : Nat) (M : κ → Option Value) (n : Nat) : Prop :=
  ∃ es clock, w.heap[b]? = some (.map es clock) ∧ es.size = n ∧ MapKept.Stamped es clock ∧ (∀ e ∈ es.toList, ∃ k, e.key = K k) ∧ ∀ k v, M k = some v ↔ ∃ e ∈ es.toList, e.key = K k ∧ e.val = v
open Classical in
noncomputable def updM {κ α : Type} (M : κ → Option α) (k : κ) (v : Option α) : κ → Option α := fun q => if q = k then v else M q
theorem updM_same {κ α : Type} (M : κ → Option α) (k : κ) (v : Option α) : updM M k v k = v := by simp [updM]
theorem updM_other {κ α : Type} (M : κ → Option α) (k q : κ) (v : Option α) (h : q ≠ k) : updM M k v q = M q := by simp [updM, h]
section
variable {κ : Type} {K : κ → Value} {w w' : World} {b n : Nat} {M : κ → Option Value} {P : Program} {t kt e : TypeId} {d : TypeDesc}
theorem MM.lt (h : MM K w b M n) : b < w.heap.size := by
  obtain ⟨es, clock, hb, _⟩ := h
  exact (Array.getElem?_eq_some_iff.1 hb).1
theorem MM.block (h : MM K w b M n) (hb : w'.heap[b]? = w.heap[b]?) : MM K w' b M n := by
  obtain ⟨es, clock, h1, h2⟩ := h
  exact ⟨es, clock, hb.trans h1, h2⟩
theorem MM.below (h : MM K w b M n) (hb : Below w.heap.size w w') : MM K w' b M n := h.block (hb.block b h.lt)
theorem MM.drewN (h : MM K w b M n) (k : Nat) : MM K (w.drewN k) b M n := h
theorem MM.alloc (h : MM K w b M n) (o : Obj) : MM K (w.alloc o) b M n := h.below ((Below.refl _ _).alloc (Nat.le_refl _) _)
theorem MM.setCell (h : MM K w b M n) (p : Addr) (u : Value) (hp : p.block ≠ b) : MM K (w.setCell p u) b M n := h.block (Below.heap_setCell _ _ _ _ (fun e => hp e.symm))
theorem MM.grown {row : Option Nat} (h : MM K w b M n) (hg : w.grownBy w' row) (hne : row ≠ some b) : MM K w' b M n := h.block (hg.block b h.lt (fun e => hne e.symm))
theorem MM.new (K : κ → Value) (w : World) : MM K (w.alloc (.map #[] 0)) w.heap.size (fun _ => none) 0 :=
  ⟨#[], 0, (MapKept.heap_alloc w _).1, rfl, MapKept.stamped_empty 0, by simp, by simp⟩
theorem MM.at_ (h : MM K w b M n) (B : Nat) (hB : b = B) : MM K w B M n := by subst hB; exact h
theorem MM.is (h : MM K w b M n) {M' : κ → Option Value} {n' : Nat} (hM : M = M') (hn : n = n') : MM K w b M' n' := by subst hM hn; exact h
theorem stamp_inj {es : Array MapEntry} {clock : Nat} (h : MapKept.Stamped es clock) {i j : Nat} {x y : MapEntry} (hx : es.toList[i]? = some x) (hy : es.toList[j]? = some y) (e : x.key = y.key) : i = j := by
  have hn := h.2.2
  have hx' : (es.toList.map (·.key))[i]? = some x.key := by rw [List.getElem?_map, hx]; rfl
  have hy' : (es.toList.map (·.key))[j]? = some y.key := by rw [List.getElem?_map, hy]; rfl
  obtain ⟨hi, ei⟩ := List.getElem?_eq_some_iff.1 hx'
  obtain ⟨hj, ej⟩ := List.getElem?_eq_some_iff.1 hy'
  rcases Nat.lt_trichotomy i j with h1 | h1 | h1
  · exact absurd (by rw [ei, ej, e]) (List.pairwise_iff_getElem.1 hn i j hi hj h1)
  · exact h1
  · exact absurd (by rw [ei, ej, e]) (List.pairwise_iff_getElem.1 hn j i hj hi h1)
theorem MM.find (h : MM K w b M n) (hK : ∀ a, MapKept.IsKey d (K a)) (k : κ) : ∃ es clock, w.heap[b]? = some (.map es clock) ∧ es.size = n ∧ MapKept.Stamped es clock ∧ (∀ e ∈ es.toList, ∃ k, e.key = K k) ∧ (∀ k v, M k = some v ↔ ∃ e ∈ es.toList, e.key = K k ∧ e.val = v) ∧
    ((M k = none ∧ Instr.findNow d (K k) es.toList 0 = some none ∧ ∀ x ∈ es.toList, x.key ≠ K k) ∨ ∃ j x, M k = some x.val ∧ Instr.findNow d (K k) es.toList 0 = some (some (j, x.val)) ∧ es.toList[j]? = some x ∧ x.key = K k) := by
  obtain ⟨es, clock, hb, hn, hs, hk, hM⟩ := h
  refine ⟨es, clock, hb, hn, hs, hk, hM, ?_⟩
  rcases MapKept.findNow_spec (hK k) es.toList 0 (fun x hx => by obtain ⟨q, e⟩ := hk x hx; rw [e]; exact hK q) with ⟨h1, h2⟩ | ⟨j, x, h1, h2, h3⟩
  · left
    refine ⟨?_, h1, h2⟩
    cases hm : M k with
    | none => rfl
    | some v => obtain ⟨x, hx, e1, _⟩ := (hM k v).1 hm; exact absurd e1 (h2 x hx)
  · right
    rw [Nat.zero_add] at h1
    exact ⟨j, x, (hM k _).2 ⟨x, List.mem_of_getElem? h2, h3, rfl⟩, h1, h2, h3⟩
/-- 'v, ok := m[k]'. -/
theorem MM.lookup (h : MM K w b M n) (ht : P.underlying t = some (.map kt e)) (hd : P.underlying kt = some d) (hK : ∀ a, MapKept.IsKey d (K a)) {z : Value} (hz : (zeroValue e).run P w = .ok z w) (k : κ) :
    (Instr.lookup t (.map (some b)) (K k) true).run P w = .ok (.tuple #[(M k).getD z, .bool (M k).isSome]) w := by
  obtain ⟨es, clock, hb, hn, hs, hk, hM, hf⟩ := h.find hK k
  have hck : ∀ c, (Instr.checkKey c 10000 kt (K k)).run P w = .ok () w := fun c => MapKept.run_checkKey hd (hK k) c 9999
  rcases hf with ⟨h1, h2, -⟩ | ⟨j, x, h1, h2, -, -⟩
  · have hf := MapKept.run_findKey (w := w) hd h2
    rw [h1]
    simp [Instr.lookup, run_underlying ht, MapKept.run_getObj_map hb, hck, hf, hz, Result.andThen]
  · have hf := MapKept.run_findKey (w := w) hd h2
    rw [h1]
    simp [Instr.lookup, run_underlying ht, MapKept.run_getObj_map hb, hck, hf, Result.andThen]
/-- 'm[k]'. -/
theorem MM.lookup1 (h : MM K w b M n) (ht : P.underlying t = some (.map kt e)) (hd : P.underlying kt = some d) (hK : ∀ a, MapKept.IsKey d (K a)) {z : Value} (hz : (zeroValue e).run P w = .ok z w) (k : κ) :
    (Instr.lookup t (.map (some b)) (K k) false).run P w = .ok ((M k).getD z) w := by
  obtain ⟨es, clock, hb, hn, hs, hk, hM, hf⟩ := h.find hK k
  have hck : ∀ c, (Instr.checkKey c 10000 kt (K k)).run P w = .ok () w := fun c => MapKept.run_checkKey hd (hK k) c 9999
  rcases hf with ⟨h1, h2, -⟩ | ⟨j, x, h1, h2, -, -⟩
  · have hf := MapKept.run_findKey (w := w) hd h2
    rw [h1]
    simp [Instr.lookup, run_underlying ht, MapKept.run_getObj_map hb, hck, hf, hz, Result.andThen]
  · have hf := MapKept.run_findKey (w := w) hd h2
    rw [h1]
    simp [Instr.lookup, run_underlying ht, MapKept.run_getObj_map hb, hck, hf, Result.andThen]
/-- 'm[k] = v'. -/
theorem MM.set (h : MM K w b M n) (ht : P.underlying t = some (.map kt e)) (hd : P.underlying kt = some d) (hK : ∀ a, MapKept.IsKey d (K a)) (hI : ∀ a c, K a = K c → a = c) (k : κ) (v : Value) :
    ∃ w', (Instr.mapUpdate t (.map (some b)) (K k) v).run P w = .ok () w' ∧ MM K w' b (updM M k (some v)) (if (M k).isSome then n else n + 1) ∧ w.grownBy w' (some b) := by
  obtain ⟨es, clock, hb, hn, hs, hk, hM, hf⟩ := h.find hK k
  have hck : ∀ c, (Instr.checkKey c 10000 kt (K k)).run P w = .ok () w := fun c => MapKept.run_checkKey hd (hK k) c 9999
  rcases hf with ⟨h1, h2, h3⟩ | ⟨j, x, h1, h2, hj, h3⟩
  · have hf := MapKept.run_findKey (w := w) hd h2
    refine ⟨{ w with heap := w.heap.setIfInBounds b (.map (es.push ⟨K k, v, clock⟩) (clock + 1)) }, ?_, ?_, ?_⟩
    · simp [Instr.mapUpdate, run_underlying ht, MapKept.run_getObj_map hb, hck, hf, MapKept.run_setObj_map _ hb, Result.andThen]
    · refine ⟨_, _, (MapKept.heap_set hb).1, by simp [h1, hn], MapKept.stamped_push hs h3, ?_, ?_⟩
      · intro x hx
        simp only [Array.toList_push, List.mem_append, List.mem_singleton] at hx
        rcases hx with hx | rfl
        · exact hk x hx
        · exact ⟨k, rfl⟩
      · intro q u
        simp only [Array.toList_push, List.mem_append, List.mem_singleton]
        by_cases hq : q = k
        · subst hq
          rw [updM_same]
          constructor
          · intro e; injection e with e; subst e; exact ⟨_, .inr rfl, rfl, rfl⟩
          · rintro ⟨x, hx | rfl, e1, e2⟩
            · exact absurd e1 (h3 x hx)
            · rw [← e2]
        · rw [updM_other _ _ _ _ hq, hM q u]
          constructor
          · rintro ⟨x, hx, e⟩; exact ⟨x, .inl hx, e⟩
          · rintro ⟨x, hx | rfl, e1, e2⟩
            · exact ⟨x, hx, e1, e2⟩
            · exact absurd (hI _ _ e1).symm hq
    · exact ⟨rfl, rfl, rfl, by simp, fun i _ hi => (MapKept.heap_set hb).2 i (fun e => hi (by rw [e]))⟩
  · have hf := MapKept.run_findKey (w := w) hd h2
    have hj' : es[j]? = some x := by simpa using hj
    have hjl : j < es.size := by have := (Array.getElem?_eq_some_iff.1 hj').1; exact this
    have hkey : ∀ e', es[j]? = some e' → ({ e' with key := K k, val := v } : MapEntry).key = e'.key := fun e' he' => by rw [hj'] at he'; cases he'; exact h3.symm
    refine ⟨{ w with heap := w.heap.setIfInBounds b (.map (es.modify j fun e => { e with key := K k, val := v }) clock) }, ?_, ?_, ?_⟩
    · simp [Instr.mapUpdate, run_underlying ht, MapKept.run_getObj_map hb, hck, hf, hj', h3, MapKept.run_keyThatStays (hK k), MapKept.run_setObj_map _ hb, Result.andThen]
    · have hget : ∀ i, (es.modify j fun e => { e with key := K k, val := v }).toList[i]? = if i = j then some { x with key := K k, val := v } else es.toList[i]? := by
        intro i
        rw [Array.getElem?_toList, Array.getElem?_modify]
        by_cases hi : i = j
        · subst hi; simp [hj']
        · rw [if_neg (fun e => hi e.symm), if_neg hi, Array.getElem?_toList]
      refine ⟨_, _, (MapKept.heap_set hb).1, by simp [h1, hn], MapKept.stamped_modify hs _ _ (fun _ _ => rfl) (fun e' _ he' => hkey e' he'), ?_, ?_⟩
      · intro y hy
        obtain ⟨i, hi⟩ := List.mem_iff_getElem?.1 hy
        rw [hget] at hi
        split at hi
        · injection hi with hi; subst hi; exact ⟨k, rfl⟩
        · exact hk y (List.mem_of_getElem? hi)
      · intro q u
        by_cases hq : q = k
        · subst hq
          rw [updM_same]
          constructor
          · intro e; injection e with e; subst e
            exact ⟨_, List.mem_of_getElem? (by rw [hget, if_pos rfl]), rfl, rfl⟩
          · rintro ⟨y, hy, e1, e2⟩
            obtain ⟨i, hi⟩ := List.mem_iff_getElem?.1 hy
            rw [hget] at hi
            split at hi
            · injection hi with hi; subst hi; rw [← e2]
            · rename_i hij
              exact absurd (stamp_inj hs hi hj (by rw [e1, h3])) hij
        · rw [updM_other _ _ _ _ hq, hM q u]
          constructor
          · rintro ⟨y, hy, e1, e2⟩
            obtain ⟨i, hi⟩ := List.mem_iff_getElem?.1 hy
            have hij : i ≠ j := fun e => by subst e; rw [hj] at hi; injection hi with hi; subst hi; exact hq (hI _ _ (e1.symm.trans h3))
            exact ⟨y, List.mem_of_getElem? (i := i) (by rw [hget, if_neg hij]; exact hi), e1, e2⟩
          · rintro ⟨y, hy, e1, e2⟩
            obtain ⟨i, hi⟩ := List.mem_iff_getElem?.1 hy
            rw [hget] at hi
            split at hi
            · injection hi with hi; subst hi; exact absurd (hI _ _ e1).symm hq
            · exact ⟨y, List.mem_of_getElem? hi, e1, e2⟩
    · exact ⟨rfl, rfl, rfl, by simp, fun i _ hi => (MapKept.heap_set hb).2 i (fun e => hi (by rw [e]))⟩
/-- 'delete(m, k)'. -/
theorem MM.del (h : MM K w b M n) (ht : P.underlying t = some (.map kt e)) (hd : P.underlying kt = some d) (hK : ∀ a, MapKept.IsKey d (K a)) (hI : ∀ a c, K a = K c → a = c) (k : κ) (ty : TypeId) :
    ∃ w', (Builtin.delete_ #[t, kt] ty #[.map (some b), K k]).run P w = .ok (.tuple #[]) w' ∧ MM K w' b (updM M k none) (if (M k).isSome then n - 1 else n) ∧ w.grownBy w' (some b) := by
  obtain ⟨es, clock, hb, hn, hs, hk, hM, hf⟩ := h.find hK k
  have hck : ∀ c, (Instr.checkKey c 10000 kt (K k)).run P w = .ok () w := fun c => MapKept.run_checkKey hd (hK k) c 9999
  rcases hf with ⟨h1, h2, h3⟩ | ⟨j, x, h1, h2, hj, h3⟩
  · have hf := MapKept.run_findKey (w := w) hd h2
    refine ⟨{ w with heap := w.heap.setIfInBounds b (.map es clock) }, ?_, ?_, ?_⟩
    · simp [Builtin.delete_, run_underlying ht, MapKept.run_getObj_map hb, hck, hf, MapKept.run_setObj_map _ hb, Result.andThen]
    · refine ⟨_, _, (MapKept.heap_set hb).1, by simp [h1, hn], hs, hk, ?_⟩
      intro q u
      by_cases hq : q = k
      · subst hq; rw [updM_same]
        exact ⟨fun h => by (cases h), fun ⟨y, hy, e1, _⟩ => absurd e1 (h3 y hy)⟩
      · rw [updM_other _ _ _ _ hq, hM q u]
    · exact ⟨rfl, rfl, rfl, by simp, fun i _ hi => (MapKept.heap_set hb).2 i (fun e => hi (by rw [e]))⟩
  · have hf := MapKept.run_findKey (w := w) hd h2
    have hj' : es[j]? = some x := by simpa using hj
    have hjl : j < es.size := (Array.getElem?_eq_some_iff.1 hj').1
    have hel : (es.eraseIdxIfInBounds j).toList = es.toList.eraseIdx j := by
      unfold Array.eraseIdxIfInBounds; rw [dif_pos hjl]; simp
    have hmem : ∀ y, y ∈ es.toList.eraseIdx j ↔ ∃ i, i ≠ j ∧ es.toList[i]? = some y := fun y => List.mem_eraseIdx_iff_getElem?
    refine ⟨{ w with heap := w.heap.setIfInBounds b (.map (es.eraseIdxIfInBounds j) clock) }, ?_, ?_, ?_⟩
    · simp [Builtin.delete_, run_underlying ht, MapKept.run_getObj_map hb, hck, hf, MapKept.run_setObj_map _ hb, Result.andThen]
    · refine ⟨_, _, (MapKept.heap_set hb).1, ?_, MapKept.stamped_erase hs _, ?_, ?_⟩
      · have := congrArg List.length hel
        rw [List.length_eraseIdx, if_pos (by simpa using hjl)] at this
        rw [h1]; simp only [Array.length_toList] at this; simp [this, hn]
      · intro y hy
        rw [hel, hmem] at hy
        obtain ⟨i, _, hi⟩ := hy
        exact hk y (List.mem_of_getElem? hi)
      · intro q u
        rw [hel]
        simp only [hmem]
        by_cases hq : q = k
        · subst hq; rw [updM_same]
          refine ⟨fun h => by (cases h), ?_⟩
          rintro ⟨y, ⟨i, hij, hi⟩, e1, _⟩
          exact absurd (stamp_inj hs hi hj (by rw [e1, h3])) hij
        · rw [updM_other _ _ _ _ hq, hM q u]
          constructor
          · rintro ⟨y, hy, e1, e2⟩
            obtain ⟨i, hi⟩ := List.mem_iff_getElem?.1 hy
            exact ⟨y, ⟨i, fun e => by subst e; rw [hj] at hi; injection hi with hi; subst hi; exact hq (hI _ _ (e1.symm.trans h3)), hi⟩, e1, e2⟩
          · rintro ⟨y, ⟨i, hij, hi⟩, e1, e2⟩
            exact ⟨y, List.mem_of_getElem? hi, e1, e2⟩
    · exact ⟨rfl, rfl, rfl, by simp, fun i _ hi => (MapKept.heap_set hb).2 i (fun e => hi (by rw [e]))⟩
/-- 'len(m)'. -/
theorem MM.len (h : MM K w b M n) (ht : P.underlying t = some (.map kt e)) (ty : TypeId) : (Builtin.len_ #[t] ty #[.map (some b)]).run P w = .ok (.int .i64 n) w := by
  obtain ⟨es, clock, hb, hn, _⟩ := h
  simp [Builtin.len_, run_underlying ht, MapKept.run_getObj_map hb, Result.andThen, hn, goInt]
end
section
variable {κ : Type} {K : κ → Value} {b n : Nat} {M : κ → Option Value} {P : Program} {d : TypeDesc} (w : World) {ops : Array Oper} {rest : List Oper} {o : Oper} {a : Act} {Q : Exit → Act → World → Prop}
theorem wpList_update_mm (hg : o.guard = none) (m x v : Operand) (t : TypeId) (hop : o.op = Op.mapUpdate t m x v) (kt e : TypeId) (ht : P.underlying t = some (.map kt e)) (hd : P.underlying kt = some d) (hK : ∀ a, MapKept.IsKey d (K a)) (hI : ∀ a c, K a = K c → a = c)
    (hm : a.eval m = .map (some b)) (hown : MM K w b M n) (k : κ) (val : Value) (hx : a.eval x = K k) (hv : a.eval v = val)
    (hC : ∀ w', MM K w' b (updM M k (some val)) (if (M k).isSome then n else n + 1) → w.grownBy w' (some b) → wpList P ops Q rest (a.put o.dst undef) w') :
    wpList P ops Q (o :: rest) a w := by
  refine wpList_plain hg fun K' hK' => ?_
  obtain ⟨w', hrun, r1, r2⟩ := hown.set ht hd hK hI k val
  unfold Oper.wp
  simp [execOp, hop, hm, hx, hv, hrun, Result.andThen]
  exact hK' _ _ (hC w' r1 r2)
theorem wpList_delete_mm (hg : o.guard = none) (m x : Operand) (t kt : TypeId) (hop : o.op = Op.call { callee := Callee.builtin Builtin.delete, args := #[m, x], argTypes := #[t, kt] }) (e : TypeId) (ht : P.underlying t = some (.map kt e)) (hd : P.underlying kt = some d) (hK : ∀ a, MapKept.IsKey d (K a)) (hI : ∀ a c, K a = K c → a = c)
    (hm : a.eval m = .map (some b)) (hown : MM K w b M n) (k : κ) (hx : a.eval x = K k)
    (hC : ∀ w', MM K w' b (updM M k none) (if (M k).isSome then n - 1 else n) → w.grownBy w' (some b) → wpList P ops Q rest (a.put o.dst (.tuple #[])) w') :
    wpList P ops Q (o :: rest) a w := by
  refine wpList_plain hg fun K' hK' => ?_
  obtain ⟨w', hrun, r1, r2⟩ := hown.del ht hd hK hI k o.type
  unfold Oper.wp
  simp [execOp, hop, resolve, invoke, builtin, hm, hx, hrun, Result.andThen]
  exact hK' _ _ (hC w' r1 r2)
theorem wpList_len_mm (hg : o.guard = none) (m : Operand) (t : TypeId) (hop : o.op = Op.call { callee := Callee.builtin Builtin.len, args := #[m], argTypes := #[t] }) (kt e : TypeId) (ht : P.underlying t = some (.map kt e))
    (hm : a.eval m = .map (some b)) (hown : MM K w b M n) (hC : wpList P ops Q rest (a.put o.dst (.int .i64 n)) w) :
    wpList P ops Q (o :: rest) a w := by
  refine wpList_plain hg fun K' hK' => ?_
  unfold Oper.wp
  simp [execOp, hop, resolve, invoke, builtin, hm, hown.len ht o.type, Result.andThen]
  exact hK' _ _ hC
end
theorem key_str (a : ByteArray) : MapKept.IsKey .string (.string a) := by simp [MapKept.IsKey]
theorem str_inj (a c : ByteArray) (h : Value.string a = .string c) : a = c := by injection h
end Go.Proofs.YtgfoahednmipkaaDoor
