/- Texts that walks stand on, one behind the other. -/
import Derived.Test.YtkdknfedieeenaaGreatDoorBase
import Derived.Maps.Own
import Derived.Maps.OwnSet
import Derived.ScopeJumps
import Derived.WalkMore
import Derived.Test.YtkdknfedieeenaaGreatDoorCs
import Derived.Test.YtkdknfedieeenaaGreatDoorRows
import Derived.Test.YtkdknfedieeenaaGreatDoorBuf
import Derived.WalkSmall
import Derived.Deep.DeepCutAuto
import Derived.Laws.BitsAllLaws
import Derived.IntWalk
import Derived.Lib.Hide
import Derived.BigQuiet
import Derived.Outline
import Derived.OwnWalk
import Derived.LoopTactic
namespace Go.Proofs.YtkdknfedieeenaaGreatDoor
open Go.RowKit
set_option linter.unusedVariables false
/-- The block b is a map of n keys whose contents are M; a key k stands as_ K k. -/
def MM {κ : Type} (K : κ → Value) (w : World) (b : Nat) (M : κ → Option Value) (n : Nat) : Prop :=
  ∃ es clock, w.heap[b]? = some (.map es clock) ∧ es.size = n ∧ MapKept.Stamped es clock ∧ (∀ e ∈ es.toList, ∃ k, e.key = K k) ∧ ∀ k v, M k = some v ↔ ∃ e ∈ es.toList, e.key = K k ∧ e.val = v
open Classical in
noncomputable def updM {κ α : Type} (M : κ → Option α) (k : κ) (v : Option α) : κ → Option α := fun q => if q = k then v else M q
theorem updM_same {κ α : Type} (M : κ → Option α) (k : κ) (v : Option α) : updM M k v k = v := by simp [updM]
theorem updM_other {κ α : Type} (M : κ → Option α) (k q : κ) (v : Option α) (h : q ≠ k) : updM M k v q = M q := by simp [updM, h]
section
variable {κ : Type} {K : κ → Value} {w w' : World} {b n : Nat} {M : κ → Option Value} {P : Program} {t kt e : TypeId} {d : TypeDesc}
theorem MM.lt (h : MM K w b M n) : b < w.heap.size := by
  obtain ⟨es, clock, hb, _⟩ := h
  exact (Array.getElem?_eq_some_iff.1 hb).1
theorem MM.block (h : MM K w b M n) (hb : w'.heap[b]? = w.heap[b]?) : MM K w' b M n := by
  obtain ⟨es, clock, h1, h2⟩ := h
  exact ⟨es, clock, hb.trans h1, h2⟩
theorem MM.below (h : MM K w b M n) (hb : Below w.heap.size w w') : MM K w' b M n := h.block (hb.block b h.lt)
theorem MM.drewN (h : MM K w b M n) (k : Nat) : MM K (w.drewN k) b M n := h
theorem MM.alloc (h : MM K w b M n) (o : Obj) : MM K (w.alloc o) b M n := h.below ((Below.refl _ _).alloc (Nat.le_refl _) _)
theorem MM.setCell (h : MM K w b M n) (p : Addr) (u : Value) (hp : p.block ≠ b) : MM K (w.setCell p u) b M n := h.block (Below.heap_setCell _ _ _ _ (fun e => hp e.symm))
theorem MM.grown {row : Option Nat} (h : MM K w b M n) (hg : w.grownBy w' row) (hne : row ≠ some b) : MM K w' b M n := h.block (hg.block b h.lt (fun e => hne e.symm))
theorem MM.new (K : κ → Value) (w : World) : MM K (w.alloc (.map #[] 0)) w.heap.size (fun _ => none) 0 :=
  ⟨#[], 0, (MapKept.heap_alloc w _).1, rfl, MapKept.stamped_empty 0, by simp, by simp⟩
theorem MM.at_ (h : MM K w b M n) (B : Nat) (hB : b = B) : MM K w B M n := by subst hB; exact h
theorem MM.is (h : MM K w b M n) {M' : κ → Option Value} {n' : Nat} (hM : M = M') (hn : n = n') : MM K w b M' n' := by subst hM hn; exact h
theorem stamp_inj {es : Array MapEntry} {clock : Nat} (h : MapKept.Stamped es clock) {i j : Nat} {x y : MapEntry} (hx : es.toList[i]? = some x) (hy : es.toList[j]? = some y) (e : x.key = y.key) : i = j := by
  have hn := h.2.2
  have hx' : (es.toList.map (·.key))[i]? = some x.key := by rw [List.getElem?_map, hx]; rfl
  have hy' : (es.toList.map (·.key))[j]? = some y.key := by rw [List.getElem?_map, hy]; rfl
  obtain ⟨hi, ei⟩ := List.getElem?_eq_some_iff.1 hx'
  obtain ⟨hj, ej⟩ := List.getElem?_eq_some_iff.1 hy'
  rcases Nat.lt_trichotomy i j with h1 | h1 | h1
  · exact absurd (by rw [ei, ej, e]) (List.pairwise_iff_getElem.1 hn i j hi hj h1)
  · exact h1
  · exact absurd (by rw [ei, ej, e]) (List.pairwise_iff_getElem.1 hn j i hj hi h1)
theorem MM.find (h : MM K w b M n) (hK : ∀ a, MapKept.IsKey d (K a)) (k : κ) : ∃ es clock, w.heap[b]? = some (.map es clock) ∧ es.size = n ∧ MapKept.Stamped es clock ∧ (∀ e ∈ es.toList, ∃ k, e.key = K k) ∧ (∀ k v, M k = some v ↔ ∃ e ∈ es.toList, e.key = K k ∧ e.val = v) ∧
    ((M k = none ∧ Instr.findNow d (K k) es.toList 0 = some none ∧ ∀ x ∈ es.toList, x.key ≠ K k) ∨ ∃ j x, M k = some x.val ∧ Instr.findNow d (K k) es.toList 0 = some (some (j, x.val)) ∧ es.toList[j]? = some x ∧ x.key = K k) := by
  obtain ⟨es, clock, hb, hn, hs, hk, hM⟩ := h
  refine ⟨es, clock, hb, hn, hs, hk, hM, ?_⟩
  rcases MapKept.findNow_spec (hK k) es.toList 0 (fun x hx => by obtain ⟨q, e⟩ := hk x hx; rw [e]; exact hK q) with ⟨h1, h2⟩ | ⟨j, x, h1, h2, h3⟩
  · left
    refine ⟨?_, h1, h2⟩
    cases hm : M k with
    | none => rfl
    | some v => obtain ⟨x, hx, e1, _⟩ := (hM k v).1 hm; exact absurd e1 (h2 x hx)
  · right
    rw [Nat.zero_add] at h1
    exact ⟨j, x, (hM k _).2 ⟨x, List.mem_of_getElem? h2, h3, rfl⟩, h1, h2, h3⟩
/-- 'v, ok := m[k]'. -/
theorem MM.lookup (h : MM K w b M n) (ht : P.underlying t = some (.map kt e)) (hd : P.underlying kt = some d) (hK : ∀ a, MapKept.IsKey d (K a)) {z : Value} (hz : (zeroValue e).run P w = .ok z w) (k : κ) :
    (Instr.lookup t (.map (some b)) (K k) true).run P w = .ok (.tuple #[(M k).getD z, .bool (M k).isSome]) w := by
  obtain ⟨es, clock, hb, hn, hs, hk, hM, hf⟩ := h.find hK k
  have hck : ∀ c, (Instr.checkKey c 10000 kt (K k)).run P w = .ok () w := fun c => MapKept.run_checkKey hd (hK k) c 9999
  rcases hf with ⟨h1, h2, -⟩ | ⟨j, x, h1, h2, -, -⟩
  · have hf := MapKept.run_findKey (w := w) hd h2
    rw [h1]
    simp [Instr.lookup, run_underlying ht, MapKept.run_getObj_map hb, hck, hf, hz, Result.andThen]
  · have hf := MapKept.run_findKey (w := w) hd h2
    rw [h1]
    simp [Instr.lookup, run_underlying ht, MapKept.run_getObj_map hb, hck, hf, Result.andThen]
/-- 'm[k]'. -/
theorem MM.lookup1 (h : MM K w b M n) (ht : P.underlying t = some (.map kt e)) (hd : P.underlying kt = some d) (hK : ∀ a, MapKept.IsKey d (K a)) {z : Value} (hz : (zeroValue e).run P w = .ok z w) (k : κ) :
    (Instr.lookup t (.map (some b)) (K k) false).run P w = .ok ((M k).getD z) w := by
  obtain ⟨es, clock, hb, hn, hs, hk, hM, hf⟩ := h.find hK k
  have hck : ∀ c, (Instr.checkKey c 10000 kt (K k)).run P w = .ok () w := fun c => MapKept.run_checkKey hd (hK k) c 9999
  rcases hf with ⟨h1, h2, -⟩ | ⟨j, x, h1, h2, -, -⟩
  · have hf := MapKept.run_findKey (w := w) hd h2
    rw [h1]
    simp [Instr.lookup, run_underlying ht, MapKept.run_getObj_map hb, hck, hf, hz, Result.andThen]
  · have hf := MapKept.run_findKey (w := w) hd h2
    rw [h1]
    simp [Instr.lookup, run_underlying ht, MapKept.run_getObj_map hb, hck, hf, Result.andThen]
/-- 'm[k] = v'. -/
theorem MM.set (h : MM K w b M n) (ht : P.underlying t = some (.map kt e)) (hd : P.underlying kt = some d) (hK : ∀ a, MapKept.IsKey d (K a)) (hI : ∀ a c, K a = K c → a = c) (k : κ) (v : Value) :
    ∃ w', (Instr.mapUpdate t (.map (some b)) (K k) v).run P w = .ok () w' ∧ MM K w' b (updM M k (some v)) (if (M k).isSome then n else n + 1) ∧ w.grownBy w' (some b) := by
  obtain ⟨es, clock, hb, hn, hs, hk, hM, hf⟩ := h.find hK k
  have hck : ∀ c, (Instr.checkKey c 10000 kt (K k)).run P w = .ok () w := fun c => MapKept.run_checkKey hd (hK k) c 9999
  rcases hf with ⟨h1, h2, h3⟩ | ⟨j, x, h1, h2, hj, h3⟩
  · have hf := MapKept.run_findKey (w := w) hd h2
    refine ⟨{ w with heap := w.heap.setIfInBounds b (.map (es.push ⟨K k, v, clock⟩) (clock + 1)) }, ?_, ?_, ?_⟩
    · simp [Instr.mapUpdate, run_underlying ht, MapKept.run_getObj_map hb, hck, hf, MapKept.run_setObj_map _ hb, Result.andThen]
    · refine ⟨_, _, (MapKept.heap_set hb).1, by simp [h1, hn], MapKept.stamped_push hs h3, ?_, ?_⟩
      · intro x hx
        simp only [Array.toList_push, List.mem_append, List.mem_singleton] at hx
        rcases hx with hx | rfl
        · exact hk x hx
        · exact ⟨k, rfl⟩
      · intro q u
        simp only [Array.toList_push, List.mem_append, List.mem_singleton]
        by_cases hq : q = k
        · subst hq
          rw [updM_same]
          constructor
          · intro e; injection e with e; subst e; exact ⟨_, .inr rfl, rfl, rfl⟩
          · rintro ⟨x, hx | rfl, e1, e2⟩
            · exact absurd e1 (h3 x hx)
            · rw [← e2]
        · rw [updM_other _ _ _ _ hq, hM q u]
          constructor
          · rintro ⟨x, hx, e⟩; exact ⟨x, .inl hx, e⟩
          · rintro ⟨x, hx | rfl, e1, e2⟩
            · exact ⟨x, hx, e1, e2⟩
            · exact absurd (hI _ _ e1).symm hq
    · exact ⟨rfl, rfl, rfl, by simp, fun i _ hi => (MapKept.heap_set hb).2 i (fun e => hi (by rw [e]))⟩
  · have hf := MapKept.run_findKey (w := w) hd h2
    have hj' : es[j]? = some x := by simpa using hj
    have hjl : j < es.size := by have := (Array.getElem?_eq_some_iff.1 hj').1; exact this
    have hkey : ∀ e', es[j]? = some e' → ({ e' with key := K k, val := v } : MapEntry).key = e'.key := fun e' he' => by rw [hj'] at he'; cases he'; exact h3.symm
    refine ⟨{ w with heap := w.heap.setIfInBounds b (.map (es.modify j fun e => { e with key := K k, val := v }) clock) }, ?_, ?_, ?_⟩
    · simp [Instr.mapUpdate, run_underlying ht, MapKept.run_getObj_map hb, hck, hf, hj', h3, MapKept.run_keyThatStays (hK k), MapKept.run_setObj_map _ hb, Result.andThen]
    · have hget : ∀ i, (es.modify j fun e => { e with key := K k, val := v }).toList[i]? = if i = j then some { x with key := K k, val := v } else es.toList[i]? := by
        intro i
        rw [Array.getElem?_toList, Array.getElem?_modify]
        by_cases hi : i = j
        · subst hi; simp [hj']
        · rw [if_neg (fun e => hi e.symm), if_neg hi, Array.getElem?_toList]
      refine ⟨_, _, (MapKept.heap_set hb).1, by simp [h1, hn], MapKept.stamped_modify hs _ _ (fun _ _ => rfl) (fun e' _ he' => hkey e' he'), ?_, ?_⟩
      · intro y hy
        obtain ⟨i, hi⟩ := List.mem_iff_getElem?.1 hy
        rw [hget] at hi
        split at hi
        · injection hi with hi; subst hi; exact ⟨k, rfl⟩
        · exact hk y (List.mem_of_getElem? hi)
      · intro q u
        by_cases hq : q = k
        · subst hq
          rw [updM_same]
          constructor
          · intro e; injection e with e; subst e
            exact ⟨_, List.mem_of_getElem? (by rw [hget, if_pos rfl]), rfl, rfl⟩
          · rintro ⟨y, hy, e1, e2⟩
            obtain ⟨i, hi⟩ := List.mem_iff_getElem?.1 hy
            rw [hget] at hi
            split at hi
            · injection hi with hi; subst hi; rw [← e2]
            · rename_i hij
              exact absurd (stamp_inj hs hi hj (by rw [e1, h3])) hij
        · rw [updM_other _ _ _ _ hq, hM q u]
          constructor
          · rintro ⟨y, hy, e1, e2⟩
            obtain ⟨i, hi⟩ := List.mem_iff_getElem?.1 hy
            have hij : i ≠ j := fun e => by subst e; rw [hj] at hi; injection hi with hi; subst hi; exact hq (hI _ _ (e1.symm.trans h3))
            exact ⟨y, List.mem_of_getElem? (i := i) (by rw [hget, if_neg hij]; exact hi), e1, e2⟩
          · rintro ⟨y, hy, e1, e2⟩
            obtain ⟨i, hi⟩ := List.mem_iff_getElem?.1 hy
            rw [hget] at hi
            split at hi
            · injection hi with hi; subst hi; exact absurd (hI _ _ e1).symm hq
            · exact ⟨y, List.mem_of_getElem? hi, e1, e2⟩
    · exact ⟨rfl, rfl, rfl, by simp, fun i _ hi => (MapKept.heap_set hb).2 i (fun e => hi (by rw [e]))⟩
/-- 'delete(m, k)'. -/
theorem MM.del (h : MM K w b M n) (ht : P.underlying t = some (.map kt e)) (hd : P.underlying kt = some d) (hK : ∀ a, MapKept.IsKey d (K a)) (hI : ∀ a c, K a = K c → a = c) (k : κ) (ty : TypeId) :
    ∃ w', (Builtin.delete_ #[t, kt] ty #[.map (some b), K k]).run P w = .ok (.tuple #[]) w' ∧ MM K w' b (updM M k none) (if (M k).isSome then n - 1 else n) ∧ w.grownBy w' (some b) := by
  obtain ⟨es, clock, hb, hn, hs, hk, hM, hf⟩ := h.find hK k
  have hck : ∀ c, (Instr.checkKey c 10000 kt (K k)).run P w = .ok () w := fun c => MapKept.run_checkKey hd (hK k) c 9999
  rcases hf with ⟨h1, h2, h3⟩ | ⟨j, x, h1, h2, hj, h3⟩
  · have hf := MapKept.run_findKey (w := w) hd h2
    refine ⟨{ w with heap := w.heap.setIfInBounds b (.map es clock) }, ?_, ?_, ?_⟩
    · simp [Builtin.delete_, run_underlying ht, MapKept.run_getObj_map hb, hck, hf, MapKept.run_setObj_map _ hb, Result.andThen]
    · refine ⟨_, _, (MapKept.heap_set hb).1, by simp [h1, hn], hs, hk, ?_⟩
      intro q u
      by_cases hq : q = k
      · subst hq; rw [updM_same]
        exact ⟨fun h => by (cases h), fun ⟨y, hy, e1, _⟩ => absurd e1 (h3 y hy)⟩
      · rw [updM_other _ _ _ _ hq, hM q u]
    · exact ⟨rfl, rfl, rfl, by simp, fun i _ hi => (MapKept.heap_set hb).2 i (fun e => hi (by rw [e]))⟩
  · have hf := MapKept.run_findKey (w := w) hd h2
    have hj' : es[j]? = some x := by simpa using hj
    have hjl : j < es.size := (Array.getElem?_eq_some_iff.1 hj').1
    have hel : (es.eraseIdxIfInBounds j).toList = es.toList.eraseIdx j := by
      unfold Array.eraseIdxIfInBounds; rw [dif_pos hjl]; simp
    have hmem : ∀ y, y ∈ es.toList.eraseIdx j ↔ ∃ i, i ≠ j ∧ es.toList[i]? = some y := fun y => List.mem_eraseIdx_iff_getElem?
    refine ⟨{ w with heap := w.heap.setIfInBounds b (.map (es.eraseIdxIfInBounds j) clock) }, ?_, ?_, ?_⟩
    · simp [Builtin.delete_, run_underlying ht, MapKept.run_getObj_map hb, hck, hf, MapKept.run_setObj_map _ hb, Result.andThen]
    · refine ⟨_, _, (MapKept.heap_set hb).1, ?_, MapKept.stamped_erase hs _, ?_, ?_⟩
      · have := congrArg List.length hel
        rw [List.length_eraseIdx, if_pos (by simpa using hjl)] at this
        rw [h1]; simp only [Array.length_toList] at this; simp [this, hn]
      · intro y hy
        rw [hel, hmem] at hy
        obtain ⟨i, _, hi⟩ := hy
        exact hk y (List.mem_of_getElem? hi)
      · intro q u
        rw [hel]
        simp only [hmem]
        by_cases hq : q = k
        · subst hq; rw [updM_same]
          refine ⟨fun h => by (cases h), ?_⟩
          rintro ⟨y, ⟨i, hij, hi⟩, e1, _⟩
          exact absurd (stamp_inj hs hi hj (by rw [e1, h3])) hij
        · rw [updM_other _ _ _ _ hq, hM q u]
          constructor
          · rintro ⟨y, hy, e1, e2⟩
            obtain ⟨i, hi⟩ := List.mem_iff_getElem?.1 hy
            exact ⟨y, ⟨i, fun e => by subst e; rw [hj] at hi; injection hi with hi; subst hi; exact hq (hI _ _ (e1.symm.trans h3)), hi⟩, e1, e2⟩
          · rintro ⟨y, ⟨i, hij, hi⟩, e1, e2⟩
            exact ⟨y, List.mem_of_getElem? hi, e1, e2⟩
    · exact ⟨rfl, rfl, rfl, by simp, fun i _ hi => (MapKept.heap_set hb).2 i (fun e => hi (by rw [e]))⟩
/-- 'len(m)'. -/
theorem MM.len (h : MM K w b M n) (ht : P.underlying t = some (.map kt e)) (ty : TypeId) : (Builtin.len_ #[t] ty #[.map (some b)]).run P w = .ok (.int .i64 n) w := by
  obtain ⟨es, clock, hb, hn, _⟩ := h
  simp [Builtin.len_, run_underlying ht, MapKept.run_getObj_map hb, Result.andThen, hn, goInt]
end
section
variable {κ : Type} {K : κ → Value} {b n : Nat} {M : κ → Option Value} {P : Program} {d : TypeDesc} (w : World) {ops : Array Oper} {rest : List Oper} {o : Oper} {a : Act} {Q : Exit → Act → World → Prop}
theorem wpList_update_mm (hg : o.guard = none) (m x v : Operand) (t : TypeId) (hop : o.op = Op.mapUpdate t m x v) (kt e : TypeId) (ht : P.underlying t = some (.map kt e)) (hd : P.underlying kt = some d) (hK : ∀ a, MapKept.IsKey d (K a)) (hI : ∀ a c, K a = K c → a = c)
    (hm : a.eval m = .map (some b)) (hown : MM K w b M n) (k : κ) (val : Value) (hx : a.eval x = K k) (hv : a.eval v = val)
    (hC : ∀ w', MM K w' b (updM M k (some val)) (if (M k).isSome then n else n + 1) → w.grownBy w' (some b) → wpList P ops Q rest (a.put o.dst undef) w') :
    wpList P ops Q (o :: rest) a w := by
  refine wpList_plain hg fun K' hK' => ?_
  obtain ⟨w', hrun, r1, r2⟩ := hown.set ht hd hK hI k val
  unfold Oper.wp
  simp [execOp, hop, hm, hx, hv, hrun, Result.andThen]
  exact hK' _ _ (hC w' r1 r2)
theorem wpList_delete_mm (hg : o.guard = none) (m x : Operand) (t kt : TypeId) (hop : o.op = Op.call { callee := Callee.builtin Builtin.delete, args := #[m, x], argTypes := #[t, kt] }) (e : TypeId) (ht : P.underlying t = some (.map kt e)) (hd : P.underlying kt = some d) (hK : ∀ a, MapKept.IsKey d (K a)) (hI : ∀ a c, K a = K c → a = c)
    (hm : a.eval m = .map (some b)) (hown : MM K w b M n) (k : κ) (hx : a.eval x = K k)
    (hC : ∀ w', MM K w' b (updM M k none) (if (M k).isSome then n - 1 else n) → w.grownBy w' (some b) → wpList P ops Q rest (a.put o.dst (.tuple #[])) w') :
    wpList P ops Q (o :: rest) a w := by
  refine wpList_plain hg fun K' hK' => ?_
  obtain ⟨w', hrun, r1, r2⟩ := hown.del ht hd hK hI k o.type
  unfold Oper.wp
  simp [execOp, hop, resolve, invoke, builtin, hm, hx, hrun, Result.andThen]
  exact hK' _ _ (hC w' r1 r2)
theorem wpList_len_mm (hg : o.guard = none) (m : Operand) (t : TypeId) (hop : o.op = Op.call { callee := Callee.builtin Builtin.len, args := #[m], argTypes := #[t] }) (kt e : TypeId) (ht : P.underlying t = some (.map kt e))
    (hm : a.eval m = .map (some b)) (hown : MM K w b M n) (hC : wpList P ops Q rest (a.put o.dst (.int .i64 n)) w) :
    wpList P ops Q (o :: rest) a w := by
  refine wpList_plain hg fun K' hK' => ?_
  unfold Oper.wp
  simp [execOp, hop, resolve, invoke, builtin, hm, hown.len ht o.type, Result.andThen]
  exact hK' _ _ hC
end
theorem key_str (a : ByteArray) : MapKept.IsKey .string (.string a) := by simp [MapKept.IsKey]
theorem str_inj (a c : ByteArray) (h : Value.string a = .string c) : a = c := by injection h
end Go.Proofs.YtkdknfedieeenaaGreatDoor
namespace Go.Proofs.YtkdknfedieeenaaGreatDoor
open Go.RowKit
set_option linter.unusedVariables false
/-- What a map asks of its keys. -/
structure KeyFit {κ : Type} (P : Program) (kt : TypeId) (K : κ → Value) : Prop where
  inj : ∀ a c, K a = K c → a = c
  check : ∀ (w : World) em a, (Instr.checkKey em 10000 kt (K a)).run P w = .ok () w
  stays : ∀ (w : World) a, (Instr.keyThatStays (K a) (K a)).run P w = .ok (K a) w
  find : ∀ (w : World) (es : List MapEntry) a, (∀ e ∈ es, ∃ k, e.key = K k) → ((Instr.findKey kt (K a) es).run P w = .ok none w ∧ ∀ e ∈ es, e.key ≠ K a) ∨ ∃ j x, (Instr.findKey kt (K a) es).run P w = .ok (some (j, x.val)) w ∧ es[j]? = some x ∧ x.key = K a
theorem find_asking {κ : Type} {P : Program} {kt : TypeId} {K : κ → Value} (heq : ∀ (w : World) a c, ∃ bb : Bool, (Op.equal kt (K a) (K c)).run P w = .ok bb w ∧ (bb = true ↔ K c = K a)) (w : World) (a : κ) : ∀ (es : List MapEntry) (i : Nat), (∀ e ∈ es, ∃ k, e.key = K k) →
    ((Instr.findAsking kt (K a) es i).run P w = .ok none w ∧ ∀ e ∈ es, e.key ≠ K a) ∨ ∃ j x, (Instr.findAsking kt (K a) es i).run P w = .ok (some (i + j, x.val)) w ∧ es[j]? = some x ∧ x.key = K a
  | [], i, _ => .inl ⟨by simp [Instr.findAsking], by simp⟩
  | e :: es, i, h => by
    obtain ⟨c, hc⟩ := h e (by simp)
    obtain ⟨bb, hr, hbb⟩ := heq w a c
    cases bb with
    | true =>
      right
      refine ⟨0, e, ?_, rfl, by rw [hc]; exact hbb.1 rfl⟩
      simp [Instr.findAsking, hc, hr, Result.andThen]
    | false =>
      have hne : e.key ≠ K a := fun h' => by rw [hc] at h'; exact absurd (hbb.2 h') (by simp)
      rcases find_asking heq w a es (i + 1) (fun x hx => h x (by simp [hx])) with ⟨h1, h2⟩ | ⟨j, x, h1, h2, h3⟩
      · left
        refine ⟨by simp [Instr.findAsking, hc, hr, Result.andThen, h1], ?_⟩
        intro x hx
        rcases List.mem_cons.1 hx with rfl | hx
        · exact hne
        · exact h2 x hx
      · right
        refine ⟨j + 1, x, ?_, by simpa using h2, h3⟩
        simp [Instr.findAsking, hc, hr, Result.andThen, h1]
        omega
theorem find_keys {κ : Type} {P : Program} {kt : TypeId} {K : κ → Value} {d : TypeDesc} (hd : P.underlying kt = some d) (hnow : ∀ a c, Instr.sameNow d (K a) (K c) = none) (heq : ∀ (w : World) a c, ∃ bb : Bool, (Op.equal kt (K a) (K c)).run P w = .ok bb w ∧ (bb = true ↔ K c = K a))
    (w : World) (es : List MapEntry) (a : κ) (h : ∀ e ∈ es, ∃ k, e.key = K k) :
    ((Instr.findKey kt (K a) es).run P w = .ok none w ∧ ∀ e ∈ es, e.key ≠ K a) ∨ ∃ j x, (Instr.findKey kt (K a) es).run P w = .ok (some (j, x.val)) w ∧ es[j]? = some x ∧ x.key = K a := by
  rcases es with _ | ⟨e, es⟩
  · exact .inl ⟨by simp [Instr.findKey, run_underlying hd, Instr.findNow, Result.andThen], by simp⟩
  · obtain ⟨c, hc⟩ := h e (by simp)
    have hn : Instr.findNow d (K a) (e :: es) 0 = none := by simp [Instr.findNow, hc, hnow]
    have he : (Instr.findKey kt (K a) (e :: es)).run P w = (Instr.findAsking kt (K a) (e :: es) 0).run P w := by simp [Instr.findKey, run_underlying hd, hn, Result.andThen]
    rw [he]
    rcases find_asking heq w a (e :: es) 0 h with h1 | ⟨j, x, h1, h2⟩
    · exact .inl h1
    · exact .inr ⟨j, x, by rw [h1, Nat.zero_add], h2⟩
section
variable {κ : Type} {K : κ → Value} {w w' : World} {b n : Nat} {M : κ → Option Value} {P : Program} {t kt e : TypeId} {d : TypeDesc}
theorem MM.findK (h : MM K w b M n) (KF : KeyFit P kt K) (k : κ) : ∃ es clock, w.heap[b]? = some (.map es clock) ∧ es.size = n ∧ MapKept.Stamped es clock ∧ (∀ e ∈ es.toList, ∃ k, e.key = K k) ∧ (∀ k v, M k = some v ↔ ∃ e ∈ es.toList, e.key = K k ∧ e.val = v) ∧
    ((M k = none ∧ (Instr.findKey kt (K k) es.toList).run P w = .ok none w ∧ ∀ x ∈ es.toList, x.key ≠ K k) ∨ ∃ j x, M k = some x.val ∧ (Instr.findKey kt (K k) es.toList).run P w = .ok (some (j, x.val)) w ∧ es.toList[j]? = some x ∧ x.key = K k) := by
  obtain ⟨es, clock, hb, hn, hs, hk, hM⟩ := h
  refine ⟨es, clock, hb, hn, hs, hk, hM, ?_⟩
  rcases KF.find w es.toList k hk with ⟨h1, h2⟩ | ⟨j, x, h1, h2, h3⟩
  · left
    refine ⟨?_, h1, h2⟩
    cases hm : M k with
    | none => rfl
    | some v => obtain ⟨x, hx, e1, _⟩ := (hM k v).1 hm; exact absurd e1 (h2 x hx)
  · right
    exact ⟨j, x, (hM k _).2 ⟨x, List.mem_of_getElem? h2, h3, rfl⟩, h1, h2, h3⟩
/-- 'v, ok := m[k]'. -/
theorem MM.lookupK (h : MM K w b M n) (ht : P.underlying t = some (.map kt e)) (KF : KeyFit P kt K) {z : Value} (hz : (zeroValue e).run P w = .ok z w) (k : κ) :
    (Instr.lookup t (.map (some b)) (K k) true).run P w = .ok (.tuple #[(M k).getD z, .bool (M k).isSome]) w := by
  obtain ⟨es, clock, hb, hn, hs, hk, hM, hf⟩ := h.findK KF k
  have hck : ∀ c, (Instr.checkKey c 10000 kt (K k)).run P w = .ok () w := fun c => KF.check w c k
  rcases hf with ⟨h1, h2, -⟩ | ⟨j, x, h1, h2, -, -⟩
  · have hf := h2
    rw [h1]
    simp [Instr.lookup, run_underlying ht, MapKept.run_getObj_map hb, hck, hf, hz, Result.andThen]
  · have hf := h2
    rw [h1]
    simp [Instr.lookup, run_underlying ht, MapKept.run_getObj_map hb, hck, hf, Result.andThen]
/-- 'm[k]'. -/
theorem MM.lookup1K (h : MM K w b M n) (ht : P.underlying t = some (.map kt e)) (KF : KeyFit P kt K) {z : Value} (hz : (zeroValue e).run P w = .ok z w) (k : κ) :
    (Instr.lookup t (.map (some b)) (K k) false).run P w = .ok ((M k).getD z) w := by
  obtain ⟨es, clock, hb, hn, hs, hk, hM, hf⟩ := h.findK KF k
  have hck : ∀ c, (Instr.checkKey c 10000 kt (K k)).run P w = .ok () w := fun c => KF.check w c k
  rcases hf with ⟨h1, h2, -⟩ | ⟨j, x, h1, h2, -, -⟩
  · have hf := h2
    rw [h1]
    simp [Instr.lookup, run_underlying ht, MapKept.run_getObj_map hb, hck, hf, hz, Result.andThen]
  · have hf := h2
    rw [h1]
    simp [Instr.lookup, run_underlying ht, MapKept.run_getObj_map hb, hck, hf, Result.andThen]
/-- 'm[k] = v'. -/
theorem MM.setK (h : MM K w b M n) (ht : P.underlying t = some (.map kt e)) (KF : KeyFit P kt K) (k : κ) (v : Value) :
    ∃ w', (Instr.mapUpdate t (.map (some b)) (K k) v).run P w = .ok () w' ∧ MM K w' b (updM M k (some v)) (if (M k).isSome then n else n + 1) ∧ w.grownBy w' (some b) := by
  obtain ⟨es, clock, hb, hn, hs, hk, hM, hf⟩ := h.findK KF k
  have hck : ∀ c, (Instr.checkKey c 10000 kt (K k)).run P w = .ok () w := fun c => KF.check w c k
  rcases hf with ⟨h1, h2, h3⟩ | ⟨j, x, h1, h2, hj, h3⟩
  · have hf := h2
    refine ⟨{ w with heap := w.heap.setIfInBounds b (.map (es.push ⟨K k, v, clock⟩) (clock + 1)) }, ?_, ?_, ?_⟩
    · simp [Instr.mapUpdate, run_underlying ht, MapKept.run_getObj_map hb, hck, hf, MapKept.run_setObj_map _ hb, Result.andThen]
    · refine ⟨_, _, (MapKept.heap_set hb).1, by simp [h1, hn], MapKept.stamped_push hs h3, ?_, ?_⟩
      · intro x hx
        simp only [Array.toList_push, List.mem_append, List.mem_singleton] at hx
        rcases hx with hx | rfl
        · exact hk x hx
        · exact ⟨k, rfl⟩
      · intro q u
        simp only [Array.toList_push, List.mem_append, List.mem_singleton]
        by_cases hq : q = k
        · subst hq
          rw [updM_same]
          constructor
          · intro e; injection e with e; subst e; exact ⟨_, .inr rfl, rfl, rfl⟩
          · rintro ⟨x, hx | rfl, e1, e2⟩
            · exact absurd e1 (h3 x hx)
            · rw [← e2]
        · rw [updM_other _ _ _ _ hq, hM q u]
          constructor
          · rintro ⟨x, hx, e⟩; exact ⟨x, .inl hx, e⟩
          · rintro ⟨x, hx | rfl, e1, e2⟩
            · exact ⟨x, hx, e1, e2⟩
            · exact absurd (KF.inj _ _ e1).symm hq
    · exact ⟨rfl, rfl, rfl, by simp, fun i _ hi => (MapKept.heap_set hb).2 i (fun e => hi (by rw [e]))⟩
  · have hf := h2
    have hj' : es[j]? = some x := by simpa using hj
    have hjl : j < es.size := by have := (Array.getElem?_eq_some_iff.1 hj').1; exact this
    have hkey : ∀ e', es[j]? = some e' → ({ e' with key := K k, val := v } : MapEntry).key = e'.key := fun e' he' => by rw [hj'] at he'; cases he'; exact h3.symm
    refine ⟨{ w with heap := w.heap.setIfInBounds b (.map (es.modify j fun e => { e with key := K k, val := v }) clock) }, ?_, ?_, ?_⟩
    · simp [Instr.mapUpdate, run_underlying ht, MapKept.run_getObj_map hb, hck, hf, hj', h3, KF.stays w k, MapKept.run_setObj_map _ hb, Result.andThen]
    · have hget : ∀ i, (es.modify j fun e => { e with key := K k, val := v }).toList[i]? = if i = j then some { x with key := K k, val := v } else es.toList[i]? := by
        intro i
        rw [Array.getElem?_toList, Array.getElem?_modify]
        by_cases hi : i = j
        · subst hi; simp [hj']
        · rw [if_neg (fun e => hi e.symm), if_neg hi, Array.getElem?_toList]
      refine ⟨_, _, (MapKept.heap_set hb).1, by simp [h1, hn], MapKept.stamped_modify hs _ _ (fun _ _ => rfl) (fun e' _ he' => hkey e' he'), ?_, ?_⟩
      · intro y hy
        obtain ⟨i, hi⟩ := List.mem_iff_getElem?.1 hy
        rw [hget] at hi
        split at hi
        · injection hi with hi; subst hi; exact ⟨k, rfl⟩
        · exact hk y (List.mem_of_getElem? hi)
      · intro q u
        by_cases hq : q = k
        · subst hq
          rw [updM_same]
          constructor
          · intro e; injection e with e; subst e
            exact ⟨_, List.mem_of_getElem? (by rw [hget, if_pos rfl]), rfl, rfl⟩
          · rintro ⟨y, hy, e1, e2⟩
            obtain ⟨i, hi⟩ := List.mem_iff_getElem?.1 hy
            rw [hget] at hi
            split at hi
            · injection hi with hi; subst hi; rw [← e2]
            · rename_i hij
              exact absurd (stamp_inj hs hi hj (by rw [e1, h3])) hij
        · rw [updM_other _ _ _ _ hq, hM q u]
          constructor
          · rintro ⟨y, hy, e1, e2⟩
            obtain ⟨i, hi⟩ := List.mem_iff_getElem?.1 hy
            have hij : i ≠ j := fun e => by subst e; rw [hj] at hi; injection hi with hi; subst hi; exact hq (KF.inj _ _ (e1.symm.trans h3))
            exact ⟨y, List.mem_of_getElem? (i := i) (by rw [hget, if_neg hij]; exact hi), e1, e2⟩
          · rintro ⟨y, hy, e1, e2⟩
            obtain ⟨i, hi⟩ := List.mem_iff_getElem?.1 hy
            rw [hget] at hi
            split at hi
            · injection hi with hi; subst hi; exact absurd (KF.inj _ _ e1).symm hq
            · exact ⟨y, List.mem_of_getElem? hi, e1, e2⟩
    · exact ⟨rfl, rfl, rfl, by simp, fun i _ hi => (MapKept.heap_set hb).2 i (fun e => hi (by rw [e]))⟩
end
section
variable {κ : Type} {K : κ → Value} {b n : Nat} {M : κ → Option Value} {P : Program} {d : TypeDesc} (w : World) {ops : Array Oper} {rest : List Oper} {o : Oper} {a : Act} {Q : Exit → Act → World → Prop}
theorem wpList_update_mk (hg : o.guard = none) (m x v : Operand) (t : TypeId) (hop : o.op = Op.mapUpdate t m x v) (kt e : TypeId) (ht : P.underlying t = some (.map kt e)) (KF : KeyFit P kt K)
    (hm : a.eval m = .map (some b)) (hown : MM K w b M n) (k : κ) (val : Value) (hx : a.eval x = K k) (hv : a.eval v = val)
    (hC : ∀ w', MM K w' b (updM M k (some val)) (if (M k).isSome then n else n + 1) → w.grownBy w' (some b) → wpList P ops Q rest (a.put o.dst undef) w') :
    wpList P ops Q (o :: rest) a w := by
  refine wpList_plain hg fun K' hK' => ?_
  obtain ⟨w', hrun, r1, r2⟩ := hown.setK ht KF k val
  unfold Oper.wp
  simp [execOp, hop, hm, hx, hv, hrun, Result.andThen]
  exact hK' _ _ (hC w' r1 r2)
end
end Go.Proofs.YtkdknfedieeenaaGreatDoor
namespace Go.Proofs.YtkdknfedieeenaaGreatDoor
open Go.RowKit
set_option linter.unusedVariables false
theorem least_num {p : Nat → Prop} (h : ∃ n, p n) : ∃ k, p k ∧ ∀ m, p m → k ≤ m := by
  obtain ⟨n, hn⟩ := h
  induction n using Nat.strongRecOn with
  | _ n ih =>
    by_cases hx : ∃ m, p m ∧ m < n
    · obtain ⟨m, hm, hlt⟩ := hx
      exact ih m hlt hm
    · exact ⟨n, hn, fun m hm => Nat.le_of_not_lt fun hlt => hx ⟨m, hm, hlt⟩⟩
open Classical in
theorem wp_scope_count {P : Program} {a : Act} {w : World} {Q : Exit → Act → World → Prop} {c rest : Code} (l : Nat) (J : Nat → Act → World → Prop) (hf : findLabel c l = some rest)
    (first : c.wp P (Exit.jump l (fun a w => ∃ n, J n a w) Q) a w)
    (pass : ∀ n a w, J n a w → rest.wp P (Exit.jump l (fun a' w' => ∃ m, m < n ∧ J m a' w') Q) a w) : (Code.scope c).wp P Q a w := by
  refine wp_scope_jumps l (fun a w => ∃ n, J n a w) (fun a w => if h : ∃ n, J n a w then Classical.choose (least_num h) else 0) hf first ?_
  intro a w hJ
  have hs := Classical.choose_spec (least_num hJ)
  simp only [dif_pos hJ]
  generalize Classical.choose (least_num hJ) = k at hs
  refine Code.wp_mono ?_ (pass k a w hs.1)
  intro e a' w' h
  cases e with
  | goto l' =>
    obtain ⟨h1, m, h2, h3⟩ := h
    have hx : ∃ n, J n a' w' := ⟨m, h3⟩
    refine ⟨h1, hx, ?_⟩
    rw [dif_pos hx]
    exact Nat.lt_of_le_of_lt ((Classical.choose_spec (least_num hx)).2 m h3) h2
  | normal => exact h
  | exit id => exact h
  | ret => exact h
  | panic ch => exact h
  | outgrown => exact h
theorem jump_back {l : Nat} {J : Act → World → Prop} {Q : Exit → Act → World → Prop} {a : Act} {w : World} : Exit.jump l J Q .ret a w = Q .ret a w := rfl
end Go.Proofs.YtkdknfedieeenaaGreatDoor
namespace Go.Proofs.YtkdknfedieeenaaGreatDoor
open Go.RowKit
set_option linter.unusedVariables false
structure Slot where
  st : Nat
  key : ByteArray
  val : Int
def noSlot : Slot := ⟨0, ⟨#[]⟩, 0⟩
def sl (ss : List Slot) (i : Nat) : Slot := ss.getD i noSlot
theorem sl_get {ss : List Slot} {i : Nat} (h : i < ss.length) : sl ss i = ss[i] := by
  simp [sl, List.getD_eq_getElem?_getD, List.getElem?_eq_getElem h]
theorem sl_past {ss : List Slot} {i : Nat} (h : ss.length ≤ i) : sl ss i = noSlot := by
  simp [sl, List.getD_eq_getElem?_getD, List.getElem?_eq_none h]
theorem sl_set (ss : List Slot) (i j : Nat) (s : Slot) (hi : i < ss.length) : sl (ss.set i s) j = if j = i then s else sl ss j := by
  simp only [sl, List.getD_eq_getElem?_getD, List.getElem?_set]
  by_cases h : j = i
  · subst h; simp [hi]
  · simp [h, Ne.symm h]
/-- The slot holds this word's number. -/
def Live (ss : List Slot) (i : Nat) (k : ByteArray) : Prop := i < ss.length ∧ (sl ss i).st = 1 ∧ (sl ss i).key = k
/-- The search for a word ends behind so many steps: at its slot, or at an empty one. -/
structure Ends (H : ByteArray → Nat) (ss : List Slot) (k : ByteArray) (j : Nat) (b : Bool) : Prop where
  lt : j < ss.length
  ahead : ∀ i, i < j → (sl ss ((H k + i) % ss.length)).st ≠ 0 ∧ ¬ ((sl ss ((H k + i) % ss.length)).st = 1 ∧ (sl ss ((H k + i) % ss.length)).key = k)
  yes : b = true → (sl ss ((H k + j) % ss.length)).st = 1 ∧ (sl ss ((H k + j) % ss.length)).key = k
  no : b = false → (sl ss ((H k + j) % ss.length)).st = 0
structure TOk (H : ByteArray → Nat) (ss : List Slot) : Prop where
  reach : ∀ i, i < ss.length → (sl ss i).st = 1 → ∃ j, j < ss.length ∧ (H (sl ss i).key + j) % ss.length = i ∧ ∀ q, q < j → (sl ss ((H (sl ss i).key + q) % ss.length)).st ≠ 0
  uniq : ∀ i i', i < ss.length → i' < ss.length → (sl ss i).st = 1 → (sl ss i').st = 1 → (sl ss i).key = (sl ss i').key → i = i'
theorem least_ex {p : Nat → Prop} (h : ∃ n, p n) : ∃ k, p k ∧ ∀ m, m < k → ¬ p m := by
  obtain ⟨n, hn⟩ := h
  induction n using Nat.strongRecOn with
  | _ n ih =>
    by_cases hx : ∃ m, p m ∧ m < n
    · obtain ⟨m, hm, hlt⟩ := hx
      exact ih m hlt hm
    · exact ⟨n, hn, fun m hm hp => hx ⟨m, hp, hm⟩⟩
theorem wrap_to (h n i : Nat) (hi : i < n) : ∃ j, j < n ∧ (h + j) % n = i := by
  have hn : 0 < n := by omega
  have hm := Nat.mod_lt h hn
  by_cases hc : h % n ≤ i
  · refine ⟨i - h % n, by omega, ?_⟩
    rw [Nat.add_mod, Nat.mod_eq_of_lt (a := i - h % n) (by omega), Nat.mod_eq_of_lt (by omega)]; omega
  · refine ⟨i + n - h % n, by omega, ?_⟩
    rw [Nat.add_mod, Nat.mod_eq_of_lt (a := i + n - h % n) (by omega), show h % n + (i + n - h % n) = i + n by omega, Nat.add_mod_right, Nat.mod_eq_of_lt hi]
theorem ends_ex {H : ByteArray → Nat} {ss : List Slot} (h : TOk H ss) (he : ∃ i, i < ss.length ∧ (sl ss i).st = 0) (k : ByteArray) :
    ∃ j b, Ends H ss k j b ∧ (b = false → ∀ i, ¬ Live ss i k) := by
  obtain ⟨i0, hi0, hs0⟩ := he
  obtain ⟨j0, hj0, e0⟩ := wrap_to (H k) ss.length i0 hi0
  obtain ⟨j, hj, hm⟩ := least_ex (p := fun j => (sl ss ((H k + j) % ss.length)).st = 0 ∨ ((sl ss ((H k + j) % ss.length)).st = 1 ∧ (sl ss ((H k + j) % ss.length)).key = k)) ⟨j0, .inl (by rw [e0]; exact hs0)⟩
  have hjl : j ≤ j0 := by
    rcases Nat.lt_or_ge j0 j with h1 | h1
    · exact absurd (.inl (by rw [e0]; exact hs0)) (hm j0 h1)
    · exact h1
  have hah : ∀ i, i < j → (sl ss ((H k + i) % ss.length)).st ≠ 0 ∧ ¬ ((sl ss ((H k + i) % ss.length)).st = 1 ∧ (sl ss ((H k + i) % ss.length)).key = k) :=
    fun i hi => ⟨fun e => hm i hi (.inl e), fun e => hm i hi (.inr e)⟩
  rcases hj with hj | hj
  · refine ⟨j, false, ⟨by omega, hah, (fun e => by cases e), fun _ => hj⟩, fun _ i hl => ?_⟩
    obtain ⟨hil, hl1, hl2⟩ := hl
    obtain ⟨j2, hj2, e2, hr⟩ := h.reach i hil hl1
    rw [hl2] at e2 hr
    rcases Nat.lt_trichotomy j j2 with h1 | h1 | h1
    · exact hr j h1 hj
    · subst h1; rw [e2] at hj; omega
    · exact hm j2 h1 (.inr (by rw [e2]; exact ⟨hl1, hl2⟩))
  · exact ⟨j, true, ⟨by omega, hah, fun _ => hj, fun e => by cases e⟩, fun e => by cases e⟩
/-- How many slots are live; how many are not empty. -/
def lives (ss : List Slot) : Nat := ss.countP fun s => s.st == 1
def fulls (ss : List Slot) : Nat := ss.countP fun s => s.st != 0
theorem lives_le (ss : List Slot) : lives ss ≤ fulls ss := by
  unfold lives fulls
  refine List.countP_mono_left ?_
  intro s _ h
  simp at h ⊢; omega
theorem fulls_le (ss : List Slot) : fulls ss ≤ ss.length := List.countP_le_length
theorem empty_ex (ss : List Slot) (h : fulls ss < ss.length) : ∃ i, i < ss.length ∧ (sl ss i).st = 0 := by
  refine Classical.byContradiction fun hc => ?_
  have : fulls ss = ss.length := by
    unfold fulls
    rw [List.countP_eq_length]
    intro s hs
    obtain ⟨i, hi, e⟩ := List.getElem_of_mem hs
    have := fun h0 => hc ⟨i, hi, by rw [sl_get hi, e]; exact h0⟩
    simpa using this
  omega
theorem lives_set (ss : List Slot) (i : Nat) (s : Slot) (hi : i < ss.length) : lives (ss.set i s) + (if (sl ss i).st = 1 then 1 else 0) = lives ss + (if s.st = 1 then 1 else 0) := by
  have h := List.countP_set (p := fun s : Slot => s.st == 1) (a := s) hi
  have hp : (if (sl ss i).st = 1 then 1 else 0) ≤ lives ss := by
    split
    · rename_i h1
      refine List.countP_pos_iff.2 ⟨_, List.getElem_mem hi, ?_⟩
      rw [sl_get hi] at h1; simp [h1]
    · omega
  rw [sl_get hi] at hp ⊢
  unfold lives at *
  rw [h]
  simp only [beq_iff_eq] at *
  omega
theorem fulls_set (ss : List Slot) (i : Nat) (s : Slot) (hi : i < ss.length) : fulls (ss.set i s) + (if (sl ss i).st ≠ 0 then 1 else 0) = fulls ss + (if s.st ≠ 0 then 1 else 0) := by
  have h := List.countP_set (p := fun s : Slot => s.st != 0) (a := s) hi
  have hp : (if (sl ss i).st ≠ 0 then 1 else 0) ≤ fulls ss := by
    split
    · rename_i h1
      refine List.countP_pos_iff.2 ⟨_, List.getElem_mem hi, ?_⟩
      rw [sl_get hi] at h1; simp [h1]
    · omega
  rw [sl_get hi] at hp ⊢
  unfold fulls at *
  rw [h]
  simp only [bne_iff_ne] at *
  omega
/-- The words of the table and their numbers. -/
def Rep (ss : List Slot) (M : ByteArray → Option Int) : Prop := ∀ k v, M k = some v ↔ ∃ i, Live ss i k ∧ (sl ss i).val = v
def upd (M : ByteArray → Option Int) (k : ByteArray) (v : Option Int) : ByteArray → Option Int := fun q => if q = k then v else M q
theorem upd_same (M : ByteArray → Option Int) (k : ByteArray) (v : Option Int) : upd M k v k = v := by simp [upd]
theorem upd_other (M : ByteArray → Option Int) (k q : ByteArray) (v : Option Int) (h : q ≠ k) : upd M k v q = M q := by simp [upd, h]
structure TI (H : ByteArray → Nat) (ss : List Slot) (M : ByteArray → Option Int) : Prop where
  ok : TOk H ss
  rep : Rep ss M
  st2 : ∀ i, (sl ss i).st ≤ 2
  sm : ∀ i, (sl ss i).key.size ≤ maxLen
/-- A table without words. -/
theorem TI.empty (H : ByteArray → Nat) (n : Nat) : TI H (List.replicate n noSlot) (fun _ => none) := by
  have hs : ∀ i, sl (List.replicate n noSlot) i = noSlot := by
    intro i
    by_cases h : i < n
    · rw [sl_get (by simpa using h)]; simp
    · exact sl_past (by simp; omega)
  refine ⟨⟨fun i _ h => ?_, fun i i' _ _ h => ?_⟩, fun k v => ⟨fun h => (by cases h), fun ⟨i, ⟨_, h, _⟩, _⟩ => ?_⟩, fun i => ?_, fun i => ?_⟩
  all_goals rw [hs i] at *
  all_goals simp [noSlot, ByteArray.size] at *
theorem lives_empty (n : Nat) : lives (List.replicate n noSlot) = 0 := by
  unfold lives; rw [List.countP_replicate]; simp [noSlot]
theorem fulls_empty (n : Nat) : fulls (List.replicate n noSlot) = 0 := by
  unfold fulls; rw [List.countP_replicate]; simp [noSlot]
section
variable {H : ByteArray → Nat} {ss : List Slot} {M : ByteArray → Option Int} {k : ByteArray} {j : Nat}
theorem mod_in {h n j : Nat} (hj : j < n) : (h + j) % n < n := Nat.mod_lt _ (by omega)
theorem Ends.live (e : Ends H ss k j true) : Live ss ((H k + j) % ss.length) k := ⟨mod_in e.lt, (e.yes rfl).1, (e.yes rfl).2⟩
theorem TI.found (h : TI H ss M) (e : Ends H ss k j true) : M k = some (sl ss ((H k + j) % ss.length)).val := (h.rep k _).2 ⟨_, e.live, rfl⟩
theorem TI.lost (h : TI H ss M) (e : ∀ i, ¬ Live ss i k) : M k = none := by
  cases hm : M k with
  | none => rfl
  | some v => obtain ⟨i, hi, _⟩ := (h.rep k v).1 hm; exact absurd hi (e i)
theorem live_set {i q : Nat} {s : Slot} (hi : i < ss.length) : Live (ss.set i s) q k ↔ if q = i then s.st = 1 ∧ s.key = k else Live ss q k := by
  unfold Live
  rw [sl_set _ _ _ _ hi]
  by_cases h : q = i
  · subst h; simp [hi]
  · simp [h]
/-- Another number of a word that is there. -/
theorem TI.put_old (h : TI H ss M) (e : Ends H ss k j true) (v : Int) (hk : k.size ≤ maxLen) : TI H (ss.set ((H k + j) % ss.length) ⟨1, k, v⟩) (upd M k (some v)) := by
  have hi := mod_in (h := H k) e.lt
  obtain ⟨y1, y2⟩ := e.yes rfl
  generalize hI : (H k + j) % ss.length = I at *
  have hst : ∀ q, (sl (ss.set I ⟨1, k, v⟩) q).st = (sl ss q).st := by
    intro q; rw [sl_set _ _ _ _ hi]; split
    · rename_i h1; subst h1; rw [y1]
    · rfl
  have hke : ∀ q, (sl (ss.set I ⟨1, k, v⟩) q).key = (sl ss q).key := by
    intro q; rw [sl_set _ _ _ _ hi]; split
    · rename_i h1; subst h1; rw [y2]
    · rfl
  refine ⟨⟨?_, ?_⟩, ?_, ?_, ?_⟩
  · intro i hi' h1
    simp only [List.length_set, hst, hke] at *
    exact h.ok.reach i hi' h1
  · intro i i' a b c d f
    simp only [List.length_set, hst, hke] at *
    exact h.ok.uniq i i' a b c d f
  · intro q x
    have hr := h.rep q x
    by_cases hq : q = k
    · subst hq
      rw [upd_same]
      constructor
      · intro hx; injection hx with hx; subst hx
        exact ⟨I, ⟨by simpa using hi, by rw [sl_set _ _ _ _ hi, if_pos rfl], by rw [sl_set _ _ _ _ hi, if_pos rfl]⟩, by rw [sl_set _ _ _ _ hi, if_pos rfl]⟩
      · rintro ⟨i, ⟨a, b, c⟩, d⟩
        rw [hst] at b; rw [hke] at c
        have : i = I := h.ok.uniq i I (by simpa using a) hi b y1 (by rw [c, y2])
        subst this
        rw [sl_set _ _ _ _ hi, if_pos rfl] at d
        simpa using d
    · rw [upd_other _ _ _ _ hq, hr]
      constructor
      · rintro ⟨i, ⟨a, b, c⟩, d⟩
        have hne : i ≠ I := fun e => hq (by rw [← c, e, y2])
        exact ⟨i, ⟨by simpa using a, by rw [hst]; exact b, by rw [hke]; exact c⟩, by rw [sl_set _ _ _ _ hi, if_neg hne]; exact d⟩
      · rintro ⟨i, ⟨a, b, c⟩, d⟩
        rw [hst] at b; rw [hke] at c
        have hne : i ≠ I := fun e => hq (by rw [← c, e, y2])
        rw [sl_set _ _ _ _ hi, if_neg hne] at d
        exact ⟨i, ⟨by simpa using a, b, c⟩, d⟩
  · intro q; rw [hst]; exact h.st2 q
  · intro q; rw [hke]; exact h.sm q
/-- A new word in the empty slot in which the search for it ends. -/
theorem TI.put_new (h : TI H ss M) (e : Ends H ss k j false) (hm : M k = none) (v : Int) (hk : k.size ≤ maxLen) : TI H (ss.set ((H k + j) % ss.length) ⟨1, k, v⟩) (upd M k (some v)) := by
  have hi := mod_in (h := H k) e.lt
  have y0 := e.no rfl
  have hahead := e.ahead
  have hlt := e.lt
  generalize hI : (H k + j) % ss.length = I at *
  have hno : ∀ i, ¬ Live ss i k := fun i hl => by
    have := (h.rep k _).2 ⟨i, hl, rfl⟩
    rw [hm] at this; cases this
  have hst : ∀ q, q ≠ I → sl (ss.set I ⟨1, k, v⟩) q = sl ss q := by
    intro q hq; rw [sl_set _ _ _ _ hi, if_neg hq]
  have hsI : sl (ss.set I ⟨1, k, v⟩) I = ⟨1, k, v⟩ := by rw [sl_set _ _ _ _ hi, if_pos rfl]
  have hne0 : ∀ q, (sl ss q).st ≠ 0 → (sl (ss.set I ⟨1, k, v⟩) q).st ≠ 0 := by
    intro q hq
    by_cases hqI : q = I
    · subst hqI; exact absurd y0 hq
    · rw [hst q hqI]; exact hq
  refine ⟨⟨?_, ?_⟩, ?_, ?_, ?_⟩
  · intro i hi' h1
    simp only [List.length_set] at *
    by_cases hiI : i = I
    · subst hiI
      rw [hsI]
      exact ⟨j, hlt, hI, fun q hq => hne0 _ (hahead q hq).1⟩
    · rw [hst i hiI] at h1 ⊢
      obtain ⟨j2, a, b, c⟩ := h.ok.reach i hi' h1
      exact ⟨j2, a, b, fun q hq => hne0 _ (c q hq)⟩
  · intro i i' a b c d f
    simp only [List.length_set] at *
    by_cases h1 : i = I <;> by_cases h2 : i' = I
    · rw [h1, h2]
    · subst h1; rw [hsI] at f; rw [hst i' h2] at d f
      exact absurd ⟨b, d, f.symm⟩ (hno i')
    · subst h2; rw [hsI] at f; rw [hst i h1] at c f
      exact absurd ⟨a, c, f⟩ (hno i)
    · rw [hst i h1] at c f; rw [hst i' h2] at d f
      exact h.ok.uniq i i' a b c d f
  · intro q x
    have hr := h.rep q x
    by_cases hq : q = k
    · subst hq
      rw [upd_same]
      constructor
      · intro hx; injection hx with hx; subst hx
        exact ⟨I, ⟨by simpa using hi, by rw [hsI], by rw [hsI]⟩, by rw [hsI]⟩
      · rintro ⟨i, ⟨a, b, c⟩, d⟩
        by_cases hiI : i = I
        · subst hiI; rw [hsI] at d; simpa using d
        · rw [hst i hiI] at b c
          exact absurd ⟨by simpa using a, b, c⟩ (hno i)
    · rw [upd_other _ _ _ _ hq, hr]
      constructor
      · rintro ⟨i, ⟨a, b, c⟩, d⟩
        have hne : i ≠ I := fun e => by subst e; omega
        exact ⟨i, ⟨by simpa using a, by rw [hst i hne]; exact b, by rw [hst i hne]; exact c⟩, by rw [hst i hne]; exact d⟩
      · rintro ⟨i, ⟨a, b, c⟩, d⟩
        have hne : i ≠ I := fun e => by subst e; rw [hsI] at c; exact hq c.symm
        rw [hst i hne] at b c d
        exact ⟨i, ⟨by simpa using a, b, c⟩, d⟩
  · intro q
    by_cases hqI : q = I
    · subst hqI; rw [hsI]; simp
    · rw [hst q hqI]; exact h.st2 q
  · intro q
    by_cases hqI : q = I
    · subst hqI; rw [hsI]; exact hk
    · rw [hst q hqI]; exact h.sm q
/-- A word is taken away. -/
theorem TI.del (h : TI H ss M) (e : Ends H ss k j true) : TI H (ss.set ((H k + j) % ss.length) ⟨2, ⟨#[]⟩, 0⟩) (upd M k none) := by
  have hi := mod_in (h := H k) e.lt
  obtain ⟨y1, y2⟩ := e.yes rfl
  generalize hI : (H k + j) % ss.length = I at *
  have hst : ∀ q, q ≠ I → sl (ss.set I ⟨2, ⟨#[]⟩, 0⟩) q = sl ss q := by
    intro q hq; rw [sl_set _ _ _ _ hi, if_neg hq]
  have hsI : sl (ss.set I ⟨2, ⟨#[]⟩, 0⟩) I = ⟨2, ⟨#[]⟩, 0⟩ := by rw [sl_set _ _ _ _ hi, if_pos rfl]
  have hlive : ∀ i, (sl (ss.set I ⟨2, ⟨#[]⟩, 0⟩) i).st = 1 → i ≠ I := by
    intro i h1 e; subst e; rw [hsI] at h1; cases h1
  have hne0 : ∀ q, (sl ss q).st ≠ 0 → (sl (ss.set I ⟨2, ⟨#[]⟩, 0⟩) q).st ≠ 0 := by
    intro q hq
    by_cases hqI : q = I
    · subst hqI; rw [hsI]; simp
    · rw [hst q hqI]; exact hq
  refine ⟨⟨?_, ?_⟩, ?_, ?_, ?_⟩
  · intro i hi' h1
    have hiI := hlive i h1
    simp only [List.length_set] at *
    rw [hst i hiI] at h1 ⊢
    obtain ⟨j2, a, b, c⟩ := h.ok.reach i hi' h1
    exact ⟨j2, a, b, fun q hq => hne0 _ (c q hq)⟩
  · intro i i' a b c d f
    have h1 := hlive i c
    have h2 := hlive i' d
    simp only [List.length_set] at *
    rw [hst i h1] at c f; rw [hst i' h2] at d f
    exact h.ok.uniq i i' a b c d f
  · intro q x
    have hr := h.rep q x
    by_cases hq : q = k
    · subst hq
      rw [upd_same]
      refine ⟨fun h => (by cases h), ?_⟩
      rintro ⟨i, ⟨a, b, c⟩, d⟩
      have hiI := hlive i b
      rw [hst i hiI] at b c
      exact absurd (h.ok.uniq i I (by simpa using a) hi b y1 (by rw [c, y2])) hiI
    · rw [upd_other _ _ _ _ hq, hr]
      constructor
      · rintro ⟨i, ⟨a, b, c⟩, d⟩
        have hne : i ≠ I := fun e => by subst e; exact hq (by rw [← c, y2])
        exact ⟨i, ⟨by simpa using a, by rw [hst i hne]; exact b, by rw [hst i hne]; exact c⟩, by rw [hst i hne]; exact d⟩
      · rintro ⟨i, ⟨a, b, c⟩, d⟩
        have hne := hlive i b
        rw [hst i hne] at b c d
        exact ⟨i, ⟨by simpa using a, b, c⟩, d⟩
  · intro q
    by_cases hqI : q = I
    · subst hqI; rw [hsI]; simp
    · rw [hst q hqI]; exact h.st2 q
  · intro q
    by_cases hqI : q = I
    · subst hqI; rw [hsI]; exact Nat.zero_le _
    · rw [hst q hqI]; exact h.sm q
end
/-- The first slots' words. -/
theorem rep_unique {ss : List Slot} {M M' : ByteArray → Option Int} (h : Rep ss M) (h' : Rep ss M') : M = M' := by
  funext k
  cases hm : M k with
  | none =>
    cases hm' : M' k with
    | none => rfl
    | some v =>
      have := (h k v).2 ((h' k v).1 hm')
      rw [hm] at this; cases this
  | some v => exact ((h' k v).2 ((h k v).1 hm)).symm
/-- The words of the first i slots. -/
def headM (ss : List Slot) : Nat → ByteArray → Option Int
  | 0 => fun _ => none
  | i + 1 => if (sl ss i).st = 1 then upd (headM ss i) (sl ss i).key (some (sl ss i).val) else headM ss i
theorem headM_some {ss : List Slot} {k : ByteArray} {v : Int} : ∀ {i : Nat}, headM ss i k = some v → ∃ q, q < i ∧ (sl ss q).st = 1 ∧ (sl ss q).key = k ∧ (sl ss q).val = v
  | 0, h => by cases h
  | i + 1, h => by
    unfold headM at h
    split at h
    · rename_i h1
      by_cases hq : k = (sl ss i).key
      · subst hq; rw [upd_same] at h; injection h with h
        exact ⟨i, by omega, h1, rfl, h⟩
      · rw [upd_other _ _ _ _ hq] at h
        obtain ⟨q, a, b⟩ := headM_some h
        exact ⟨q, by omega, b⟩
    · obtain ⟨q, a, b⟩ := headM_some h
      exact ⟨q, by omega, b⟩
theorem headM_has {H : ByteArray → Nat} {ss : List Slot} (ok : TOk H ss) : ∀ {i q : Nat}, i ≤ ss.length → q < i → (sl ss q).st = 1 → headM ss i (sl ss q).key = some (sl ss q).val
  | 0, q, _, h, _ => by omega
  | i + 1, q, hi, h, h1 => by
    unfold headM
    by_cases hq : q = i
    · subst hq; rw [if_pos h1, upd_same]
    · have ih := headM_has ok (i := i) (q := q) (by omega) (by omega) h1
      split
      · rename_i h2
        rw [upd_other _ _ _ _ (fun e => hq (ok.uniq q i (by omega) (by omega) h1 h2 e))]
        exact ih
      · exact ih
theorem headM_new {H : ByteArray → Nat} {ss : List Slot} (ok : TOk H ss) {i : Nat} (hi : i < ss.length) (h1 : (sl ss i).st = 1) : headM ss i (sl ss i).key = none := by
  cases h : headM ss i (sl ss i).key with
  | none => rfl
  | some v =>
    obtain ⟨q, a, b, c, _⟩ := headM_some h
    have := ok.uniq q i (by omega) hi b h1 c
    omega
theorem headM_all {H : ByteArray → Nat} {ss : List Slot} {M : ByteArray → Option Int} (h : TI H ss M) : headM ss ss.length = M := by
  refine rep_unique (ss := ss) (fun k v => ⟨fun hk => ?_, fun ⟨i, ⟨a, b, c⟩, d⟩ => ?_⟩) h.rep
  · obtain ⟨q, a, b, c, d⟩ := headM_some hk
    exact ⟨q, ⟨a, b, c⟩, d⟩
  · rw [← c, ← d]; exact headM_has h.ok (Nat.le_refl _) a b
/-- How many of the first slots are live. -/
def liveTo (ss : List Slot) (i : Nat) : Nat := lives (ss.take i)
theorem liveTo_next {ss : List Slot} {i : Nat} (hi : i < ss.length) : liveTo ss (i + 1) = liveTo ss i + if (sl ss i).st = 1 then 1 else 0 := by
  unfold liveTo lives
  rw [List.take_succ_eq_append_getElem hi, List.countP_append, sl_get hi]
  simp [List.countP_cons]
theorem liveTo_all (ss : List Slot) : liveTo ss ss.length = lives ss := by unfold liveTo; rw [List.take_length]
theorem liveTo_le (ss : List Slot) (i : Nat) : liveTo ss i ≤ lives ss := by
  unfold liveTo lives
  exact List.Sublist.countP_le (List.take_sublist i ss)
def slotC (s : Slot) : List Value := [.int .i64 s.st, .string s.key, .int .i64 s.val]
def slotsC (ss : List Slot) : List Value := ss.flatMap slotC
theorem slotsC_cons (s : Slot) (ss : List Slot) : slotsC (s :: ss) = slotC s ++ slotsC ss := by simp [slotsC]
theorem slotsC_len (ss : List Slot) : (slotsC ss).length = ss.length * 3 := by
  induction ss with
  | nil => rfl
  | cons s ss ih => rw [slotsC_cons, List.length_append, ih]; simp [slotC]; omega
theorem slotsC_get (ss : List Slot) (i j : Nat) (hi : i < ss.length) (hj : j < 3) : (slotsC ss)[i * 3 + j]? = (slotC ss[i])[j]? := by
  induction ss generalizing i with
  | nil => simp at hi
  | cons s ss ih =>
    rw [slotsC_cons]
    cases i with
    | zero => rw [List.getElem?_append_left (by simp [slotC]; omega)]; simp
    | succ i =>
      rw [List.getElem?_append_right (by simp [slotC]; omega), show (i + 1) * 3 + j - (slotC s).length = i * 3 + j by simp [slotC]; omega, ih i (by simpa using hi)]
      simp
theorem slotsC_set (ss : List Slot) (i : Nat) (s : Slot) (hi : i < ss.length) : (((slotsC ss).set (i * 3) (.int .i64 s.st)).set (i * 3 + 1) (.string s.key)).set (i * 3 + 2) (.int .i64 s.val) = slotsC (ss.set i s) := by
  induction ss generalizing i with
  | nil => simp at hi
  | cons q ss ih =>
    rw [slotsC_cons]
    cases i with
    | zero => simp [slotC, slotsC_cons]
    | succ i =>
      rw [List.set_cons_succ, slotsC_cons, ← ih i (by simpa using hi)]
      rw [List.set_append_right _ _ (by simp [slotC]; omega), List.set_append_right _ _ (by simp [slotC]; omega), List.set_append_right _ _ (by simp [slotC]; omega)]
      rw [show (i + 1) * 3 - (slotC q).length = i * 3 by simp [slotC]; omega, show (i + 1) * 3 + 1 - (slotC q).length = i * 3 + 1 by simp [slotC]; omega, show (i + 1) * 3 + 2 - (slotC q).length = i * 3 + 2 by simp [slotC]; omega]
end Go.Proofs.YtkdknfedieeenaaGreatDoor
namespace Go.Proofs.YtkdknfedieeenaaGreatDoor
open Go.RowKit
set_option linter.unusedVariables false
set_option maxRecDepth 20000
/-- A word's number, modulo 2^32. -/
def hashL (l : List UInt8) : Nat := l.foldl (fun h c => (h * 31 + c.toNat) % 4294967296) 17
theorem hashL_lt (l : List UInt8) : hashL l < 4294967296 := by
  have key : ∀ (l : List UInt8) (h : Nat), h < 4294967296 → l.foldl (fun h c => (h * 31 + c.toNat) % 4294967296) h < 4294967296 := by
    intro l
    induction l with
    | nil => intro h hh; exact hh
    | cons c l ih => intro h hh; exact ih _ (Nat.mod_lt _ (by decide))
  exact key l 17 (by decide)
theorem hashL_take (l : List UInt8) (k : Nat) (hk : k < l.length) : hashL (l.take (k + 1)) = (hashL (l.take k) * 31 + (l[k]).toNat) % 4294967296 := by
  rw [hashL, List.take_succ_eq_append_getElem hk, List.foldl_append]; rfl
/-- So many slots, one at least. -/
def slotsN (m : Int) : Nat := (max 1 m).toNat
theorem hash_any (s : ByteArray) (m : Int) (w : World) (hm : m ≤ 9223372036854775807) (hs : s.size ≤ maxLen) :
    Calls Tryz.prog 123 #[.string s, .int .i64 m] w fun e w' => e = .returned (.int .i64 ((hashL s.data.toList % slotsN m : Nat) : Int)) ∧ w = w' := by
  obtain ⟨l, hl⟩ : ∃ l, s.data.toList = l := ⟨_, rfl⟩
  have hlen : l.length = s.size := by rw [← hl]; simp
  have hget : ∀ k (h : k < s.size), s[k].toNat = (l[k]'(by omega)).toNat := by
    intro k h; subst hl; rw [toList_get s k h]
  have hS : slotsN m = max 1 m.toNat := by simp only [slotsN]; omega
  obtain ⟨N, hN⟩ : ∃ N, slotsN m = N := ⟨_, rfl⟩
  rw [hl, hN]
  rw [hN] at hS
  have hN0 : 0 < N := by omega
  have hmx : (m < 1 ∧ N = 1) ∨ (1 ≤ m ∧ m = (N : Int)) := by omega
  have HM := Lib.hid hmx
  have HG := Lib.hid hget
  have HS := Lib.hid hs
  have HL := Lib.hid hl
  unfold maxLen at hs
  clear hmx hget hS hl
  go_enter Tryz.func123, Tryz.ntmps123
  go_wp2_with fail
  go_loop [5, 9] (fun v i => ∃ k : Nat, k ≤ s.size ∧ i = .int .i64 k ∧ v = .int .u32 (hashL (l.take k) : Nat)) (fun _ i => s.size - (intOf i).toNat)
  case atStart => exact ⟨0, Nat.zero_le _, rfl, rfl⟩
  case round =>
    obtain ⟨k, hk, rfl, rfl⟩ := hrel
    have hq : hashL (l.take k) < 4294967296 := hashL_lt _
    generalize hh : hashL (l.take k) = h at *
    have HH := Lib.hid hh
    clear hh
    by_cases hlt : k < s.size
    · have q1 : (k : Int) < s.size := by omega
      obtain ⟨c, hc⟩ : ∃ c, s[k]'hlt = c := ⟨_, rfl⟩
      have hc2 := UInt8.toNat_lt c
      have hcl : (l[k]'(by omega)).toNat = c.toNat := by rw [← HG.out k hlt, hc]
      have HC := Lib.hid hcl
      clear hcl
      obtain ⟨q, hq2⟩ : ∃ q, c.toNat = q := ⟨_, rfl⟩
      rw [hq2] at hc2
      go_wp2
      go_round
      case rel =>
        refine ⟨k + 1, by omega, by go_num, ?_⟩
        rw [hashL_take l k (by omega), HH.out, HC.out, hq2]
        first | go_num | (simp [IntKind.wrap, IntKind.bits, IntKind.signed]; omega)
      case measure => simp [intOf]; omega
    · obtain rfl : k = s.size := by omega
      have hLt : l.take s.size = l := List.take_of_length_le (by omega)
      rw [hLt] at HH
      have q1 : ¬ ((s.size : Nat) : Int) < s.size := by omega
      have i1 : IntKind.i64.wrap (h : Int) = h := IntWalk.i64_in _ (by omega)
      rcases HM.out with ⟨h1, h2⟩ | ⟨h1, rfl⟩
      · subst h2
        have h1' : ¬ 1 ≤ m := by omega
        have h1'' : ¬ 1 < m := by omega
        have e0 : (h : Int).tmod 1 = 0 := by simp
        go_wp2
        go_ret
        refine ⟨?_, rfl⟩; simp
      · have h1' : ¬ (N : Int) < 1 := by omega
        have e0 : ¬ (N : Int) = 0 := by omega
        have e1 : (h : Int).tmod N = ((h % N : Nat) : Int) := by rw [Int.tmod_eq_emod_of_nonneg (by omega)]; simp
        have e2 : IntKind.i64.wrap ((h % N : Nat) : Int) = ((h % N : Nat) : Int) := IntWalk.i64_in _ (by have := Nat.mod_lt h hN0; have := Nat.mod_le h N; omega)
        go_wp2
        go_ret
        refine ⟨?_, rfl⟩; simp [HH.out]
end Go.Proofs.YtkdknfedieeenaaGreatDoor
namespace Go.Proofs.YtkdknfedieeenaaGreatDoor
open Go.RowKit
set_option linter.unusedVariables false
set_option maxRecDepth 20000
/-- A word's number. -/
def hashB (k : ByteArray) : Nat := hashL k.data.toList
theorem mod_next (a n : Nat) (hn : 0 < n) : ((((a % n : Nat) : Int) + 1) % (n : Int)) = (((a + 1) % n : Nat) : Int) := by
  have : (((a % n + 1 : Nat) : Int) % (n : Int)) = (((a % n + 1) % n : Nat) : Int) := by simp
  rw [show (((a % n : Nat) : Int) + 1) = ((a % n + 1 : Nat) : Int) by simp, this]
  congr 1
  rw [Nat.add_mod, Nat.mod_mod, ← Nat.add_mod]
/-- At the label: i steps are done. -/
def FindJ (W : World) (b : Nat) (k : ByteArray) (n j : Nat) (m : Nat) (a : Act) (w : World) : Prop :=
  ∃ (i q : Nat) (u2 u3 u4 u5 u7 u8 u9 u10 u11 u12 u13 u14 u15 u16 u17 u18 u19 u20 u21 u22 u23 u24 u25 u26 u27 u28 u29 u30 u31 u32 u33 u34 u35 u36 u37 u38 u39 u40 u41 u42 u43 : Value), i ≤ j ∧ m = j - i ∧ q = (hashB k + i) % n ∧ Below W.heap.size W w ∧ a = { tmps := #[.pointer (some ⟨b, 0, none⟩), .string k, u2, u3, u4, u5, .int .i64 q, u7, u8, u9, u10, u11, u12, u13, u14, u15, u16, u17, u18, u19, u20, u21, u22, u23, u24, u25, u26, u27, u28, u29, u30, u31, u32, u33, u34, u35, u36, u37, u38, u39, u40, u41, u42, u43], defers := [] }
set_option maxHeartbeats 800000 in
/-- The search as_ it goes. -/
theorem find_any (b g n cap : Nat) (lv us : Int) (post : List Value) (ss : List Slot) (w : World) (k : ByteArray) (j : Nat) (bb : Bool) (hC : Cs w b (.slice (some ⟨g, 0, none⟩) n cap :: .int .i64 lv :: .int .i64 us :: post)) (hS : Cs w g (slotsC ss)) (hn : ss.length = n) (hn2 : n ≤ 4611686018427387904) (hk : k.size ≤ maxLen) (hcap : n ≤ cap)
    (he : Ends hashB ss k j bb) :
    Calls Tryz.prog 91 #[.pointer (some ⟨b, 0, none⟩), .string k] w fun e w' => e = .returned (.tuple #[.int .i64 (((hashB k + j) % n : Nat) : Int), .bool bb]) ∧ Below w.heap.size w w' := by
  have hn0 : 0 < n := by have := he.lt; omega
  have hN : slotsN n = n := by simp only [slotsN]; omega
  obtain ⟨q, hqq⟩ : ∃ q, q = (hashB k + 0) % n := ⟨_, rfl⟩
  have HH := Lib.hid (fun w => hash_any k n w (by omega) hk)
  rw [hN, show hashL k.data.toList % n = q by rw [hqq]; rfl] at HH
  have hcx : ∀ wx, Below w.heap.size w wx → Cs wx b (.slice (some ⟨g, 0, none⟩) n cap :: .int .i64 lv :: .int .i64 us :: post) ∧ Cs wx g (slotsC ss) := fun wx hb => ⟨hC.below hb, hS.below hb⟩
  have HC := Lib.hid hcx
  have HE := Lib.hid he
  have HN := Lib.hid hn
  have hq : q < n := by rw [hqq]; exact Nat.mod_lt _ hn0
  have HQ := Lib.hid hqq
  clear hcx hC hS hN he hn hqq
  go_enter Tryz.func91, Tryz.ntmps91
  go_wp2
  refine wp_scope_count 0 (FindJ w b k n j) rfl ?_ ?_
  · obtain ⟨hC, hS⟩ := HC.out w (Below.refl _ _)
    have c0 := hC.get 0 _
    have g1 := hC.lt
    have g2 := hS.lt
    clear hC hS
    go_wp2_with fail
    refine (HH.out _).mono ?_
    rintro e w1 ⟨rfl, rfl⟩
    go_wp2_with fail
    go_step3
    obtain ⟨wr, hwr⟩ : ∃ wr, wr = w := ⟨_, rfl⟩
    have HB : Hid (Below w.heap.size w wr) := Lib.hid (by rw [hwr]; exact Below.refl _ _)
    have hsz : w.heap.size ≤ wr.heap.size := HB.out.size
    have HW := Lib.hid hwr
    rw [← hwr]
    clear hwr c0 g1 g2
    obtain ⟨i, hi0⟩ : ∃ i, i = 0 := ⟨_, rfl⟩
    have hij : i ≤ j := by omega
    rw [← hi0] at HQ
    clear hi0 HH
    obtain ⟨hC, hS⟩ := HC.out wr HB.out
    obtain ⟨⟨st, key, val⟩, hsl⟩ : ∃ s, sl ss q = s := ⟨_, rfl⟩
    have hqn : q < ss.length := by rw [HN.out]; exact hq
    have hcell : ∀ f, f < 3 → wr.cell? ⟨g, q * 3 + f, none⟩ = (slotC ⟨st, key, val⟩)[f]? := by
      intro f hf
      have h1 := slotsC_get ss q f hqn hf
      rw [← sl_get hqn, hsl] at h1
      have hlt : q * 3 + f < (slotsC ss).length := by rw [slotsC_len]; omega
      rw [← h1, List.getElem?_eq_getElem hlt]
      exact (hS.2 _ hlt).1
    have d0 : wr.cell? ⟨g, q * 3, none⟩ = some (.int .i64 st) := hcell 0 (by decide)
    have d1 : wr.cell? ⟨g, q * 3 + 1, none⟩ = some (.string key) := hcell 1 (by decide)
    have d2 : wr.cell? ⟨g, q * 3 + 2, none⟩ = some (.int .i64 val) := hcell 2 (by decide)
    have c0 := hC.get 0 _
    have g1 := hC.lt
    have g2 := hS.lt
    have q0 : ¬ (q : Int) < 0 := by omega
    have q1 : (q : Int) < n := by omega
    have HAH : Hid (i < j → st ≠ 0 ∧ ¬ (st = 1 ∧ key = k)) := Lib.hid (fun h => by have := HE.out.ahead i h; rw [HN.out] at this; rw [← HQ.out, hsl] at this; exact this)
    have HY : Hid (i = j → bb = true → st = 1 ∧ key = k) := Lib.hid (fun h e => by subst h; have := HE.out.yes e; rw [HN.out] at this; rw [← HQ.out, hsl] at this; exact this)
    have HNO : Hid (i = j → bb = false → st = 0) := Lib.hid (fun h e => by subst h; have := HE.out.no e; rw [HN.out] at this; rw [← HQ.out, hsl] at this; exact this)
    clear hcell hqn hC hS hsl
    by_cases hlt : i < j
    · obtain ⟨hs0, hsk⟩ := HAH.out hlt
      have HST : Hid ((((q : Nat) : Int) + 1) % (n : Int) = (((hashB k + (i + 1)) % n : Nat) : Int)) := Lib.hid (by rw [HQ.out]; exact mod_next _ n hn0)
      have g0 : ((st : Int) == 0) = false := by rw [beq_eq_false_iff_ne]; omega
      have g0' : ((st : Int) != 0) = true := by rw [bne_iff_ne]; omega
      have hnz : ¬ (n : Int) = 0 := by omega
      clear HAH HY HNO
      by_cases h1 : st = 1
      · subst h1
        have hkk : (key.toList == k.toList) = false := str_other _ _ (fun e => hsk ⟨rfl, ByteArray.ext (Array.ext' e)⟩)
        clear hsk
        go_wp2_with fail
        go_step3
        exact ⟨rfl, _, i + 1, _, _, _, _, _, _, _, _, _, _, _, _, _, _, _, _, _, _, _, _, _, _, _, _, _, _, _, _, _, _, _, _, _, _, _, _, _, _, _, _, _, _, by omega, rfl, rfl, HB.out.alloc HB.out.size _, by rw [HST.out]⟩
      · have g1 : ((st : Int) == 1) = false := by rw [beq_eq_false_iff_ne]; omega
        clear hsk
        go_wp2_with fail
        go_step3
        exact ⟨rfl, _, i + 1, _, _, _, _, _, _, _, _, _, _, _, _, _, _, _, _, _, _, _, _, _, _, _, _, _, _, _, _, _, _, _, _, _, _, _, _, _, _, _, _, _, _, by omega, rfl, rfl, HB.out.alloc HB.out.size _, by rw [HST.out]⟩
    · obtain rfl : i = j := by omega
      cases bb with
      | true =>
        obtain ⟨h1, h2⟩ := HY.out rfl rfl
        subst h1 h2
        have hkk : (key.toList == key.toList) = true := str_same _ _ rfl
        clear HAH HY HNO
        go_wp2_with fail
        rw [jump_back]
        refine bodyPost_ret (v := .tuple #[.int .i64 q, .bool true]) (by simp [results, Tryz.results91, go_sem]) rfl ?_
        exact ⟨by rw [HQ.out], HB.out.alloc HB.out.size _⟩
      | false =>
        have h1 := HNO.out rfl rfl
        subst h1
        clear HAH HY HNO
        go_wp2_with fail
        rw [jump_back]
        refine bodyPost_ret (v := .tuple #[.int .i64 q, .bool false]) (by simp [results, Tryz.results91, go_sem]) rfl ?_
        exact ⟨by rw [HQ.out], HB.out.alloc HB.out.size _⟩
  · rintro m a wr ⟨i, q, u2, u3, u4, u5, u7, u8, u9, u10, u11, u12, u13, u14, u15, u16, u17, u18, u19, u20, u21, u22, u23, u24, u25, u26, u27, u28, u29, u30, u31, u32, u33, u34, u35, u36, u37, u38, u39, u40, u41, u42, u43, hij, rfl, hqq, hb, rfl⟩
    have HB := Lib.hid hb
    have hsz : w.heap.size ≤ wr.heap.size := hb.size
    have hq : q < n := by rw [hqq]; exact Nat.mod_lt _ hn0
    clear HH HQ
    have HQ := Lib.hid hqq
    clear hqq hb
    obtain ⟨hC, hS⟩ := HC.out wr HB.out
    obtain ⟨⟨st, key, val⟩, hsl⟩ : ∃ s, sl ss q = s := ⟨_, rfl⟩
    have hqn : q < ss.length := by rw [HN.out]; exact hq
    have hcell : ∀ f, f < 3 → wr.cell? ⟨g, q * 3 + f, none⟩ = (slotC ⟨st, key, val⟩)[f]? := by
      intro f hf
      have h1 := slotsC_get ss q f hqn hf
      rw [← sl_get hqn, hsl] at h1
      have hlt : q * 3 + f < (slotsC ss).length := by rw [slotsC_len]; omega
      rw [← h1, List.getElem?_eq_getElem hlt]
      exact (hS.2 _ hlt).1
    have d0 : wr.cell? ⟨g, q * 3, none⟩ = some (.int .i64 st) := hcell 0 (by decide)
    have d1 : wr.cell? ⟨g, q * 3 + 1, none⟩ = some (.string key) := hcell 1 (by decide)
    have d2 : wr.cell? ⟨g, q * 3 + 2, none⟩ = some (.int .i64 val) := hcell 2 (by decide)
    have c0 := hC.get 0 _
    have g1 := hC.lt
    have g2 := hS.lt
    have q0 : ¬ (q : Int) < 0 := by omega
    have q1 : (q : Int) < n := by omega
    have HAH : Hid (i < j → st ≠ 0 ∧ ¬ (st = 1 ∧ key = k)) := Lib.hid (fun h => by have := HE.out.ahead i h; rw [HN.out] at this; rw [← HQ.out, hsl] at this; exact this)
    have HY : Hid (i = j → bb = true → st = 1 ∧ key = k) := Lib.hid (fun h e => by subst h; have := HE.out.yes e; rw [HN.out] at this; rw [← HQ.out, hsl] at this; exact this)
    have HNO : Hid (i = j → bb = false → st = 0) := Lib.hid (fun h e => by subst h; have := HE.out.no e; rw [HN.out] at this; rw [← HQ.out, hsl] at this; exact this)
    clear hcell hqn hC hS hsl
    by_cases hlt : i < j
    · obtain ⟨hs0, hsk⟩ := HAH.out hlt
      have HST : Hid ((((q : Nat) : Int) + 1) % (n : Int) = (((hashB k + (i + 1)) % n : Nat) : Int)) := Lib.hid (by rw [HQ.out]; exact mod_next _ n hn0)
      have g0 : ((st : Int) == 0) = false := by rw [beq_eq_false_iff_ne]; omega
      have g0' : ((st : Int) != 0) = true := by rw [bne_iff_ne]; omega
      have hnz : ¬ (n : Int) = 0 := by omega
      clear HAH HY HNO
      by_cases h1 : st = 1
      · subst h1
        have hkk : (key.toList == k.toList) = false := str_other _ _ (fun e => hsk ⟨rfl, ByteArray.ext (Array.ext' e)⟩)
        clear hsk
        go_wp2_with fail
        go_step3
        exact ⟨rfl, _, by omega, i + 1, _, _, _, _, _, _, _, _, _, _, _, _, _, _, _, _, _, _, _, _, _, _, _, _, _, _, _, _, _, _, _, _, _, _, _, _, _, _, _, _, _, _, by omega, rfl, rfl, HB.out.alloc HB.out.size _, by rw [HST.out]⟩
      · have g1 : ((st : Int) == 1) = false := by rw [beq_eq_false_iff_ne]; omega
        clear hsk
        go_wp2_with fail
        go_step3
        exact ⟨rfl, _, by omega, i + 1, _, _, _, _, _, _, _, _, _, _, _, _, _, _, _, _, _, _, _, _, _, _, _, _, _, _, _, _, _, _, _, _, _, _, _, _, _, _, _, _, _, _, by omega, rfl, rfl, HB.out.alloc HB.out.size _, by rw [HST.out]⟩
    · obtain rfl : i = j := by omega
      cases bb with
      | true =>
        obtain ⟨h1, h2⟩ := HY.out rfl rfl
        subst h1 h2
        have hkk : (key.toList == key.toList) = true := str_same _ _ rfl
        clear HAH HY HNO
        go_wp2_with fail
        rw [jump_back]
        refine bodyPost_ret (v := .tuple #[.int .i64 q, .bool true]) (by simp [results, Tryz.results91, go_sem]) rfl ?_
        exact ⟨by rw [HQ.out], HB.out.alloc HB.out.size _⟩
      | false =>
        have h1 := HNO.out rfl rfl
        subst h1
        clear HAH HY HNO
        go_wp2_with fail
        rw [jump_back]
        refine bodyPost_ret (v := .tuple #[.int .i64 q, .bool false]) (by simp [results, Tryz.results91, go_sem]) rfl ?_
        exact ⟨by rw [HQ.out], HB.out.alloc HB.out.size _⟩
end Go.Proofs.YtkdknfedieeenaaGreatDoor
namespace Go.Proofs.YtkdknfedieeenaaGreatDoor
open Go.RowKit
set_option linter.unusedVariables false
/-- Of the blocks that there were none has turned but those of S. -/
structure Only (S : Nat → Prop) (w w' : World) : Prop where
  os : w'.os = w.os
  tape : w'.tape = w.tape
  output : w'.output = w.output
  size : w.heap.size ≤ w'.heap.size
  block : ∀ k, k < w.heap.size → ¬ S k → w'.heap[k]? = w.heap[k]?
section
variable {S S' : Nat → Prop} {w w1 w2 : World}
theorem Only.refl (S : Nat → Prop) (w : World) : Only S w w := ⟨rfl, rfl, rfl, Nat.le_refl _, fun _ _ _ => rfl⟩
theorem Only.of_below (S : Nat → Prop) (h : Below w.heap.size w w1) : Only S w w1 := ⟨h.os, h.tape, h.output, h.size, fun k hk _ => h.block k hk⟩
theorem Only.mono (h : Only S w w1) (hs : ∀ k, k < w.heap.size → S k → S' k) : Only S' w w1 := ⟨h.os, h.tape, h.output, h.size, fun k hk hn => h.block k hk (fun e => hn (hs k hk e))⟩
theorem Only.trans (h : Only S w w1) (h' : Only S' w1 w2) (hs : ∀ k, k < w.heap.size → S' k → S k) : Only S w w2 :=
  ⟨h'.os.trans h.os, h'.tape.trans h.tape, h'.output.trans h.output, Nat.le_trans h.size h'.size, fun k hk hn => (h'.block k (Nat.lt_of_lt_of_le hk h.size) (fun e => hn (hs k hk e))).trans (h.block k hk hn)⟩
theorem Only.alloc (h : Only S w w1) (o : Obj) : Only S w (w1.alloc o) := h.trans (Only.of_below S ((Below.refl _ _).alloc (Nat.le_refl _) o)) (fun _ _ e => e)
theorem Only.drewN (h : Only S w w1) (n : Nat) : Only S w (w1.drewN n) := ⟨h.os, h.tape, h.output, h.size, h.block⟩
theorem Only.drew (h : Only S w w1) : Only S w w1.drew := ⟨h.os, h.tape, h.output, h.size, h.block⟩
theorem Only.setCell (h : Only S w w1) (p : Addr) (u : Value) (hp : p.block < w.heap.size → S p.block) : Only S w (w1.setCell p u) :=
  ⟨h.os, h.tape, h.output, Nat.le_trans h.size (by simp [World.setCell]), fun k hk hn => (Below.heap_setCell _ _ _ _ (fun e => hn (by subst e; exact hp hk))).trans (h.block k hk hn)⟩
theorem Only.grown {row : Option Nat} (h : Only S w w1) (hg : w1.grownBy w2 row) (hr : ∀ k, row = some k → k < w.heap.size → S k) : Only S w w2 :=
  ⟨hg.os.trans h.os, hg.tape.trans h.tape, hg.output.trans h.output, Nat.le_trans h.size hg.size, fun k hk hn => (hg.block k (Nat.lt_of_lt_of_le hk h.size) (fun e => hn (hr k e.symm hk))).trans (h.block k hk hn)⟩
theorem Only.below (h : Only S w w1) {B : Nat} (hB : B ≤ w.heap.size) (hs : ∀ k, k < B → ¬ S k) : Below B w w1 := ⟨h.os, h.tape, h.output, h.size, fun k hk => h.block k (by omega) (hs k hk)⟩
theorem Only.cs {b : Nat} {vs : List Value} (h : Only S w w1) (hc : Cs w b vs) (hb : ¬ S b) : Cs w1 b vs := hc.block (h.block b hc.lt hb) h.size
theorem Only.mm {κ : Type} {K : κ → Value} {b n : Nat} {M : κ → Option Value} (h : Only S w w1) (hc : MM K w b M n) (hb : ¬ S b) : MM K w1 b M n := hc.block (h.block b hc.lt hb)
theorem Only.sl {B n size : Nat} {A : Option Addr} {xs : List Value} (h : Only S w w1) (hs : Sl w B size A n xs) (hB : B ≤ w.heap.size) (hn : ∀ a, A = some a → 0 < n → ¬ S a.block) : Sl w1 B size A n xs :=
  ⟨hs.1, fun h0 => by
    obtain ⟨b, off, e, hb, hc⟩ := hs.2 h0
    refine ⟨b, off, e, hb, fun j u hu => ?_⟩
    rw [World.cell?_of_block (w := w) (h.block b (by omega) (hn _ e h0))]
    exact hc j u hu⟩
end
end Go.Proofs.YtkdknfedieeenaaGreatDoor
namespace Go.Proofs.YtkdknfedieeenaaGreatDoor
open Go.RowKit
set_option linter.unusedVariables false
set_option maxRecDepth 20000
/-- A slot's cells in a row of slots. -/
theorem slot_cells {w : World} {g : Nat} {ss : List Slot} (hS : Cs w g (slotsC ss)) {q : Nat} (hq : q < ss.length) :
    w.cell? ⟨g, q * 3, none⟩ = some (.int .i64 (sl ss q).st) ∧ w.cell? ⟨g, q * 3 + 1, none⟩ = some (.string (sl ss q).key) ∧ w.cell? ⟨g, q * 3 + 2, none⟩ = some (.int .i64 (sl ss q).val) ∧
    w.frozen? ⟨g, q * 3, none⟩ = false ∧ w.frozen? ⟨g, q * 3 + 1, none⟩ = false ∧ w.frozen? ⟨g, q * 3 + 2, none⟩ = false := by
  have hl := slotsC_len ss
  have key : ∀ f, f < 3 → w.cell? ⟨g, q * 3 + f, none⟩ = (slotC (sl ss q))[f]? := by
    intro f hf
    have h1 := slotsC_get ss q f hq hf
    rw [← sl_get hq] at h1
    have hlt : q * 3 + f < (slotsC ss).length := by omega
    rw [← h1, List.getElem?_eq_getElem hlt]
    exact (hS.2 _ hlt).1
  exact ⟨key 0 (by decide), key 1 (by decide), key 2 (by decide), (hS.2 (q * 3) (by omega)).2, (hS.2 (q * 3 + 1) (by omega)).2, (hS.2 (q * 3 + 2) (by omega)).2⟩
/-- A slot is written. -/
theorem slot_write {w : World} {g : Nat} {ss : List Slot} (hS : Cs w g (slotsC ss)) {q : Nat} (hq : q < ss.length) (s : Slot) :
    Cs (((w.setCell ⟨g, q * 3, none⟩ (.int .i64 s.st)).setCell ⟨g, q * 3 + 1, none⟩ (.string s.key)).setCell ⟨g, q * 3 + 2, none⟩ (.int .i64 s.val)) g (slotsC (ss.set q s)) := by
  have hl := slotsC_len ss
  rw [← slotsC_set ss q s hq]
  exact ((hS.set' (q * 3) _ (by omega)).set' (q * 3 + 1) _ (by simp; omega)).set' (q * 3 + 2) _ (by simp; omega)
theorem slot_write1 {w : World} {g : Nat} {ss : List Slot} (hS : Cs w g (slotsC ss)) {q : Nat} (hq : q < ss.length) (v : Int) :
    Cs (w.setCell ⟨g, q * 3 + 2, none⟩ (.int .i64 v)) g (slotsC (ss.set q ⟨(sl ss q).st, (sl ss q).key, v⟩)) := by
  have hl := slotsC_len ss
  have h0 := slotsC_get ss q 0 hq (by decide)
  have h1 := slotsC_get ss q 1 hq (by decide)
  rw [← sl_get hq] at h0 h1
  rw [← slotsC_set ss q _ hq]
  have e0 : (slotsC ss).set (q * 3) (.int .i64 (sl ss q).st) = slotsC ss := by
    have hlt : q * 3 < (slotsC ss).length := by omega
    have : (slotsC ss)[q * 3] = .int .i64 (sl ss q).st := by
      have h2 : (slotsC ss)[q * 3]? = some (.int .i64 (sl ss q).st) := h0
      rw [List.getElem?_eq_getElem hlt] at h2; exact Option.some.inj h2
    rw [← this]; exact List.set_getElem_self hlt
  have e1 : (slotsC ss).set (q * 3 + 1) (.string (sl ss q).key) = slotsC ss := by
    have hlt : q * 3 + 1 < (slotsC ss).length := by omega
    have : (slotsC ss)[q * 3 + 1] = .string (sl ss q).key := by
      have h2 : (slotsC ss)[q * 3 + 1]? = some (.string (sl ss q).key) := h1
      rw [List.getElem?_eq_getElem hlt] at h2; exact Option.some.inj h2
    rw [← this]; exact List.set_getElem_self hlt
  simp only [e0, e1]
  exact hS.set' (q * 3 + 2) _ (by omega)
/-- lay: a word into the empty slot in which its search ends. -/
theorem lay_any (b g n : Nat) (lv us : Nat) (post : List Value) (ss : List Slot) (w : World) (k : ByteArray) (v : Int) (j : Nat) (hC : Cs w b (.slice (some ⟨g, 0, none⟩) n n :: .int .i64 lv :: .int .i64 us :: post)) (hS : Cs w g (slotsC ss)) (hn : ss.length = n) (hn2 : n ≤ 4611686018427387904) (hk : k.size ≤ maxLen)
    (hbg : b ≠ g) (hlv : lv ≤ 4611686018427387904) (hus : us ≤ 4611686018427387904) (he : Ends hashB ss k j false) :
    Calls Tryz.prog 96 #[.pointer (some ⟨b, 0, none⟩), .string k, .int .i64 v] w fun e w' => e = .returned (.tuple #[]) ∧
      Cs w' b (.slice (some ⟨g, 0, none⟩) n n :: .int .i64 (lv + 1 : Nat) :: .int .i64 (us + 1 : Nat) :: post) ∧ Cs w' g (slotsC (ss.set ((hashB k + j) % n) ⟨1, k, v⟩)) ∧ Only (fun q => q = b ∨ q = g) w w' := by
  have hF := Lib.hid (find_any b g n n lv us post ss w k j false hC hS hn hn2 hk (Nat.le_refl _) he)
  obtain ⟨q, hqq⟩ : ∃ q, (hashB k + j) % n = q := ⟨_, rfl⟩
  rw [hqq] at hF ⊢
  have hqn : q < n := by rw [← hqq]; exact Nat.mod_lt _ (by have := he.lt; omega)
  clear he hqq
  have HCC := Lib.hid hC
  have HSS := Lib.hid hS
  have HN := Lib.hid hn
  clear hC hS hn
  go_enter Tryz.func96, Tryz.ntmps96
  go_wp2_with fail
  refine hF.out.mono ?_
  rintro e w1 ⟨rfl, hb⟩
  have hC1 := HCC.out.below hb
  have hS1 := HSS.out.below hb
  have HB := Lib.hid hb
  obtain ⟨d0, d1, d2, t0, t1, t2⟩ := slot_cells hS1 (q := q) (by rw [HN.out]; exact hqn)
  have c0 := hC1.get 0 _
  have c1 := hC1.get 1 _
  have c2 := hC1.get 2 _
  have f0 := hC1.froz 0 (by simp)
  have f1 := hC1.froz 1 (by simp)
  have f2 := hC1.froz 2 (by simp)
  have g1 := hC1.lt
  have g2 := hS1.lt
  have q0 : ¬ (q : Int) < 0 := by omega
  have q1 : (q : Int) < n := by omega
  have hgb := hbg.symm
  have H1 := Lib.hid hC1
  have H2 := Lib.hid hS1
  clear hC1 hS1 hb hF
  go_wp2
  go_end0
  refine ⟨rfl, ?_, ?_, ?_⟩
  · have h := ((((H1.out.other g (q * 3) (.int .i64 1) hgb).other g (q * 3 + 1) (.string k) hgb).other g (q * 3 + 2) (.int .i64 v) hgb).set' 1 (.int .i64 ((lv : Int) + 1)) (by simp)).set' 2 (.int .i64 ((us : Int) + 1)) (by simp)
    simpa using h
  · have h := slot_write H2.out (q := q) (by rw [HN.out]; exact hqn) ⟨1, k, v⟩
    exact (h.other b 1 _ hbg).other b 2 _ hbg
  · refine (((((Only.of_below _ HB.out).setCell ⟨g, q * 3, none⟩ _ (fun _ => .inr rfl)).setCell ⟨g, q * 3 + 1, none⟩ _ (fun _ => .inr rfl)).setCell ⟨g, q * 3 + 2, none⟩ _ (fun _ => .inr rfl)).setCell ⟨b, 1, none⟩ _ (fun _ => .inl rfl)).setCell ⟨b, 2, none⟩ _ (fun _ => .inl rfl)
/-- The table at block b. -/
structure TabS (w : World) (b : Nat) (post : List Value) (ss : List Slot) (V : Value) (lv us : Nat) : Prop where
  own : Cs w b (V :: .int .i64 lv :: .int .i64 us :: post)
  slots : (ss = [] ∧ V = .slice none 0 0) ∨ ∃ g, V = .slice (some ⟨g, 0, none⟩) ss.length ss.length ∧ g ≠ b ∧ Cs w g (slotsC ss) ∧ 0 < ss.length
theorem TabS.below {w w' : World} {b : Nat} {post : List Value} {ss : List Slot} {V : Value} {lv us : Nat} (h : TabS w b post ss V lv us) (hb : Below w.heap.size w w') : TabS w' b post ss V lv us :=
  ⟨h.own.below hb, by
    rcases h.slots with h1 | ⟨g, e1, e2, e3, e4⟩
    · exact .inl h1
    · exact .inr ⟨g, e1, e2, e3.below hb, e4⟩⟩
/-- Len. -/
theorem len_tab (w : World) (b : Nat) (V : Value) (lv us : Nat) (post : List Value) (hC : Cs w b (V :: .int .i64 lv :: .int .i64 us :: post)) :
    Calls Tryz.prog 62 #[.pointer (some ⟨b, 0, none⟩)] w fun e w' => e = .returned (.int .i64 lv) ∧ w = w' := by
  have c1 := hC.get 1 _
  have g1 := hC.lt
  go_enter Tryz.func62, Tryz.ntmps62
  go_wp2
  go_ret
  exact ⟨rfl, rfl⟩
/-- Get: where the search ends. -/
theorem get_yes (b g n : Nat) (lv us : Int) (post : List Value) (ss : List Slot) (w : World) (k : ByteArray) (j : Nat) (hC : Cs w b (.slice (some ⟨g, 0, none⟩) n n :: .int .i64 lv :: .int .i64 us :: post)) (hS : Cs w g (slotsC ss)) (hn : ss.length = n) (hn2 : n ≤ 4611686018427387904) (hk : k.size ≤ maxLen)
    (he : Ends hashB ss k j true) :
    Calls Tryz.prog 64 #[.pointer (some ⟨b, 0, none⟩), .string k] w fun e w' => e = .returned (.tuple #[.int .i64 (sl ss ((hashB k + j) % n)).val, .bool true]) ∧ Below w.heap.size w w' := by
  have hF := Lib.hid (find_any b g n n lv us post ss w k j true hC hS hn hn2 hk (Nat.le_refl _) he)
  have hn0 : 0 < n := by have := he.lt; omega
  obtain ⟨q, hqq⟩ : ∃ q, (hashB k + j) % n = q := ⟨_, rfl⟩
  rw [hqq] at hF ⊢
  have hqn : q < n := by rw [← hqq]; exact Nat.mod_lt _ hn0
  clear he hqq
  have HCC := Lib.hid hC
  have HSS := Lib.hid hS
  have HN := Lib.hid hn
  have c0 := hC.get 0 _
  have g1 := hC.lt
  have hnz : ((n : Int) == 0) = false := by rw [beq_eq_false_iff_ne]; omega
  obtain ⟨V, hV⟩ : ∃ V, (sl ss q).val = V := ⟨_, rfl⟩
  rw [hV]
  have HV := Lib.hid hV
  clear hV
  clear hC hS hn
  go_enter Tryz.func64, Tryz.ntmps64
  go_wp2_with fail
  refine hF.out.mono ?_
  rintro e w1 ⟨rfl, hb⟩
  have hC1 := HCC.out.below hb
  have hS1 := HSS.out.below hb
  have HB := Lib.hid hb
  obtain ⟨d0, d1, d2, t0, t1, t2⟩ := slot_cells hS1 (q := q) (by rw [HN.out]; exact hqn)
  have c0 := hC1.get 0 _
  have g1 := hC1.lt
  have g2 := hS1.lt
  have q0 : ¬ (q : Int) < 0 := by omega
  have q1 : (q : Int) < n := by omega
  rw [HV.out] at d2
  clear hC1 hS1 hb hF d0 d1 t0 t1 t2
  go_wp2
  refine bodyPost_ret (v := .tuple #[.int .i64 V, .bool true]) (by simp [results, Tryz.results64, go_sem]) rfl ?_
  exact ⟨rfl, HB.out⟩
theorem get_no (b g n : Nat) (lv us : Int) (post : List Value) (ss : List Slot) (w : World) (k : ByteArray) (j : Nat) (hC : Cs w b (.slice (some ⟨g, 0, none⟩) n n :: .int .i64 lv :: .int .i64 us :: post)) (hS : Cs w g (slotsC ss)) (hn : ss.length = n) (hn2 : n ≤ 4611686018427387904) (hk : k.size ≤ maxLen)
    (he : Ends hashB ss k j false) :
    Calls Tryz.prog 64 #[.pointer (some ⟨b, 0, none⟩), .string k] w fun e w' => e = .returned (.tuple #[.int .i64 0, .bool false]) ∧ Below w.heap.size w w' := by
  have hF := Lib.hid (find_any b g n n lv us post ss w k j false hC hS hn hn2 hk (Nat.le_refl _) he)
  have hn0 : 0 < n := by have := he.lt; omega
  obtain ⟨q, hqq⟩ : ∃ q, (hashB k + j) % n = q := ⟨_, rfl⟩
  rw [hqq] at hF
  have c0 := hC.get 0 _
  have g1 := hC.lt
  have hnz : ((n : Int) == 0) = false := by rw [beq_eq_false_iff_ne]; omega
  clear hC hS hn hqq he
  go_enter Tryz.func64, Tryz.ntmps64
  go_wp2_with fail
  refine hF.out.mono ?_
  rintro e w1 ⟨rfl, hb⟩
  have HB := Lib.hid hb
  clear hb hF
  go_wp2
  refine bodyPost_ret (v := .tuple #[.int .i64 0, .bool false]) (by simp [results, Tryz.results64, go_sem]) rfl ?_
  exact ⟨rfl, HB.out⟩
theorem get_nil (b : Nat) (lv us : Int) (post : List Value) (w : World) (k : ByteArray) (hC : Cs w b (.slice none 0 0 :: .int .i64 lv :: .int .i64 us :: post)) :
    Calls Tryz.prog 64 #[.pointer (some ⟨b, 0, none⟩), .string k] w fun e w' => e = .returned (.tuple #[.int .i64 0, .bool false]) ∧ Below w.heap.size w w' := by
  have c0 := hC.get 0 _
  have g1 := hC.lt
  clear hC
  go_enter Tryz.func64, Tryz.ntmps64
  go_wp2_with fail
  refine bodyPost_ret (v := .tuple #[.int .i64 0, .bool false]) (by simp [results, Tryz.results64, go_sem]) rfl ?_
  exact ⟨rfl, Below.refl _ _⟩
/-- Del: of a word that is there; of one that is not. -/
theorem del_yes (b g n : Nat) (lv us : Nat) (post : List Value) (ss : List Slot) (w : World) (k : ByteArray) (j : Nat) (hC : Cs w b (.slice (some ⟨g, 0, none⟩) n n :: .int .i64 lv :: .int .i64 us :: post)) (hS : Cs w g (slotsC ss)) (hn : ss.length = n) (hn2 : n ≤ 4611686018427387904) (hk : k.size ≤ maxLen)
    (hbg : b ≠ g) (hlv : lv ≤ 4611686018427387904) (hlv1 : 1 ≤ lv) (he : Ends hashB ss k j true) :
    Calls Tryz.prog 56 #[.pointer (some ⟨b, 0, none⟩), .string k] w fun e w' => e = .returned (.bool true) ∧
      Cs w' b (.slice (some ⟨g, 0, none⟩) n n :: .int .i64 (lv - 1 : Nat) :: .int .i64 us :: post) ∧ Cs w' g (slotsC (ss.set ((hashB k + j) % n) ⟨2, ⟨#[]⟩, 0⟩)) ∧ Only (fun q => q = b ∨ q = g) w w' := by
  have hF := Lib.hid (find_any b g n n lv us post ss w k j true hC hS hn hn2 hk (Nat.le_refl _) he)
  have hn0 : 0 < n := by have := he.lt; omega
  obtain ⟨q, hqq⟩ : ∃ q, (hashB k + j) % n = q := ⟨_, rfl⟩
  rw [hqq] at hF ⊢
  have hqn : q < n := by rw [← hqq]; exact Nat.mod_lt _ hn0
  clear he hqq
  have HCC := Lib.hid hC
  have HSS := Lib.hid hS
  have HN := Lib.hid hn
  have c0 := hC.get 0 _
  have g1 := hC.lt
  have hnz : ((n : Int) == 0) = false := by rw [beq_eq_false_iff_ne]; omega
  clear hC hS hn
  go_enter Tryz.func56, Tryz.ntmps56
  go_wp2_with fail
  refine hF.out.mono ?_
  rintro e w1 ⟨rfl, hb⟩
  have hC1 := HCC.out.below hb
  have hS1 := HSS.out.below hb
  have HB := Lib.hid hb
  obtain ⟨d0, d1, d2, t0, t1, t2⟩ := slot_cells hS1 (q := q) (by rw [HN.out]; exact hqn)
  have c0 := hC1.get 0 _
  have c1 := hC1.get 1 _
  have f1 := hC1.froz 1 (by simp)
  have g1 := hC1.lt
  have g2 := hS1.lt
  have q0 : ¬ (q : Int) < 0 := by omega
  have q1 : (q : Int) < n := by omega
  have hgb := hbg.symm
  have H1 := Lib.hid hC1
  have H2 := Lib.hid hS1
  clear hC1 hS1 hb hF
  go_wp2
  go_ret
  refine ⟨rfl, ?_, ?_, ?_⟩
  · have h := (((H1.out.other g (q * 3) (.int .i64 2) hgb).other g (q * 3 + 1) (.string ⟨#[]⟩) hgb).other g (q * 3 + 2) (.int .i64 0) hgb).set' 1 (.int .i64 ((lv : Int) - 1)) (by simp)
    rw [show ((lv - 1 : Nat) : Int) = (lv : Int) - 1 by omega]
    simpa using h
  · have h := slot_write H2.out (q := q) (by rw [HN.out]; exact hqn) ⟨2, ⟨#[]⟩, 0⟩
    exact h.other b 1 _ hbg
  · exact ((((Only.of_below _ HB.out).setCell ⟨g, q * 3, none⟩ _ (fun _ => .inr rfl)).setCell ⟨g, q * 3 + 1, none⟩ _ (fun _ => .inr rfl)).setCell ⟨g, q * 3 + 2, none⟩ _ (fun _ => .inr rfl)).setCell ⟨b, 1, none⟩ _ (fun _ => .inl rfl)
theorem del_no (b g n : Nat) (lv us : Int) (post : List Value) (ss : List Slot) (w : World) (k : ByteArray) (j : Nat) (hC : Cs w b (.slice (some ⟨g, 0, none⟩) n n :: .int .i64 lv :: .int .i64 us :: post)) (hS : Cs w g (slotsC ss)) (hn : ss.length = n) (hn2 : n ≤ 4611686018427387904) (hk : k.size ≤ maxLen)
    (he : Ends hashB ss k j false) :
    Calls Tryz.prog 56 #[.pointer (some ⟨b, 0, none⟩), .string k] w fun e w' => e = .returned (.bool false) ∧ Below w.heap.size w w' := by
  have hF := Lib.hid (find_any b g n n lv us post ss w k j false hC hS hn hn2 hk (Nat.le_refl _) he)
  have hn0 : 0 < n := by have := he.lt; omega
  obtain ⟨q, hqq⟩ : ∃ q, (hashB k + j) % n = q := ⟨_, rfl⟩
  rw [hqq] at hF
  have c0 := hC.get 0 _
  have g1 := hC.lt
  have hnz : ((n : Int) == 0) = false := by rw [beq_eq_false_iff_ne]; omega
  clear hC hS hn hqq he
  go_enter Tryz.func56, Tryz.ntmps56
  go_wp2_with fail
  refine hF.out.mono ?_
  rintro e w1 ⟨rfl, hb⟩
  have HB := Lib.hid hb
  clear hb hF
  go_wp2
  go_ret
  exact ⟨rfl, HB.out⟩
theorem del_nil (b : Nat) (lv us : Int) (post : List Value) (w : World) (k : ByteArray) (hC : Cs w b (.slice none 0 0 :: .int .i64 lv :: .int .i64 us :: post)) :
    Calls Tryz.prog 56 #[.pointer (some ⟨b, 0, none⟩), .string k] w fun e w' => e = .returned (.bool false) ∧ Below w.heap.size w w' := by
  have c0 := hC.get 0 _
  have g1 := hC.lt
  clear hC
  go_enter Tryz.func56, Tryz.ntmps56
  go_wp2_with fail
  go_ret
  exact ⟨rfl, Below.refl _ _⟩
end Go.Proofs.YtkdknfedieeenaaGreatDoor
namespace Go.Proofs.YtkdknfedieeenaaGreatDoor
open Go.RowKit
set_option linter.unusedVariables false
set_option maxRecDepth 20000
theorem slot_info : (Tryz.prog.info? 170).map (fun i => (i.zero, i.size, i.bytes)) = some (some (.agg #[.int .i64 0, .string ByteArray.empty, .int .i64 0]), 3, 32) := by kernel_rfl
theorem made_slots (m : Nat) : (madeCells (Value.agg #[.int .i64 0, .string ByteArray.empty, .int .i64 0]).cells (m * 3)).toList = slotsC (List.replicate m noSlot) := by
  have hc : (Value.agg #[.int .i64 0, .string ByteArray.empty, .int .i64 0]).cells = #[.int .i64 0, .string ⟨#[]⟩, .int .i64 0] := by kernel_rfl
  rw [hc]
  apply List.ext_getElem?
  intro i
  by_cases hi : i < m * 3
  · have h3 : i / 3 < m := by omega
    have hs := slotsC_get (List.replicate m noSlot) (i / 3) (i % 3) (by simpa using h3) (Nat.mod_lt _ (by decide))
    rw [show i / 3 * 3 + i % 3 = i by omega] at hs
    rw [hs, List.getElem_replicate]
    unfold madeCells
    rw [Array.toList_map, List.getElem?_map, Array.toList_range, List.getElem?_range hi]
    have : i % 3 = 0 ∨ i % 3 = 1 ∨ i % 3 = 2 := by omega
    rcases this with h | h | h <;> simp [h, slotC, noSlot] <;> rfl
  · rw [List.getElem?_eq_none, List.getElem?_eq_none]
    · rw [slotsC_len]; simp; omega
    · simp [madeCells]; omega
theorem make_slots (m : Nat) (hm : m ≤ 4398046511104) (w : World) : ∃ AR : Array Value, AR.toList = slotsC (List.replicate m noSlot) ∧ ∀ w, (Instr.makeSlice 124 (.int .i64 m) (.int .i64 m)).run Tryz.prog w = .ok (.slice (some ⟨w.heap.size, 0, none⟩) m m) (w.alloc (.cells AR 170)) := by
  obtain ⟨i, hi, hz, hs, hb⟩ := info_parts slot_info
  refine ⟨_, made_slots m, fun w => ?_⟩
  have h := run_make (P := Tryz.prog) w 124 170 i _ Tryz.underlying124 hi hz .i64 .i64 m m (by omega) (Int.le_refl _) (by rw [hb]; omega) (by omega)
  rw [hs, Int.toNat_natCast] at h
  exact h
/-- What renew leaves. -/
def RenewR (w : World) (b : Nat) (post : List Value) (M : ByteArray → Option Int) (lv : Nat) (e : Ending) (w' : World) : Prop :=
  e = .returned (.tuple #[]) ∧ ∃ (g m : Nat) (ss' : List Slot), Cs w' b (.slice (some ⟨g, 0, none⟩) m m :: .int .i64 lv :: .int .i64 lv :: post) ∧ Cs w' g (slotsC ss') ∧ ss'.length = m ∧ TI hashB ss' M ∧ lives ss' = lv ∧ fulls ss' = lv ∧
    4 * (lv + 1) ≤ m ∧ (m = 8 ∨ m < 8 * (lv + 1)) ∧ 8 ≤ m ∧ w.heap.size ≤ g ∧ Only (fun q => q = b) w w'
/-- In the midst of it: k slots are laid anew. -/
def RenewL (w : World) (b g m : Nat) (post : List Value) (ss : List Slot) (k : Nat) (wr : World) : Prop :=
  ∃ ssk : List Slot, Cs wr b (.slice (some ⟨g, 0, none⟩) m m :: .int .i64 (liveTo ss k : Nat) :: .int .i64 (liveTo ss k : Nat) :: post) ∧ Cs wr g (slotsC ssk) ∧ ssk.length = m ∧ TI hashB ssk (headM ss k) ∧ lives ssk = liveTo ss k ∧ fulls ssk = liveTo ss k ∧ Only (fun q => q = b) w wr
theorem RenewL.start {w w2 : World} {b g m : Nat} {post : List Value} {ss : List Slot} (hC : Cs w2 b (.slice (some ⟨g, 0, none⟩) m m :: .int .i64 0 :: .int .i64 0 :: post)) (hS : Cs w2 g (slotsC (List.replicate m noSlot))) (ho : Only (fun q => q = b) w w2) : RenewL w b g m post ss 0 w2 :=
  ⟨List.replicate m noSlot, by simpa [liveTo, lives] using hC, hS, by simp, TI.empty hashB m, by rw [lives_empty]; simp [liveTo, lives], by rw [fulls_empty]; simp [liveTo, lives], ho⟩
theorem RenewL.skip {w wr w2 : World} {b g m k : Nat} {post : List Value} {ss : List Slot} (h : RenewL w b g m post ss k wr) (hk : k < ss.length) (h1 : (sl ss k).st ≠ 1) (ho : Below wr.heap.size wr w2) : RenewL w b g m post ss (k + 1) w2 := by
  obtain ⟨ssk, a1, a2, a3, a4, a5, a6, a7⟩ := h
  have e1 : liveTo ss (k + 1) = liveTo ss k := by rw [liveTo_next hk, if_neg h1]; rfl
  have e2 : headM ss (k + 1) = headM ss k := by rw [headM, if_neg h1]
  refine ⟨ssk, ?_, a2.below ho, a3, ?_, ?_, ?_, a7.trans (Only.of_below (fun q => q = b) ho) (fun _ _ e => e)⟩
  · rw [e1]; exact a1.below ho
  · rw [e2]; exact a4
  · rw [e1]; exact a5
  · rw [e1]; exact a6
/-- The slot's word is laid. -/
theorem RenewL.lay {w wr : World} {b g m k : Nat} {post : List Value} {ss : List Slot} {M : ByteArray → Option Int} (h : RenewL w b g m post ss k wr) (hI : TI hashB ss M) (hk : k < ss.length) (h1 : (sl ss k).st = 1) (hm : lives ss < m) (hmx : m ≤ 4398046511104) (hbg : b ≠ g) (hg : w.heap.size ≤ g) (w1 : World) (hb1 : Below wr.heap.size wr w1) :
    Calls Tryz.prog 96 #[.pointer (some ⟨b, 0, none⟩), .string (sl ss k).key, .int .i64 (sl ss k).val] w1 fun e w' => e = .returned (.tuple #[]) ∧ RenewL w b g m post ss (k + 1) w' := by
  obtain ⟨ssk, a1, a2, a3, a4, a5, a6, a7⟩ := h
  have e1 : liveTo ss (k + 1) = liveTo ss k + 1 := by rw [liveTo_next hk, if_pos h1]
  have hle := liveTo_le ss (k + 1)
  obtain ⟨j, bb, he, hno⟩ := ends_ex a4.ok (empty_ex ssk (by rw [a6, a3]; omega)) (sl ss k).key
  have hnew := headM_new hI.ok hk h1
  cases bb with
  | true => have := a4.found he; rw [hnew] at this; cases this
  | false =>
    have b1 := a1.below hb1
    have b2 := a2.below hb1
    refine (lay_any b g m (liveTo ss k) (liveTo ss k) post ssk w1 (sl ss k).key (sl ss k).val j b1 b2 a3 (by omega) (hI.sm k) hbg (by omega) (by omega) he).mono ?_
    rintro e w' ⟨rfl, c1, c2, c3⟩
    have hi : (hashB (sl ss k).key + j) % ssk.length < ssk.length := mod_in he.lt
    rw [a3] at hi
    have hno' := he.no rfl
    rw [a3] at hno'
    have t1 := a4.put_new he hnew (sl ss k).val (hI.sm k)
    rw [a3] at t1
    have t2 := lives_set ssk _ ⟨1, (sl ss k).key, (sl ss k).val⟩ (by rw [a3]; exact hi)
    have t3 := fulls_set ssk _ ⟨1, (sl ss k).key, (sl ss k).val⟩ (by rw [a3]; exact hi)
    rw [hno'] at t2 t3
    simp at t2 t3
    refine ⟨rfl, _, by rw [e1]; exact c1, c2, by simpa using a3, ?_, by rw [e1]; omega, by rw [e1]; omega, ?_⟩
    · rw [headM, if_pos h1]; exact t1
    · have := (a7.trans (Only.of_below (fun q => q = b) hb1) (fun _ _ e => e)).trans c3 (S := fun q => q = b) (fun q hq e => by
        rcases e with e | e
        · exact e
        · subst e; omega)
      exact this
set_option maxHeartbeats 1600000 in
theorem renew_any (w : World) (b : Nat) (post : List Value) (ss : List Slot) (V : Value) (lv us n : Nat) (M : ByteArray → Option Int) (hT : TabS w b post ss V lv us) (hI : TI hashB ss M) (hl : lives ss = lv) (hlv : lv ≤ 68719476736) (hn : ss.length = n) (hnn : n ≤ 4398046511104) :
    Calls Tryz.prog 95 #[.pointer (some ⟨b, 0, none⟩)] w (RenewR w b post M lv) := by
  obtain ⟨A, hV, hA⟩ : ∃ A, V = .slice A n n ∧ (0 < n → ∃ g0, A = some ⟨g0, 0, none⟩ ∧ g0 ≠ b ∧ Cs w g0 (slotsC ss)) := by
    rcases hT.slots with ⟨h1, h2⟩ | ⟨g, e1, e2, e3, e4⟩
    · subst h1; simp at hn; subst hn; exact ⟨none, h2, fun h => by omega⟩
    · rw [hn] at e1; exact ⟨_, e1, fun _ => ⟨g, rfl, e2, e3⟩⟩
  subst hV
  have hC := hT.own
  have c0 := hC.get 0 _
  have c1 := hC.get 1 _
  have c2 := hC.get 2 _
  have f0 := hC.froz 0 (by simp)
  have f1 := hC.froz 1 (by simp)
  have f2 := hC.froz 2 (by simp)
  have g1 := hC.lt
  have HC := Lib.hid hC
  have HA := Lib.hid hA
  have HI := Lib.hid hI
  have HL := Lib.hid hl
  have HN := Lib.hid hn
  clear hC hA hI hl hn hT
  go_enter Tryz.func95, Tryz.ntmps95
  go_wp2_with fail
  go_loopw [2] (fun v wr => ∃ m : Nat, v = .int .i64 m ∧ 8 ≤ m ∧ (m = 8 ∨ m < 8 * (lv + 1)) ∧ wr = w) (fun v _ => 4 * (lv + 1) - (intOf v).toNat)
  case atStart => exact ⟨8, rfl, by omega, .inl rfl, rfl⟩
  case round =>
    obtain ⟨m, rfl, hm8, hmx, hw⟩ := hrel
    obtain rfl := hw.symm
    by_cases hlt : m < 4 * (lv + 1)
    · have hlt' : (m : Int) < 4 * ((lv : Int) + 1) := by omega
      go_wp2_with fail
      go_round
      case rel => exact ⟨m * 2, by go_num, by omega, by omega, by first | trivial | rfl⟩
      case measure => simp [intOf]; omega
    · have hlt' : ¬ (m : Int) < 4 * ((lv : Int) + 1) := by omega
      have hm4 : 4 * (lv + 1) ≤ m := by omega
      have hmb : m ≤ 4398046511104 := by omega
      obtain ⟨AR, hAR, hmk⟩ := make_slots m hmb w
      have HAR := Lib.hid hAR
      clear hAR
      obtain ⟨G, hG⟩ : ∃ G, G = w.heap.size := ⟨_, rfl⟩
      have HG := Lib.hid hG
      clear hG
      have hbG : b ≠ G := by have := HG.out; omega
      go_wp2_with fail
      go_loopw [27] (fun v w2 => ∃ k : Nat, k ≤ n ∧ v = .int .i64 k ∧ Hid (RenewL w b G m post ss k w2)) (fun v _ => n - (intOf v).toNat)
      case atStart =>
        refine ⟨0, Nat.zero_le _, rfl, Lib.hid ?_⟩
        obtain ⟨W3, hW3⟩ : ∃ W3, (((w.setCell ⟨b, 0, none⟩ (.slice (some ⟨w.heap.size, 0, none⟩) m m)).setCell ⟨b, 1, none⟩ (.int .i64 0)).setCell ⟨b, 2, none⟩ (.int .i64 0)) = W3 := ⟨_, rfl⟩
        have hz : W3.heap.size = w.heap.size := by rw [← hW3]; simp
        rw [hW3]
        have hA3 : Cs W3 b (.slice (some ⟨G, 0, none⟩) m m :: .int .i64 0 :: .int .i64 0 :: post) := by
          rw [← hW3, HG.out]
          exact ((HC.out.set' 0 (.slice (some ⟨w.heap.size, 0, none⟩) m m) (by simp)).set' 1 (.int .i64 0) (by simp)).set' 2 (.int .i64 0) (by simp)
        have hO3 : Only (fun q => q = b) w W3 := by
          rw [← hW3]
          exact (((Only.refl (fun q => q = b) w).setCell ⟨b, 0, none⟩ _ (fun _ => rfl)).setCell ⟨b, 1, none⟩ _ (fun _ => rfl)).setCell ⟨b, 2, none⟩ _ (fun _ => rfl)
        have hn3 : Cs (W3.alloc (.cells AR 170)) W3.heap.size (slotsC (List.replicate m noSlot)) := Cs.new W3 AR _ _ HAR.out
        exact RenewL.start (hA3.alloc _) (hn3.at_ _ (by rw [hz, HG.out])) (hO3.alloc _)
      case round =>
        obtain ⟨k, hk, rfl, HR⟩ := hrel
        by_cases hkn : k < n
        · have hkn' : (k : Int) < n := by omega
          have hk0 : ¬ (k : Int) < 0 := by omega
          obtain ⟨g0, rfl, hg0, hS0⟩ := HA.out (by omega)
          have hS2 : Cs w g0 (slotsC ss) := hS0
          have hRo : Only (fun q => q = b) w wr := by obtain ⟨_, _, _, _, _, _, _, h⟩ := HR.out; exact h
          obtain ⟨d0, d1, d2, -, -, -⟩ := slot_cells (hRo.cs hS0 hg0) (q := k) (by rw [HN.out]; exact hkn)
          have z1 := (hRo.cs hS0 hg0).lt
          have hkl : k < ss.length := by rw [HN.out]; exact hkn
          have LAY : Hid ((sl ss k).st = 1 → ∀ w1, Below wr.heap.size wr w1 → Calls Tryz.prog 96 #[.pointer (some ⟨b, 0, none⟩), .string (sl ss k).key, .int .i64 (sl ss k).val] w1 fun e w' => e = .returned (.tuple #[]) ∧ RenewL w b G m post ss (k + 1) w') :=
            Lib.hid (fun h1 w1 hb1 => RenewL.lay HR.out HI.out hkl h1 (by rw [HL.out]; omega) hmb hbG (by rw [HG.out]; exact Nat.le_refl _) w1 hb1)
          have SK : Hid ((sl ss k).st ≠ 1 → ∀ w1, Below wr.heap.size wr w1 → RenewL w b G m post ss (k + 1) w1) := Lib.hid (fun h1 w1 hb1 => RenewL.skip HR.out hkl h1 hb1)
          generalize sl ss k = s at *
          obtain ⟨st, key, val⟩ := s
          simp only at d0 d1 d2 LAY SK
          clear hS2 hRo hS0 hkl
          by_cases h1 : st = 1
          · subst h1
            have LAY2 := Lib.hid (LAY.out rfl)
            clear LAY SK
            go_wp2_with fail
            refine (LAY2.out _ ((Below.refl _ _).alloc (Nat.le_refl _) _)).mono ?_
            rintro e w5 ⟨rfl, hL5⟩
            have HL5 := Lib.hid hL5
            clear hL5
            go_wp2_with fail
            go_roundw
            case rel => exact ⟨k + 1, by omega, by go_num, HL5⟩
            case measure => simp [intOf]; omega
          · have h1' : ((st : Int) == 1) = false := by rw [beq_eq_false_iff_ne]; omega
            have SK2 := Lib.hid (SK.out h1)
            clear LAY SK
            go_wp2_with fail
            go_roundw
            case rel => exact ⟨k + 1, by omega, by go_num, Lib.hid (SK2.out _ ((Below.refl _ _).alloc (Nat.le_refl _) _))⟩
            case measure => simp [intOf]; omega
        · obtain rfl : k = n := by omega
          have hkn' : ¬ (k : Int) < k := by omega
          go_wp2_with fail
          go_end0
          obtain ⟨ssk, a1, a2, a3, a4, a5, a6, a7⟩ := HR.out
          have e1 : liveTo ss k = lv := by rw [← HN.out, liveTo_all, HL.out]
          have e2 : headM ss k = M := by rw [← HN.out]; exact headM_all HI.out
          rw [e1] at a1 a5 a6
          rw [e2] at a4
          exact ⟨rfl, G, m, ssk, a1, a2, a3, a4, a5, a6, hm4, hmx, hm8, by rw [HG.out]; exact Nat.le_refl _, a7⟩
end Go.Proofs.YtkdknfedieeenaaGreatDoor
namespace Go.Proofs.YtkdknfedieeenaaGreatDoor
open Go.RowKit
set_option linter.unusedVariables false
set_option maxRecDepth 20000
theorem put_old (b g n : Nat) (lv us : Int) (post : List Value) (ss : List Slot) (w : World) (k : ByteArray) (v : Int) (j : Nat) (hC : Cs w b (.slice (some ⟨g, 0, none⟩) n n :: .int .i64 lv :: .int .i64 us :: post)) (hS : Cs w g (slotsC ss)) (hn : ss.length = n) (hn2 : n ≤ 4398046511104) (hk : k.size ≤ maxLen)
    (hbg : b ≠ g) (he : Ends hashB ss k j true) :
    Calls Tryz.prog 60 #[.pointer (some ⟨b, 0, none⟩), .string k, .int .i64 v] w fun e w' => e = .returned (.bool false) ∧
      Cs w' b (.slice (some ⟨g, 0, none⟩) n n :: .int .i64 lv :: .int .i64 us :: post) ∧ Cs w' g (slotsC (ss.set ((hashB k + j) % n) ⟨1, k, v⟩)) ∧ Only (fun q => q = b ∨ q = g) w w' := by
  have hF := Lib.hid (find_any b g n n lv us post ss w k j true hC hS hn (by omega) hk (Nat.le_refl _) he)
  have hn0 : 0 < n := by have := he.lt; omega
  have HY := Lib.hid (he.yes rfl)
  rw [hn] at HY
  obtain ⟨q, hqq⟩ : ∃ q, (hashB k + j) % n = q := ⟨_, rfl⟩
  rw [hqq] at hF HY ⊢
  have hqn : q < n := by rw [← hqq]; exact Nat.mod_lt _ hn0
  clear he hqq
  have HCC := Lib.hid hC
  have HSS := Lib.hid hS
  have HN := Lib.hid hn
  have c0 := hC.get 0 _
  have g1 := hC.lt
  have hnz : (0 : Int) < n := by omega
  clear hC hS hn
  go_enter Tryz.func60, Tryz.ntmps60
  go_wp2_with fail
  refine hF.out.mono ?_
  rintro e w1 ⟨rfl, hb⟩
  have hC1 := HCC.out.below hb
  have hS1 := HSS.out.below hb
  have HB := Lib.hid hb
  obtain ⟨d0, d1, d2, t0, t1, t2⟩ := slot_cells hS1 (q := q) (by rw [HN.out]; exact hqn)
  have c0 := hC1.get 0 _
  have g1 := hC1.lt
  have g2 := hS1.lt
  have q0 : ¬ (q : Int) < 0 := by omega
  have q1 : (q : Int) < n := by omega
  have hgb := hbg.symm
  have H1 := Lib.hid hC1
  have H2 := Lib.hid hS1
  clear hC1 hS1 hb hF d0 d1 t0 t1
  go_wp2
  go_ret
  refine ⟨rfl, H1.out.other g (q * 3 + 2) _ hgb, ?_, (Only.of_below _ HB.out).setCell ⟨g, q * 3 + 2, none⟩ _ (fun _ => .inr rfl)⟩
  have h := slot_write1 H2.out (q := q) (by rw [HN.out]; exact hqn) v
  rw [HY.out.1, HY.out.2] at h
  exact h
theorem put_room (b g n : Nat) (lv us : Nat) (post : List Value) (ss : List Slot) (w : World) (k : ByteArray) (v : Int) (j : Nat) (hC : Cs w b (.slice (some ⟨g, 0, none⟩) n n :: .int .i64 lv :: .int .i64 us :: post)) (hS : Cs w g (slotsC ss)) (hn : ss.length = n) (hn2 : n ≤ 4398046511104) (hk : k.size ≤ maxLen)
    (hbg : b ≠ g) (hlv : lv ≤ 68719476736) (hus : 2 * (us + 1) ≤ n) (he : Ends hashB ss k j false) :
    Calls Tryz.prog 60 #[.pointer (some ⟨b, 0, none⟩), .string k, .int .i64 v] w fun e w' => e = .returned (.bool true) ∧
      Cs w' b (.slice (some ⟨g, 0, none⟩) n n :: .int .i64 (lv + 1 : Nat) :: .int .i64 (us + 1 : Nat) :: post) ∧ Cs w' g (slotsC (ss.set ((hashB k + j) % n) ⟨1, k, v⟩)) ∧ Only (fun q => q = b ∨ q = g) w w' := by
  have hF := Lib.hid (find_any b g n n lv us post ss w k j false hC hS hn (by omega) hk (Nat.le_refl _) he)
  have hn0 : 0 < n := by have := he.lt; omega
  have HL : Hid (∀ w1, Below w.heap.size w w1 → Calls Tryz.prog 96 #[.pointer (some ⟨b, 0, none⟩), .string k, .int .i64 v] w1 fun e w' => e = .returned (.tuple #[]) ∧
      Cs w' b (.slice (some ⟨g, 0, none⟩) n n :: .int .i64 (lv + 1 : Nat) :: .int .i64 (us + 1 : Nat) :: post) ∧ Cs w' g (slotsC (ss.set ((hashB k + j) % n) ⟨1, k, v⟩)) ∧ Only (fun q => q = b ∨ q = g) w1 w') :=
    Lib.hid (fun w1 hb => lay_any b g n lv us post ss w1 k v j (hC.below hb) (hS.below hb) hn (by omega) hk hbg (by omega) (by omega) he)
  obtain ⟨q, hqq⟩ : ∃ q, (hashB k + j) % n = q := ⟨_, rfl⟩
  rw [hqq] at hF HL ⊢
  clear he hqq
  have HCC := Lib.hid hC
  have c0 := hC.get 0 _
  have g1 := hC.lt
  have hnz : (0 : Int) < n := by omega
  clear hC hS hn
  go_enter Tryz.func60, Tryz.ntmps60
  go_wp2_with fail
  refine hF.out.mono ?_
  rintro e w1 ⟨rfl, hb⟩
  have hC1 := HCC.out.below hb
  have HB := Lib.hid hb
  have c0 := hC1.get 0 _
  have c2 := hC1.get 2 _
  have g1 := hC1.lt
  have hi1 : IntKind.i64.wrap ((us : Int) + 1) = (us : Int) + 1 := IntWalk.i64_in _ (by omega)
  have hi2 : IntKind.i64.wrap (2 * ((us : Int) + 1)) = 2 * ((us : Int) + 1) := IntWalk.i64_in _ (by omega)
  have hgt : decide ((n : Int) < 2 * ((us : Int) + 1)) = false := by simp; omega
  clear hC1 hb hF
  go_wp2_with fail
  go_quiet (fail)
  generalize hwd : w1.drewN _ = wd
  have HBd : Hid (Below w.heap.size w wd) := Lib.hid (by rw [← hwd]; exact below_drewN HB.out _)
  clear hwd
  go_wp2_with fail
  refine (HL.out _ HBd.out).mono ?_
  rintro e w3 ⟨rfl, a1, a2, a3⟩
  have A1 := Lib.hid a1
  have A2 := Lib.hid a2
  have A3 := Lib.hid a3
  clear a1 a2 a3
  go_wp2
  go_ret
  exact ⟨rfl, A1.out, A2.out, (Only.of_below (fun q => q = b ∨ q = g) HBd.out).trans A3.out (fun _ _ e => e)⟩
/-- What a Put behind a renewal leaves. -/
def PutN (w : World) (b : Nat) (post : List Value) (M : ByteArray → Option Int) (lv : Nat) (k : ByteArray) (v : Int) (e : Ending) (w' : World) : Prop :=
  e = .returned (.bool true) ∧ ∃ (g m : Nat) (ss' : List Slot), Cs w' b (.slice (some ⟨g, 0, none⟩) m m :: .int .i64 (lv + 1 : Nat) :: .int .i64 (lv + 1 : Nat) :: post) ∧ Cs w' g (slotsC ss') ∧ ss'.length = m ∧ TI hashB ss' (upd M k (some v)) ∧ lives ss' = lv + 1 ∧ fulls ss' = lv + 1 ∧
    4 * (lv + 1) ≤ m ∧ (m = 8 ∨ m < 8 * (lv + 1)) ∧ 8 ≤ m ∧ w.heap.size ≤ g ∧ g ≠ b ∧ Only (fun q => q = b) w w'
/-- lay behind renew. -/
theorem lay_renewed {w w1 : World} {b lv : Nat} {post : List Value} {M : ByteArray → Option Int} {e : Ending} (h : RenewR w b post M lv e w1) (hb : b < w.heap.size) (k : ByteArray) (v : Int) (hk : k.size ≤ maxLen) (hm : M k = none) (hlv : lv ≤ 68719476736) :
    Calls Tryz.prog 96 #[.pointer (some ⟨b, 0, none⟩), .string k, .int .i64 v] w1 fun e w' => e = .returned (.tuple #[]) ∧ PutN w b post M lv k v (.returned (.bool true)) w' := by
  obtain ⟨-, g, m, ss, a1, a2, a3, a4, a5, a6, a7, a8, a9, a10, a11⟩ := h
  obtain ⟨j, bb, he, hno⟩ := ends_ex a4.ok (empty_ex ss (by rw [a6, a3]; omega)) k
  cases bb with
  | true => have := a4.found he; rw [hm] at this; cases this
  | false =>
    have hbg : b ≠ g := by omega
    refine (lay_any b g m lv lv post ss w1 k v j a1 a2 a3 (by omega) hk hbg (by omega) (by omega) he).mono ?_
    rintro e w' ⟨rfl, c1, c2, c3⟩
    have hi : (hashB k + j) % ss.length < ss.length := mod_in he.lt
    have hno' := he.no rfl
    have t1 := a4.put_new he hm v hk
    rw [a3] at hi hno' t1
    have t2 := lives_set ss _ ⟨1, k, v⟩ (by rw [a3]; exact hi)
    have t3 := fulls_set ss _ ⟨1, k, v⟩ (by rw [a3]; exact hi)
    rw [hno'] at t2 t3
    simp at t2 t3
    refine ⟨rfl, rfl, g, m, _, c1, c2, by simpa using a3, t1, by omega, by omega, a7, a8, a9, a10, hbg.symm, ?_⟩
    exact a11.trans c3 (fun q hq e => by
      rcases e with e | e
      · exact e
      · subst e; omega)
theorem put_full (b g n : Nat) (lv us : Nat) (post : List Value) (ss : List Slot) (w : World) (k : ByteArray) (v : Int) (j : Nat) (M : ByteArray → Option Int) (hC : Cs w b (.slice (some ⟨g, 0, none⟩) n n :: .int .i64 lv :: .int .i64 us :: post)) (hS : Cs w g (slotsC ss)) (hn : ss.length = n) (hn2 : n ≤ 4398046511104) (hk : k.size ≤ maxLen)
    (hbg : g ≠ b) (hlv : lv ≤ 68719476736) (hus : n < 2 * (us + 1)) (hus2 : us ≤ n) (hI : TI hashB ss M) (hl : lives ss = lv) (hm : M k = none) (he : Ends hashB ss k j false) :
    Calls Tryz.prog 60 #[.pointer (some ⟨b, 0, none⟩), .string k, .int .i64 v] w (PutN w b post M lv k v) := by
  have hF := Lib.hid (find_any b g n n lv us post ss w k j false hC hS hn (by omega) hk (Nat.le_refl _) he)
  have hn0 : 0 < n := by have := he.lt; omega
  have HL : Hid (∀ w1, Below w.heap.size w w1 → Calls Tryz.prog 95 #[.pointer (some ⟨b, 0, none⟩)] w1 (RenewR w1 b post M lv)) :=
    Lib.hid (fun w1 hb => renew_any w1 b post ss (.slice (some ⟨g, 0, none⟩) n n) lv us n M ⟨hC.below hb, .inr ⟨g, by rw [hn], hbg, hS.below hb, by omega⟩⟩ hI hl hlv hn hn2)
  obtain ⟨q, hqq⟩ : ∃ q, (hashB k + j) % n = q := ⟨_, rfl⟩
  rw [hqq] at hF
  clear he hqq
  have HCC := Lib.hid hC
  have c0 := hC.get 0 _
  have g1 := hC.lt
  have hnz : (0 : Int) < n := by omega
  have HM := Lib.hid hm
  have HK := Lib.hid hk
  clear hC hS hn hI hl hm
  go_enter Tryz.func60, Tryz.ntmps60
  go_wp2_with fail
  refine hF.out.mono ?_
  rintro e w1 ⟨rfl, hb⟩
  have hC1 := HCC.out.below hb
  have HB := Lib.hid hb
  have c0 := hC1.get 0 _
  have c2 := hC1.get 2 _
  have g2 := hC1.lt
  have hi1 : IntKind.i64.wrap ((us : Int) + 1) = (us : Int) + 1 := IntWalk.i64_in _ (by omega)
  have hi2 : IntKind.i64.wrap (2 * ((us : Int) + 1)) = 2 * ((us : Int) + 1) := IntWalk.i64_in _ (by omega)
  have hgt : decide ((n : Int) < 2 * ((us : Int) + 1)) = true := by simp; omega
  clear hC1 hb hF
  go_wp2_with fail
  go_quiet (fail)
  generalize hwd : w1.drewN _ = wd
  have HBd : Hid (Below w.heap.size w wd) := Lib.hid (by rw [← hwd]; exact below_drewN HB.out _)
  clear hwd
  go_wp2_with fail
  refine (HL.out _ HBd.out).mono ?_
  intro e w3 hR
  obtain rfl := hR.1
  have HL2 := Lib.hid (lay_renewed hR (Nat.lt_of_lt_of_le g1 HBd.out.size) k v HK.out HM.out hlv)
  clear hR
  go_wp2_with fail
  refine HL2.out.mono ?_
  rintro e w4 ⟨rfl, hP⟩
  have HP := Lib.hid hP
  clear hP
  go_wp2
  go_ret
  obtain ⟨-, g', m, ss', a1, a2, a3, a4, a5, a6, a7, a8, a9, a10, a11, a12⟩ := HP.out
  exact ⟨rfl, g', m, ss', a1, a2, a3, a4, a5, a6, a7, a8, a9, Nat.le_trans HBd.out.size a10, a11, (Only.of_below (fun q => q = b) HBd.out).trans a12 (fun _ _ e => e)⟩
theorem put_nil (b : Nat) (post : List Value) (w : World) (k : ByteArray) (v : Int) (M : ByteArray → Option Int) (hC : Cs w b (.slice none 0 0 :: .int .i64 (0 : Nat) :: .int .i64 (0 : Nat) :: post)) (hk : k.size ≤ maxLen)
    (hI : TI hashB [] M) :
    Calls Tryz.prog 60 #[.pointer (some ⟨b, 0, none⟩), .string k, .int .i64 v] w (PutN w b post M 0 k v) := by
  have HL : Hid (∀ w1, Below w.heap.size w w1 → Calls Tryz.prog 95 #[.pointer (some ⟨b, 0, none⟩)] w1 (RenewR w1 b post M 0)) :=
    Lib.hid (fun w1 hb => renew_any w1 b post [] (.slice none 0 0) 0 0 0 M ⟨hC.below hb, .inl ⟨rfl, rfl⟩⟩ hI rfl (by omega) rfl (by omega))
  have HM : Hid (M k = none) := Lib.hid (by
    cases h : M k with
    | none => rfl
    | some x => obtain ⟨i, ⟨hi, _⟩, _⟩ := (hI.rep k x).1 h; simp at hi)
  have c0 := hC.get 0 _
  have c2 := hC.get 2 _
  have g1 := hC.lt
  have HK := Lib.hid hk
  clear hC hI hk
  go_enter Tryz.func60, Tryz.ntmps60
  go_wp2_with fail
  go_quiet (fail)
  generalize hwd : w.drewN _ = wd
  have HBd : Hid (Below w.heap.size w wd) := Lib.hid (by rw [← hwd]; exact below_drewN (Below.refl _ _) _)
  clear hwd
  go_wp2_with fail
  refine (HL.out _ HBd.out).mono ?_
  intro e w3 hR
  obtain rfl := hR.1
  have HL2 := Lib.hid (lay_renewed hR (Nat.lt_of_lt_of_le g1 HBd.out.size) k v HK.out HM.out (by omega))
  clear hR
  go_wp2_with fail
  refine HL2.out.mono ?_
  rintro e w4 ⟨rfl, hP⟩
  have HP := Lib.hid hP
  clear hP
  go_wp2
  go_ret
  obtain ⟨-, g', m, ss', a1, a2, a3, a4, a5, a6, a7, a8, a9, a10, a11, a12⟩ := HP.out
  exact ⟨rfl, g', m, ss', a1, a2, a3, a4, a5, a6, a7, a8, a9, Nat.le_trans HBd.out.size a10, a11, (Only.of_below (fun q => q = b) HBd.out).trans a12 (fun _ _ e => e)⟩
end Go.Proofs.YtkdknfedieeenaaGreatDoor
namespace Go.Proofs.YtkdknfedieeenaaGreatDoor
open Go.RowKit
set_option linter.unusedVariables false
set_option maxRecDepth 20000
/-- The table at block b has the numbers M of so many words (lv), of which there were never more than most. -/
structure TabOf (most : Nat) (w : World) (b : Nat) (post : List Value) (V : Value) (M : ByteArray → Option Int) (lv us n : Nat) (ss : List Slot) : Prop where
  mem : TabS w b post ss V lv us
  ti : TI hashB ss M
  live : lives ss = lv
  full : fulls ss = us
  len : ss.length = n
  half : 2 * us ≤ n
  some_ : n = 0 ∨ 8 ≤ n
  few : n ≤ max 8 (8 * most)
  most_ : lv ≤ most
def Tab (most : Nat) (w : World) (b : Nat) (post : List Value) (V : Value) (M : ByteArray → Option Int) (lv us n : Nat) : Prop := ∃ ss, TabOf most w b post V M lv us n ss
section
variable {most : Nat} {w w' : World} {b : Nat} {post : List Value} {V : Value} {M : ByteArray → Option Int} {lv us n : Nat}
theorem Tab.below (h : Tab most w b post V M lv us n) (hb : Below w.heap.size w w') : Tab most w' b post V M lv us n := by
  obtain ⟨ss, h⟩ := h
  exact ⟨ss, h.mem.below hb, h.ti, h.live, h.full, h.len, h.half, h.some_, h.few, h.most_⟩
theorem Tab.lt (h : Tab most w b post V M lv us n) : b < w.heap.size := by obtain ⟨ss, h⟩ := h; exact h.mem.own.lt
theorem Tab.own (h : Tab most w b post V M lv us n) : Cs w b (V :: .int .i64 lv :: .int .i64 us :: post) := by obtain ⟨ss, h⟩ := h; exact h.mem.own
theorem Tab.half (h : Tab most w b post V M lv us n) : 2 * us ≤ n := by obtain ⟨ss, h⟩ := h; exact h.half
theorem Tab.lu (h : Tab most w b post V M lv us n) : lv ≤ us := by obtain ⟨ss, h⟩ := h; rw [← h.live, ← h.full]; exact lives_le ss
theorem Tab.some_ (h : Tab most w b post V M lv us n) : n = 0 ∨ 8 ≤ n := by obtain ⟨ss, h⟩ := h; exact h.some_
theorem Tab.few (h : Tab most w b post V M lv us n) : n ≤ max 8 (8 * most) := by obtain ⟨ss, h⟩ := h; exact h.few
theorem Tab.most_ (h : Tab most w b post V M lv us n) : lv ≤ most := by obtain ⟨ss, h⟩ := h; exact h.most_
theorem Tab.slice (h : Tab most w b post V M lv us n) : ∃ A, V = .slice A n n := by
  obtain ⟨ss, h⟩ := h
  rcases h.mem.slots with ⟨h1, h2⟩ | ⟨g, e1, _⟩
  · have := h.len; rw [h1] at this; simp at this; subst this; exact ⟨none, h2⟩
  · rw [h.len] at e1; exact ⟨_, e1⟩
theorem Tab.more (h : Tab most w b post V M lv us n) {most' : Nat} (hm : most ≤ most') : Tab most' w b post V M lv us n := by
  obtain ⟨ss, h⟩ := h
  exact ⟨ss, h.mem, h.ti, h.live, h.full, h.len, h.half, h.some_, by have := h.few; omega, by have := h.most_; omega⟩
/-- The table's blocks are apart from this one. -/
theorem Tab.only {S : Nat → Prop} (h : Tab most w b post V M lv us n) (ho : Only S w w') (h1 : ¬ S b) (h2 : ∀ q, V.ownBlock = some q → ¬ S q) : Tab most w' b post V M lv us n := by
  obtain ⟨ss, h⟩ := h
  refine ⟨ss, ⟨ho.cs h.mem.own h1, ?_⟩, h.ti, h.live, h.full, h.len, h.half, h.some_, h.few, h.most_⟩
  rcases h.mem.slots with h3 | ⟨g, e1, e2, e3, e4⟩
  · exact .inl h3
  · exact .inr ⟨g, e1, e2, ho.cs e3 (h2 g (by rw [e1]; rfl)), e4⟩
theorem Tab.own_lt (h : Tab most w b post V M lv us n) : ∀ q, V.ownBlock = some q → q < w.heap.size := by
  obtain ⟨ss, h⟩ := h
  intro q hq
  rcases h.mem.slots with ⟨_, e⟩ | ⟨g, e1, e2, e3, e4⟩
  · rw [e] at hq; cases hq
  · rw [e1] at hq; injection hq with hq; subst hq; exact e3.lt
/-- A new table. -/
theorem Tab.new (w : World) (b : Nat) (post : List Value) (hC : Cs w b (.slice none 0 0 :: .int .i64 0 :: .int .i64 0 :: post)) : Tab 0 w b post (.slice none 0 0) (fun _ => none) 0 0 0 :=
  ⟨[], ⟨by simpa using hC, .inl ⟨rfl, rfl⟩⟩, TI.empty hashB 0, rfl, rfl, rfl, by omega, .inl rfl, by omega, by omega⟩
/-- Get. -/
theorem get_tab (h : Tab most w b post V M lv us n) (hm : most ≤ 68719476736) (k : ByteArray) (hk : k.size ≤ maxLen) :
    Calls Tryz.prog 64 #[.pointer (some ⟨b, 0, none⟩), .string k] w fun e w' => e = .returned (.tuple #[.int .i64 ((M k).getD 0), .bool (M k).isSome]) ∧ Below w.heap.size w w' := by
  obtain ⟨ss, h⟩ := h
  have hn := h.len
  rcases h.mem.slots with ⟨h1, h2⟩ | ⟨g, e1, e2, e3, e4⟩
  · have hM : M k = none := by
      refine h.ti.lost (fun i hl => ?_)
      have := hl.1; rw [h1] at this; simp at this
    rw [hM]
    have hC := h.mem.own
    rw [h2] at hC
    exact get_nil b lv us post w k hC
  · have hC := h.mem.own
    rw [e1, hn] at hC
    have hf := h.few
    have hh := h.half
    have hfu := h.full
    obtain ⟨j, bb, he, hno⟩ := ends_ex h.ti.ok (empty_ex ss (by omega)) k
    cases bb with
    | true =>
      have hv := h.ti.found he
      rw [hn] at hv
      rw [hv]
      exact get_yes b g n lv us post ss w k j hC e3 hn (by omega) hk he
    | false =>
      rw [h.ti.lost (hno rfl)]
      exact get_no b g n lv us post ss w k j hC e3 hn (by omega) hk he
/-- What Put leaves. -/
def PutR (most : Nat) (w : World) (b : Nat) (post : List Value) (V : Value) (M : ByteArray → Option Int) (lv : Nat) (k : ByteArray) (v : Int) (e : Ending) (w' : World) : Prop :=
  e = .returned (.bool (M k).isNone) ∧ ∃ V' us' n', Tab (max most (if (M k).isSome then lv else lv + 1)) w' b post V' (upd M k (some v)) (if (M k).isSome then lv else lv + 1) us' n' ∧ 8 ≤ n' ∧ Only (fun q => q = b ∨ V.ownBlock = some q) w w' ∧ (V'.ownBlock = V.ownBlock ∨ ∃ g, V'.ownBlock = some g ∧ w.heap.size ≤ g)
theorem put_new_tab {k : ByteArray} {v : Int} {e : Ending} (hm : M k = none) (h : PutN w b post M lv k v e w') : PutR most w b post V M lv k v e w' := by
  obtain ⟨rfl, g, m, ss', a1, a2, a3, a4, a5, a6, a7, a8, a9, a10, a11, a12⟩ := h
  have e1 : (if (M k).isSome then lv else lv + 1) = lv + 1 := by rw [hm]; rfl
  unfold PutR
  rw [e1]
  refine ⟨by rw [hm]; rfl, .slice (some ⟨g, 0, none⟩) m m, lv + 1, m, ⟨ss', ⟨a1, .inr ⟨g, by rw [a3], a11, a2, by omega⟩⟩, a4, a5, a6, a3, by omega, .inr a9, by omega, by omega⟩, a9, a12.mono (fun q _ e => .inl e), .inr ⟨g, rfl, a10⟩⟩
theorem put_tab (h : Tab most w b post V M lv us n) (hm : most ≤ 68719476735) (k : ByteArray) (v : Int) (hk : k.size ≤ maxLen) :
    Calls Tryz.prog 60 #[.pointer (some ⟨b, 0, none⟩), .string k, .int .i64 v] w (PutR most w b post V M lv k v) := by
  obtain ⟨ss, h⟩ := h
  have hn := h.len
  have hmo := h.most_
  have hfu := h.full
  rcases h.mem.slots with ⟨h1, h2⟩ | ⟨g, e1, e2, e3, e4⟩
  · have hM : M k = none := by
      refine h.ti.lost (fun i hl => ?_)
      have := hl.1; rw [h1] at this; simp at this
    have hC := h.mem.own
    have hI := h.ti
    have hl0 : lv = 0 := by rw [← h.live, h1]; rfl
    have hu0 : us = 0 := by rw [← h.full, h1]; rfl
    subst hl0 hu0
    rw [h2] at hC
    rw [h1] at hI
    exact (put_nil b post w k v M hC hk hI).mono fun e w' hp => put_new_tab hM hp
  · have hC := h.mem.own
    rw [e1, hn] at hC
    have hf := h.few
    have hh := h.half
    have hls := lives_le ss
    have hlv := h.live
    obtain ⟨j, bb, he, hno⟩ := ends_ex h.ti.ok (empty_ex ss (by omega)) k
    have hi : (hashB k + j) % n < ss.length := by have := mod_in (h := hashB k) he.lt; rw [hn] at this; omega
    cases bb with
    | true =>
      have hv := h.ti.found he
      refine (put_old b g n lv us post ss w k v j hC e3 hn (by omega) hk e2.symm he).mono ?_
      rintro e w' ⟨rfl, c1, c2, c3⟩
      have hy := he.yes rfl
      have t1 := h.ti.put_old he v hk
      rw [hn] at t1 hy
      have t2 := lives_set ss _ ⟨1, k, v⟩ hi
      have t3 := fulls_set ss _ ⟨1, k, v⟩ hi
      rw [hy.1] at t2 t3
      simp at t2 t3
      have e1' : (if (M k).isSome then lv else lv + 1) = lv := by rw [hv]; rfl
      unfold PutR
      rw [e1']
      refine ⟨by rw [hv]; rfl, .slice (some ⟨g, 0, none⟩) n n, us, n, ⟨_, ⟨c1, .inr ⟨g, by simp [hn], e2, c2, by simp; omega⟩⟩, t1, by omega, by omega, by simpa using hn, hh, h.some_, by omega, by omega⟩, by have := h.some_; omega, c3.mono (fun q _ e => ?_), .inl (by rw [e1]; rfl)⟩
      rcases e with e | e
      · exact .inl e
      · subst e; rw [e1]; exact .inr rfl
    | false =>
      have hM := h.ti.lost (hno rfl)
      by_cases hr : 2 * (us + 1) ≤ n
      · refine (put_room b g n lv us post ss w k v j hC e3 hn (by omega) hk e2.symm (by omega) hr he).mono ?_
        rintro e w' ⟨rfl, c1, c2, c3⟩
        have hy := he.no rfl
        have t1 := h.ti.put_new he hM v hk
        rw [hn] at t1 hy
        have t2 := lives_set ss _ ⟨1, k, v⟩ hi
        have t3 := fulls_set ss _ ⟨1, k, v⟩ hi
        rw [hy] at t2 t3
        simp at t2 t3
        have e1' : (if (M k).isSome then lv else lv + 1) = lv + 1 := by rw [hM]; rfl
        unfold PutR
        rw [e1']
        refine ⟨by rw [hM]; rfl, .slice (some ⟨g, 0, none⟩) n n, us + 1, n, ⟨_, ⟨c1, .inr ⟨g, by simp [hn], e2, c2, by simp; omega⟩⟩, t1, by omega, by omega, by simpa using hn, hr, h.some_, by omega, by omega⟩, by have := h.some_; omega, c3.mono (fun q _ e => ?_), .inl (by rw [e1]; rfl)⟩
        rcases e with e | e
        · exact .inl e
        · subst e; rw [e1]; exact .inr rfl
      · exact (put_full b g n lv us post ss w k v j M hC e3 hn (by omega) hk e2 (by omega) (by omega) (by omega) h.ti h.live hM he).mono fun e w' hp => put_new_tab hM hp
/-- What Del leaves. -/
def DelR (most : Nat) (w : World) (b : Nat) (post : List Value) (V : Value) (M : ByteArray → Option Int) (lv us n : Nat) (k : ByteArray) (e : Ending) (w' : World) : Prop :=
  e = .returned (.bool (M k).isSome) ∧ Tab most w' b post V (upd M k none) (if (M k).isSome then lv - 1 else lv) us n ∧ Only (fun q => q = b ∨ V.ownBlock = some q) w w'
theorem upd_none {M : ByteArray → Option Int} {k : ByteArray} (h : M k = none) : upd M k none = M := by
  funext q; unfold upd; split
  · rename_i e; rw [e, h]
  · rfl
theorem del_tab (h : Tab most w b post V M lv us n) (hm : most ≤ 68719476735) (k : ByteArray) (hk : k.size ≤ maxLen) :
    Calls Tryz.prog 56 #[.pointer (some ⟨b, 0, none⟩), .string k] w (DelR most w b post V M lv us n k) := by
  have h0 := h
  obtain ⟨ss, h⟩ := h
  have hn := h.len
  have hmo := h.most_
  have hfu := h.full
  have same : M k = none → ∀ e w', e = .returned (.bool false) ∧ Below w.heap.size w w' → DelR most w b post V M lv us n k e w' := by
    rintro hM e w' ⟨rfl, hb⟩
    unfold DelR
    rw [upd_none hM, hM]
    exact ⟨rfl, h0.below hb, Only.of_below _ hb⟩
  rcases h.mem.slots with ⟨h1, h2⟩ | ⟨g, e1, e2, e3, e4⟩
  · have hM : M k = none := by
      refine h.ti.lost (fun i hl => ?_)
      have := hl.1; rw [h1] at this; simp at this
    have hC := h.mem.own
    rw [h2] at hC
    exact (del_nil b lv us post w k hC).mono (same hM)
  · have hC := h.mem.own
    rw [e1, hn] at hC
    have hf := h.few
    have hh := h.half
    have hls := lives_le ss
    have hlv := h.live
    obtain ⟨j, bb, he, hno⟩ := ends_ex h.ti.ok (empty_ex ss (by omega)) k
    have hi : (hashB k + j) % n < ss.length := by have := mod_in (h := hashB k) he.lt; rw [hn] at this; omega
    cases bb with
    | true =>
      have hv := h.ti.found he
      have hy := he.yes rfl
      have t1 := h.ti.del he
      rw [hn] at t1 hy
      have t2 := lives_set ss _ ⟨2, ⟨#[]⟩, 0⟩ hi
      have t3 := fulls_set ss _ ⟨2, ⟨#[]⟩, 0⟩ hi
      rw [hy.1] at t2 t3
      simp at t2 t3
      refine (del_yes b g n lv us post ss w k j hC e3 hn (by omega) hk e2.symm (by omega) (by omega) he).mono ?_
      rintro e w' ⟨rfl, c1, c2, c3⟩
      have e1' : (if (M k).isSome then lv - 1 else lv) = lv - 1 := by rw [hv]; rfl
      unfold DelR
      rw [e1']
      refine ⟨by rw [hv]; rfl, ⟨_, ⟨by rw [e1, hn]; exact c1, .inr ⟨g, by rw [e1]; simp, e2, c2, by simp; omega⟩⟩, t1, by omega, by omega, by simpa using hn, hh, h.some_, by omega, by omega⟩, c3.mono (fun q _ e => ?_)⟩
      rcases e with e | e
      · exact .inl e
      · subst e; rw [e1]; exact .inr rfl
    | false => exact (del_no b g n lv us post ss w k j hC e3 hn (by omega) hk he).mono (same (h.ti.lost (hno rfl)))
theorem len_of (h : Tab most w b post V M lv us n) :
    Calls Tryz.prog 62 #[.pointer (some ⟨b, 0, none⟩)] w fun e w' => e = .returned (.int .i64 lv) ∧ w = w' := len_tab w b V lv us post h.own
end
end Go.Proofs.YtkdknfedieeenaaGreatDoor
