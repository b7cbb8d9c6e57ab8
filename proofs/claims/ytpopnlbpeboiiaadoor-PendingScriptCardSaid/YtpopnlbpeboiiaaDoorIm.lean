/- Maps from numbers that the call made, all of whose values are one value (sets): as lists of keys in the order in which they came. It speaks of no program. -/
import Derived.Test.YtpopnlbpeboiiaaDoorBase
import Derived.Maps.Own
namespace Go.Proofs.YtpopnlbpeboiiaaDoor
open Go.RowKit
set_option linter.unusedVariables false
/-- The map's block has these keys. -/
def IM (kd : IntKind) (u : Value) (w : World) (b : Nat) (ks : List Int) : Prop := ∃ es clock, w.heap[b]? = some (.map es clock) ∧ es.toList.map (fun e => (e.key, e.val)) = ks.map (fun k => (Value.int kd k, u))
theorem im_now (kd : IntKind) (u : Value) (x : Int) : ∀ (ks : List Int) (l : List MapEntry) (i : Nat), l.map (fun e => (e.key, e.val)) = ks.map (fun k => (Value.int kd k, u)) →
    (ks.contains x = false ∧ Instr.findNow (.int kd) (.int kd x) l i = some none) ∨ ∃ j, ks.contains x = true ∧ j < l.length ∧ (l[j]?).map (·.key) = some (.int kd x) ∧ Instr.findNow (.int kd) (.int kd x) l i = some (some (i + j, u))
  | [], l, i, h => by
    have : l = [] := by simpa using h
    subst this
    exact .inl ⟨rfl, rfl⟩
  | p :: ks, [], i, h => by simp at h
  | p :: ks, e :: l, i, h => by
    simp only [List.map_cons, List.cons.injEq, Prod.mk.injEq] at h
    obtain ⟨⟨h1, h2⟩, h3⟩ := h
    cases hq : (x == p) with
    | true =>
      have hp : x = p := by simpa using hq
      refine .inr ⟨0, by rw [List.contains_cons, hq]; rfl, by simp, by simp [h1, hp], ?_⟩
      unfold Instr.findNow
      rw [h1]
      simp [Instr.sameNow, hq, h2]
    | false =>
      have hf : Instr.findNow (.int kd) (.int kd x) (e :: l) i = Instr.findNow (.int kd) (.int kd x) l (i + 1) := by
        conv => lhs; unfold Instr.findNow
        rw [h1]
        simp [Instr.sameNow, hq]
      rw [hf, List.contains_cons, hq, Bool.false_or]
      rcases im_now kd u x ks l (i + 1) h3 with h4 | ⟨j, h4, h5, h6, h7⟩
      · exact .inl h4
      · exact .inr ⟨j + 1, h4, by simp; omega, by simpa using h6, by rw [h7, show i + 1 + j = i + (j + 1) by omega]⟩
section
variable {kd : IntKind} {u : Value} {w w' : World} {b : Nat} {ks : List Int} {P : Program} {t k e : TypeId}
theorem IM.lt (h : IM kd u w b ks) : b < w.heap.size := by
  obtain ⟨es', clock, hb, _⟩ := h
  exact (Array.getElem?_eq_some_iff.1 hb).1
theorem IM.new (kd : IntKind) (u : Value) (w : World) : IM kd u (w.alloc (.map #[] 0)) w.heap.size [] := ⟨#[], 0, (MapKept.heap_alloc w _).1, rfl⟩
theorem IM.block (h : IM kd u w b ks) (hb : w'.heap[b]? = w.heap[b]?) : IM kd u w' b ks := by
  obtain ⟨es', clock, h1, h2⟩ := h
  exact ⟨es', clock, hb.trans h1, h2⟩
theorem IM.below (h : IM kd u w b ks) (hb : Below w.heap.size w w') : IM kd u w' b ks := h.block (hb.block b h.lt)
theorem IM.drewN (h : IM kd u w b ks) (n : Nat) : IM kd u (w.drewN n) b ks := h
/-- 'v, ok := m[x]'. -/
theorem IM.lookup (h : IM kd u w b ks) (ht : P.underlying t = some (.map k e)) (hk : P.underlying k = some (.int kd)) {z : Value} (hz : (zeroValue e).run P w = .ok z w) (x : Int) :
    (Instr.lookup t (.map (some b)) (.int kd x) true).run P w = .ok (.tuple #[if ks.contains x then u else z, .bool (ks.contains x)]) w := by
  obtain ⟨es', clock, hb, hm⟩ := h
  have hck : ∀ c, (Instr.checkKey c 10000 k (.int kd x)).run P w = .ok () w := fun c => MapKept.run_checkKey hk (by simp [MapKept.IsKey]) c 9999
  rcases im_now kd u x ks es'.toList 0 hm with ⟨h1, h3⟩ | ⟨j, h1, -, -, h3⟩
  · have hf := MapKept.run_findKey (w := w) hk h3
    rw [h1]
    simp [Instr.lookup, run_underlying ht, MapKept.run_getObj_map hb, hck, hf, hz, Result.andThen]
  · have hf := MapKept.run_findKey (w := w) hk h3
    rw [h1]
    simp [Instr.lookup, run_underlying ht, MapKept.run_getObj_map hb, hck, hf, Result.andThen]
/-- 'm[x]'. -/
theorem IM.lookup1 (h : IM kd u w b ks) (ht : P.underlying t = some (.map k e)) (hk : P.underlying k = some (.int kd)) {z : Value} (hz : (zeroValue e).run P w = .ok z w) (x : Int) :
    (Instr.lookup t (.map (some b)) (.int kd x) false).run P w = .ok (if ks.contains x then u else z) w := by
  obtain ⟨es', clock, hb, hm⟩ := h
  have hck : ∀ c, (Instr.checkKey c 10000 k (.int kd x)).run P w = .ok () w := fun c => MapKept.run_checkKey hk (by simp [MapKept.IsKey]) c 9999
  rcases im_now kd u x ks es'.toList 0 hm with ⟨h1, h3⟩ | ⟨j, h1, -, -, h3⟩
  · have hf := MapKept.run_findKey (w := w) hk h3
    rw [h1]
    simp [Instr.lookup, run_underlying ht, MapKept.run_getObj_map hb, hck, hf, hz, Result.andThen]
  · have hf := MapKept.run_findKey (w := w) hk h3
    rw [h1]
    simp [Instr.lookup, run_underlying ht, MapKept.run_getObj_map hb, hck, hf, Result.andThen]
/-- 'm[x] = u'. -/
theorem IM.insert (h : IM kd u w b ks) (ht : P.underlying t = some (.map k e)) (hk : P.underlying k = some (.int kd)) (x : Int) :
    ∃ w', (Instr.mapUpdate t (.map (some b)) (.int kd x) u).run P w = .ok () w' ∧ IM kd u w' b (if ks.contains x then ks else ks ++ [x]) ∧ w.grownBy w' (some b) := by
  obtain ⟨es', clock, hb, hm⟩ := h
  have hck : ∀ c, (Instr.checkKey c 10000 k (.int kd x)).run P w = .ok () w := fun c => MapKept.run_checkKey hk (by simp [MapKept.IsKey]) c 9999
  rcases im_now kd u x ks es'.toList 0 hm with ⟨h1, h3⟩ | ⟨j, h1, hj, hkey, h3⟩
  · have hf := MapKept.run_findKey (w := w) hk h3
    refine ⟨{ w with heap := w.heap.setIfInBounds b (.map (es'.push ⟨.int kd x, u, clock⟩) (clock + 1)) }, ?_, ?_, ?_⟩
    · simp [Instr.mapUpdate, run_underlying ht, MapKept.run_getObj_map hb, hck, hf, MapKept.run_setObj_map _ hb, Result.andThen]
    · rw [h1]; exact ⟨_, _, (MapKept.heap_set hb).1, by simp [hm]⟩
    · exact ⟨rfl, rfl, rfl, by simp, fun i _ hi => (MapKept.heap_set hb).2 i (fun e => hi (by rw [e]))⟩
  · have hf := MapKept.run_findKey (w := w) hk h3
    rw [Nat.zero_add] at hf
    simp only [h1, if_true]
    unfold Instr.mapUpdate
    simp [run_underlying ht, MapKept.run_getObj_map hb, hck, hf, Result.andThen]
    have hk2 : (Option.map (fun x => x.key) es'[j]?) = some (.int kd x) := by simpa using hkey
    rw [hk2]
    simp only [Option.getD_some]
    rw [MapKept.run_keyThatStays (d := .int kd) (k := .int kd x) (by simp [MapKept.IsKey])]
    simp [MapKept.run_setObj_map _ hb]
    refine ⟨⟨_, _, (MapKept.heap_set hb).1, ?_⟩, ⟨rfl, rfl, rfl, by simp, fun i _ hi => (MapKept.heap_set hb).2 i (fun e => hi (by rw [e]))⟩⟩
    rw [← hm, Array.toList_modify]
    refine List.ext_getElem? fun i => ?_
    rw [List.getElem?_map, List.getElem?_map, List.getElem?_modify]
    by_cases hij : j = i
    · subst hij
      cases hl : es'.toList[j]? with
      | none => simp
      | some e =>
        have hk3 : e.key = .int kd x := by rw [hl] at hkey; simpa using hkey
        have hv : e.val = u := by
          have h5 := congrArg (fun l => l[j]?) hm
          simp only [List.getElem?_map, hl, Option.map_some] at h5
          cases hks : ks[j]? with
          | none => rw [hks] at h5; simp at h5
          | some q => rw [hks] at h5; simp at h5; exact h5.2
        simp [hk3, hv]
    · cases hl : es'.toList[i]? <;> simp [hij]
end
end Go.Proofs.YtpopnlbpeboiiaaDoor
