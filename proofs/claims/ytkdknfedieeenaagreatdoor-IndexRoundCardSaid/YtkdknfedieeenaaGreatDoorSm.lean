/- Maps from strings that the call made, as lists of entries in the order in which they came. It speaks of no program. -/
import Derived.Test.YtkdknfedieeenaaGreatDoorBase
import Derived.Maps.Own
namespace Go.Proofs.YtkdknfedieeenaaGreatDoor
open Go.RowKit
set_option linter.unusedVariables false

/-- The map's block has these entries. -/
def SM (w : World) (b : Nat) (es : List (ByteArray × Value)) : Prop := ∃ es' clock, w.heap[b]? = some (.map es' clock) ∧ es'.toList.map (fun e => (e.key, e.val)) = es.map (fun p => (Value.string p.1, p.2))
def smGet (es : List (ByteArray × Value)) (s : ByteArray) : Option Value := (es.find? fun p => s.data.toList == p.1.data.toList).map (·.2)
def smHas (es : List (ByteArray × Value)) (s : ByteArray) : Bool := es.any fun p => s.data.toList == p.1.data.toList
theorem ba_beq (a b : ByteArray) : (a == b) = (a.data.toList == b.data.toList) := by
  have h : (a == b) = (a.data == b.data) := by cases a; cases b; rfl
  rw [h, Bool.eq_iff_iff, beq_iff_eq, beq_iff_eq]
  exact ⟨fun e => by rw [e], fun e => Array.ext' e⟩
theorem sm_now (s : ByteArray) : ∀ (es : List (ByteArray × Value)) (l : List MapEntry) (i : Nat), l.map (fun e => (e.key, e.val)) = es.map (fun p => (Value.string p.1, p.2)) →
    (smHas es s = false ∧ smGet es s = none ∧ Instr.findNow .string (.string s) l i = some none) ∨ ∃ j v, smHas es s = true ∧ smGet es s = some v ∧ Instr.findNow .string (.string s) l i = some (some (j, v))
  | [], l, i, h => by
    have : l = [] := by simpa using h
    subst this
    exact .inl ⟨rfl, rfl, rfl⟩
  | p :: es, [], i, h => by simp at h
  | p :: es, e :: l, i, h => by
    simp only [List.map_cons, List.cons.injEq, Prod.mk.injEq] at h
    obtain ⟨⟨h1, h2⟩, h3⟩ := h
    cases hq : (s.data.toList == p.1.data.toList) with
    | true =>
      refine .inr ⟨i, p.2, by simp only [smHas, List.any_cons, hq, Bool.true_or], by simp only [smGet, List.find?_cons, hq, Option.map_some], ?_⟩
      unfold Instr.findNow
      rw [h1]
      simp only [Instr.sameNow, ba_beq, hq, h2]
    | false =>
      have hf : Instr.findNow .string (.string s) (e :: l) i = Instr.findNow .string (.string s) l (i + 1) := by
        conv => lhs; unfold Instr.findNow
        rw [h1]
        simp only [Instr.sameNow, ba_beq, hq]
      rw [hf]
      have e1 : smHas (p :: es) s = smHas es s := by simp only [smHas, List.any_cons, hq, Bool.false_or]
      have e2 : smGet (p :: es) s = smGet es s := by simp only [smGet, List.find?_cons, hq]
      rw [e1, e2]
      exact sm_now s es l (i + 1) h3
section
variable {w w' : World} {b : Nat} {es : List (ByteArray × Value)} {P : Program} {t k e : TypeId}
theorem SM.lt (h : SM w b es) : b < w.heap.size := by
  obtain ⟨es', clock, hb, _⟩ := h
  exact (Array.getElem?_eq_some_iff.1 hb).1
theorem SM.new (w : World) : SM (w.alloc (.map #[] 0)) w.heap.size [] := ⟨#[], 0, (MapKept.heap_alloc w _).1, rfl⟩
theorem SM.block (h : SM w b es) (hb : w'.heap[b]? = w.heap[b]?) : SM w' b es := by
  obtain ⟨es', clock, h1, h2⟩ := h
  exact ⟨es', clock, hb.trans h1, h2⟩
theorem SM.below (h : SM w b es) (hb : Below w.heap.size w w') : SM w' b es := h.block (hb.block b h.lt)
theorem SM.drewN (h : SM w b es) (n : Nat) : SM (w.drewN n) b es := h
/-- 'v, ok := m[s]'. -/
theorem SM.lookup (h : SM w b es) (ht : P.underlying t = some (.map k e)) (hk : P.underlying k = some .string) {z : Value} (hz : (zeroValue e).run P w = .ok z w) (s : ByteArray) :
    (Instr.lookup t (.map (some b)) (.string s) true).run P w = .ok (.tuple #[(smGet es s).getD z, .bool (smHas es s)]) w := by
  obtain ⟨es', clock, hb, hm⟩ := h
  have hck : ∀ c, (Instr.checkKey c 10000 k (.string s)).run P w = .ok () w := fun c => MapKept.run_checkKey hk (by simp [MapKept.IsKey]) c 9999
  rcases sm_now s es es'.toList 0 hm with ⟨h1, h2, h3⟩ | ⟨j, v, h1, h2, h3⟩
  · have hf := MapKept.run_findKey (w := w) hk h3
    rw [h1, h2]
    simp [Instr.lookup, run_underlying ht, MapKept.run_getObj_map hb, hck, hf, hz, Result.andThen]
  · have hf := MapKept.run_findKey (w := w) hk h3
    rw [h1, h2]
    simp [Instr.lookup, run_underlying ht, MapKept.run_getObj_map hb, hck, hf, Result.andThen]
/-- 'm[s]'. -/
theorem SM.lookup1 (h : SM w b es) (ht : P.underlying t = some (.map k e)) (hk : P.underlying k = some .string) {z : Value} (hz : (zeroValue e).run P w = .ok z w) (s : ByteArray) :
    (Instr.lookup t (.map (some b)) (.string s) false).run P w = .ok ((smGet es s).getD z) w := by
  obtain ⟨es', clock, hb, hm⟩ := h
  have hck : ∀ c, (Instr.checkKey c 10000 k (.string s)).run P w = .ok () w := fun c => MapKept.run_checkKey hk (by simp [MapKept.IsKey]) c 9999
  rcases sm_now s es es'.toList 0 hm with ⟨h1, h2, h3⟩ | ⟨j, v, h1, h2, h3⟩
  · have hf := MapKept.run_findKey (w := w) hk h3
    rw [h2]
    simp [Instr.lookup, run_underlying ht, MapKept.run_getObj_map hb, hck, hf, hz, Result.andThen]
  · have hf := MapKept.run_findKey (w := w) hk h3
    rw [h2]
    simp [Instr.lookup, run_underlying ht, MapKept.run_getObj_map hb, hck, hf, Result.andThen]
/-- 'm[s] = v' of a new s. -/
theorem SM.insert (h : SM w b es) (ht : P.underlying t = some (.map k e)) (hk : P.underlying k = some .string) (s : ByteArray) (v : Value) (hs : smHas es s = false) :
    ∃ w', (Instr.mapUpdate t (.map (some b)) (.string s) v).run P w = .ok () w' ∧ SM w' b (es ++ [(s, v)]) ∧ w.grownBy w' (some b) := by
  obtain ⟨es', clock, hb, hm⟩ := h
  have hck : ∀ c, (Instr.checkKey c 10000 k (.string s)).run P w = .ok () w := fun c => MapKept.run_checkKey hk (by simp [MapKept.IsKey]) c 9999
  rcases sm_now s es es'.toList 0 hm with ⟨h1, h2, h3⟩ | ⟨j, v', h1, h2, h3⟩
  · have hf := MapKept.run_findKey (w := w) hk h3
    refine ⟨{ w with heap := w.heap.setIfInBounds b (.map (es'.push ⟨.string s, v, clock⟩) (clock + 1)) }, ?_, ?_, ?_⟩
    · simp [Instr.mapUpdate, run_underlying ht, MapKept.run_getObj_map hb, hck, hf, MapKept.run_setObj_map _ hb, Result.andThen]
    · exact ⟨_, _, (MapKept.heap_set hb).1, by simp [hm]⟩
    · exact ⟨rfl, rfl, rfl, by simp, fun i _ hi => (MapKept.heap_set hb).2 i (fun e => hi (by rw [e]))⟩
  · rw [hs] at h1; cases h1
end
/-- 'm[s] = v' of a map's literal, at the operation. -/
theorem wpList_insert_sm {P : Program} (w : World) {ops : Array Oper} {rest : List Oper} {o : Oper} {a : Act} {Q : Exit → Act → World → Prop}
    (hg : o.guard = none) (m x v : Operand) (t : TypeId) (hop : o.op = Op.insert t m x v) (k e : TypeId) (ht : P.underlying t = some (.map k e)) (hk : P.underlying k = some .string) (b : Nat) (es : List (ByteArray × Value))
    (hm : a.eval m = .map (some b)) (hown : SM w b es) (s : ByteArray) (val : Value) (hx : a.eval x = .string s) (hv : a.eval v = val) (hs : smHas es s = false)
    (hK : ∀ w', SM w' b (es ++ [(s, val)]) → w.grownBy w' (some b) → wpList P ops Q rest (a.put o.dst undef) w') :
    wpList P ops Q (o :: rest) a w := by
  refine wpList_plain hg fun K' hK' => ?_
  obtain ⟨w', hrun, r1, r2⟩ := hown.insert ht hk s val hs
  unfold Oper.wp
  simp [execOp, hop, hm, hx, hv, hrun, Result.andThen]
  exact hK' _ _ (hK w' r1 r2)
end Go.Proofs.YtkdknfedieeenaaGreatDoor
