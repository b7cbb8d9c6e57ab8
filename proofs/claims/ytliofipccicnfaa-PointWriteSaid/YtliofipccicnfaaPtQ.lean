/- Names that are written, and read again: plain steps of the writer, and what its bytes read as. -/
import Derived.Test.YtliofipccicnfaaPtP
import Derived.Test.YtliofipccicnfaaLawPtR0
import Derived.Test.YtliofipccicnfaaSm
namespace Go.Proofs.Ytliofipccicnfaa
open Go.RowKit
set_option linter.unusedVariables false
set_option linter.unusedSimpArgs false
/-- The name of labels, as bytes. -/
def keyOf (ls : List (List UInt8)) : ByteArray := ⟨(wire ls).toArray⟩
theorem keyOf_list (ls : List (List UInt8)) : (keyOf ls).data.toList = wire ls := by simp [keyOf]
theorem keyOf_size (ls : List (List UInt8)) : (keyOf ls).size = (wire ls).length := by simp [keyOf, ByteArray.size]
/-- Where a name was written. -/
def lk (es : List (ByteArray × Nat)) (s : ByteArray) : Option Nat := (es.find? fun p => s.data.toList == p.1.data.toList).map (·.2)
def esV (es : List (ByteArray × Nat)) : List (ByteArray × Value) := es.map fun e => (e.1, .int .i64 e.2)
theorem esV_snoc (es : List (ByteArray × Nat)) (s : ByteArray) (n : Nat) : esV (es ++ [(s, n)]) = esV es ++ [(s, .int .i64 n)] := by simp [esV]
theorem esV_get (es : List (ByteArray × Nat)) (s : ByteArray) : smGet (esV es) s = (lk es s).map fun n => .int .i64 n := by
  induction es with
  | nil => rfl
  | cons p es ih =>
    unfold smGet esV lk at ih ⊢
    simp only [List.map_cons, List.find?_cons]
    cases h : (s.data.toList == p.1.data.toList) with
    | true => simp
    | false => exact ih
theorem esV_has (es : List (ByteArray × Nat)) (s : ByteArray) : smHas (esV es) s = (lk es s).isSome := by
  induction es with
  | nil => rfl
  | cons p es ih =>
    unfold smHas esV lk at ih ⊢
    simp only [List.map_cons, List.any_cons, List.find?_cons]
    cases h : (s.data.toList == p.1.data.toList) with
    | true => simp
    | false => simp only [Bool.false_or]; exact ih
theorem lk_snoc (es : List (ByteArray × Nat)) (s t : ByteArray) (n : Nat) (h : lk es s = none) : lk (es ++ [(t, n)]) s = if s.data.toList = t.data.toList then some n else none := by
  unfold lk at h ⊢
  rw [Option.map_eq_none_iff] at h
  rw [List.find?_append, h]
  by_cases e : s.data.toList = t.data.toList
  · rw [if_pos e]; simp [e]
  · rw [if_neg e]
    have : (s.data.toList == t.data.toList) = false := by simpa using e
    simp only [Option.none_or, List.find?_cons, List.find?_nil, this, Option.map_none]
theorem lk_snoc_some (es : List (ByteArray × Nat)) (s t : ByteArray) (n q : Nat) (h : lk es s = some q) : lk (es ++ [(t, n)]) s = some q := by
  unfold lk at h ⊢
  rw [Option.map_eq_some_iff] at h
  obtain ⟨p, h1, h2⟩ := h
  rw [List.find?_append, h1]
  simp [h2]
theorem lk_mem {es : List (ByteArray × Nat)} {s : ByteArray} {q : Nat} (h : lk es s = some q) : ∃ t, (t, q) ∈ es := by
  unfold lk at h
  rw [Option.map_eq_some_iff] at h
  obtain ⟨p, h1, h2⟩ := h
  exact ⟨p.1, by rw [← h2]; exact List.mem_of_find?_eq_some h1⟩
/-- The two bytes of a pointer. -/
def ptrB (tq : Nat) : List UInt8 := [UInt8.ofNat (192 + tq / 256), UInt8.ofNat (tq % 256)]
/-- What is written for labels, and what is known behind it. -/
def wrS : List (ByteArray × Nat) → Nat → List (List UInt8) → List UInt8 × List (ByteArray × Nat)
  | es, _, [] => ([0], es)
  | es, at_, x :: ls => match lk es (keyOf (x :: ls)) with
    | some tq => (ptrB tq, es)
    | none => ((UInt8.ofNat x.length :: x) ++ (wrS (es ++ [(keyOf (x :: ls), at_)]) (at_ + (x.length + 1)) ls).1, (wrS (es ++ [(keyOf (x :: ls), at_)]) (at_ + (x.length + 1)) ls).2)
theorem wrS_len : ∀ (ls : List (List UInt8)) (es : List (ByteArray × Nat)) (a : Nat), (wrS es a ls).1.length ≤ (wire ls).length + 2
  | [], es, a => by simp [wrS, wire]
  | x :: ls, es, a => by
    unfold wrS
    split
    · simp [ptrB]
    · have := wrS_len ls (es ++ [(keyOf (x :: ls), a)]) (a + (x.length + 1))
      rw [wire_cons]
      simp only [List.length_append, List.length_cons] at this ⊢
      omega
theorem wrS_small : ∀ (ls : List (List UInt8)) (es : List (ByteArray × Nat)) (a M : Nat), (∀ e ∈ es, e.2 < M) → a + (wire ls).length ≤ M → ∀ e ∈ (wrS es a ls).2, e.2 < M
  | [], es, a, M, h, ha => h
  | x :: ls, es, a, M, h, ha => by
    unfold wrS
    split
    · exact h
    · rw [wire_cons] at ha
      simp only [List.length_append, List.length_cons] at ha
      refine wrS_small ls _ _ M (fun e he => ?_) (by omega)
      rcases List.mem_append.1 he with he | he
      · exact h e he
      · simp at he; subst he; simp; omega
/-- Bytes read as labels at a place, with pointers ahead of a bound; and where they end. -/
inductive Rds : List UInt8 → Nat → Nat → List (List UInt8) → Nat → Prop
  | nil {L : List UInt8} {b p : Nat} : L[p]? = some 0 → Rds L b p [] (p + 1)
  | lab {L : List UInt8} {b p e : Nat} {x : List UInt8} {ls : List (List UInt8)} : L[p]? = some (UInt8.ofNat x.length) → 1 ≤ x.length → x.length ≤ 63 → L.extract (p + 1) (p + 1 + x.length) = x → Rds L b (p + (1 + x.length)) ls e → Rds L b p (x :: ls) e
  | ptr {L : List UInt8} {b p q e : Nat} {ls : List (List UInt8)} : L[p]? = some (UInt8.ofNat (192 + q / 256)) → L[p + 1]? = some (UInt8.ofNat (q % 256)) → q < 16384 → q < b → Rds L q q ls e → Rds L b p ls (p + 2)
theorem Rds.more {L : List UInt8} {b p e : Nat} {ls : List (List UInt8)} (h : Rds L b p ls e) (T : List UInt8) : Rds (L ++ T) b p ls e := by
  have hg : ∀ {i : Nat} {c : UInt8} {L : List UInt8}, L[i]? = some c → (L ++ T)[i]? = some c := fun {i c L} h => by
    have := (List.getElem?_eq_some_iff.1 h).1
    rw [List.getElem?_append_left this]; exact h
  induction h with
  | nil h => exact .nil (hg h)
  | lab h h1 h2 h3 hr ih =>
    refine .lab (hg h) h1 h2 ?_ ih
    have hl := congrArg List.length h3
    rw [List.extract_eq_take_drop] at h3 hl ⊢
    simp only [List.length_take, List.length_drop] at hl
    rw [List.drop_append_of_le_length (by omega), List.take_append_of_le_length (by simp; omega)]
    exact h3
  | ptr h h2 h3 h4 hr ih => exact .ptr (hg h) (hg h2) h3 h4 ih
theorem Rds.wide {L : List UInt8} {b b' p e : Nat} {ls : List (List UInt8)} (h : Rds L b p ls e) (hb : b ≤ b') : Rds L b' p ls e := by
  induction h with
  | nil h => exact .nil h
  | lab h h1 h2 h3 hr ih => exact .lab h h1 h2 h3 (ih hb)
  | ptr h h2 h3 h4 hr ih => exact .ptr h h2 h3 (Nat.lt_of_lt_of_le h4 hb) hr
/-- What is known is there. -/
def Known (L : List UInt8) (es : List (ByteArray × Nat)) (s0 : Nat) : Prop := ∀ ls tq, (∀ x ∈ ls, okLabel x = true) → lk es (keyOf ls) = some tq → tq < s0 ∧ ∃ e, Rds L tq tq ls e
theorem Known.more {L : List UInt8} {es : List (ByteArray × Nat)} {s0 : Nat} (h : Known L es s0) (T : List UInt8) : Known (L ++ T) es s0 := fun ls tq hk hl => by
  obtain ⟨h1, e, h2⟩ := h ls tq hk hl
  exact ⟨h1, e, h2.more T⟩
theorem okL_len {x : List UInt8} (h : okLabel x = true) : 1 ≤ x.length ∧ x.length ≤ 63 := by
  unfold okLabel at h
  simp only [Bool.and_eq_true, decide_eq_true_eq] at h
  exact h.1
theorem wire_inj {a b : List (List UInt8)} (ha : ∀ x ∈ a, okLabel x = true) (hb : ∀ x ∈ b, okLabel x = true) (h : wire a = wire b) : a = b := by
  have h1 := parseL_wire a ha
  have h2 := parseL_wire b hb
  rw [h, h2] at h1
  injection h1 with h1
  exact h1.symm
/-- What was written reads as what was to be written; what is known behind it is there. -/
theorem wr_reads (s0 : Nat) : ∀ (ls : List (List UInt8)) (old es : List (ByteArray × Nat)) (L : List UInt8), (∀ x ∈ ls, okLabel x = true) → Known L old s0 → s0 ≤ L.length → L.length + (wire ls).length ≤ 16000 →
    (∀ t : ByteArray, t.size ≤ (wire ls).length → lk es t = lk old t) →
    Rds (L ++ (wrS es L.length ls).1) s0 L.length ls (L.length + (wrS es L.length ls).1.length) ∧
    (∀ t q, lk (wrS es L.length ls).2 t = some q → lk es t = some q ∨ ∃ j, j < ls.length ∧ t = keyOf (ls.drop j) ∧ L.length ≤ q ∧ q < L.length + (wrS es L.length ls).1.length ∧ ∃ e, Rds (L ++ (wrS es L.length ls).1) s0 q (ls.drop j) e)
  | [], old, es, L, hok, hold, hs, hsz, hag => by
    simp only [wrS]
    refine ⟨?_, fun t q h => .inl h⟩
    have := Rds.nil (L := L ++ [0]) (b := s0) (p := L.length) (by simp)
    simpa using this
  | x :: ls, old, es, L, hok, hold, hs, hsz, hag => by
    have hx := okL_len (hok x (by simp))
    have hwl : (wire (x :: ls)).length = x.length + 1 + (wire ls).length := by rw [wire_cons]; simp; omega
    have hlk := hag (keyOf (x :: ls)) (by rw [keyOf_size]; exact Nat.le_refl _)
    cases hl : lk es (keyOf (x :: ls)) with
    | some tq =>
      simp only [wrS, hl]
      refine ⟨?_, fun t q h => .inl h⟩
      rw [hl] at hlk
      obtain ⟨h1, e, h2⟩ := hold (x :: ls) tq hok hlk.symm
      have hr := h2.more (ptrB tq)
      have := Rds.ptr (L := L ++ ptrB tq) (b := s0) (p := L.length) (q := tq) (by simp [ptrB]) (by simp [ptrB]) (by omega) h1 hr
      simpa [ptrB] using this
    | none =>
      simp only [wrS, hl]
      obtain ⟨seg, hseg⟩ : ∃ seg, seg = UInt8.ofNat x.length :: x := ⟨_, rfl⟩
      have hsl : seg.length = x.length + 1 := by rw [hseg]; simp
      have ih := wr_reads s0 ls old (es ++ [(keyOf (x :: ls), L.length)]) (L ++ seg) (fun y hy => hok y (by simp [hy])) (hold.more seg) (by simp; omega) (by simp; omega) (fun t ht => by
        have h1 := hag t (by omega)
        cases hlt : lk es t with
        | some q => rw [lk_snoc_some _ _ _ _ _ hlt]; rw [← h1]; exact hlt.symm
        | none =>
          rw [lk_snoc _ _ _ _ hlt, if_neg, ← h1]
          · exact hlt.symm
          · intro e
            have := congrArg List.length e
            rw [keyOf_list] at this
            simp at this
            omega)
      have hll : (L ++ seg).length = L.length + (x.length + 1) := by simp [hsl]
      rw [hll] at ih
      obtain ⟨R, hR⟩ : ∃ R, R = wrS (es ++ [(keyOf (x :: ls), L.length)]) (L.length + (x.length + 1)) ls := ⟨_, rfl⟩
      rw [← hR] at ih ⊢
      rw [← hseg]
      obtain ⟨ih1, ih2⟩ := ih
      have happ : L ++ seg ++ R.1 = L ++ (seg ++ R.1) := List.append_assoc _ _ _
      rw [happ] at ih1 ih2
      have hme : Rds (L ++ (seg ++ R.1)) s0 L.length (x :: ls) (L.length + (seg ++ R.1).length) := by
        refine .lab ?_ hx.1 hx.2 ?_ ?_
        · rw [hseg]; simp
        · rw [hseg, List.extract_eq_take_drop]
          rw [show L ++ (UInt8.ofNat x.length :: x ++ R.1) = (L ++ [UInt8.ofNat x.length]) ++ (x ++ R.1) by simp]
          rw [List.drop_append_of_le_length (by simp), List.drop_of_length_le (by simp), List.nil_append]
          rw [show L.length + 1 + x.length - (L.length + 1) = x.length by omega, List.take_left]
        · have : L.length + (1 + x.length) = L.length + (x.length + 1) := by omega
          rw [this]
          have h2 : L.length + (seg ++ R.1).length = L.length + (x.length + 1) + R.1.length := by simp [hsl]; omega
          rw [h2]; exact ih1
      refine ⟨hme, fun t q h => ?_⟩
      rcases ih2 t q h with h | ⟨j, h1, h2, h3, h4, e, h5⟩
      · by_cases ht : lk es t = some q
        · exact .inl ht
        · right
          have hn : lk es t = none := by
            cases hlt : lk es t with
            | none => rfl
            | some q' =>
              rw [lk_snoc_some _ _ _ _ _ hlt] at h
              exact absurd (hlt.trans h) ht
          rw [lk_snoc _ _ _ _ hn] at h
          split at h
          · rename_i heq
            injection h with h
            subst h
            refine ⟨0, by simp, ?_, Nat.le_refl _, by simp [hsl]; omega, _, hme⟩
            apply ByteArray.ext; apply Array.ext'; simpa using heq
          · cases h
      · exact .inr ⟨j + 1, by simp; omega, by simpa using h2, by omega, by simp [hsl] at h4 ⊢; omega, e, by simpa using h5⟩
theorem wr_known {ls : List (List UInt8)} {es : List (ByteArray × Nat)} {L : List UInt8} (hok : ∀ x ∈ ls, okLabel x = true) (hK : Known L es L.length) (hsz : L.length + (wire ls).length ≤ 16000) :
    Rds (L ++ (wrS es L.length ls).1) L.length L.length ls (L.length + (wrS es L.length ls).1.length) ∧ Known (L ++ (wrS es L.length ls).1) (wrS es L.length ls).2 (L ++ (wrS es L.length ls).1).length := by
  have h := wr_reads L.length ls es es L hok hK (Nat.le_refl _) hsz (fun _ _ => rfl)
  refine ⟨h.1, fun ks tq hk hl => ?_⟩
  rcases h.2 _ _ hl with h2 | ⟨j, h1, h2, h3, h4, e, h5⟩
  · obtain ⟨a, e, b⟩ := hK ks tq hk h2
    exact ⟨by simp; omega, e, b.more _⟩
  · have : ks = ls.drop j := wire_inj hk (fun x hx => hok x (List.mem_of_mem_drop hx)) (by rw [← keyOf_list, h2, keyOf_list])
    subst this
    exact ⟨by simp; omega, e, h5.wide h3⟩
end Go.Proofs.Ytliofipccicnfaa
