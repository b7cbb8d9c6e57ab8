/- A region that draws its order and writes once: operation K is taken when all its sources are; only those named late may come behind it. It speaks of no program. -/
import Derived.Test.YtodpaejakgjblaaDoorReg3
import Derived.Test.YtodpaejakgjblaaDoorReg4
namespace Go.Proofs.YtodpaejakgjblaaDoor
open Go.RowKit
set_option linter.unusedVariables false
/-- Each operation that is neither K nor late is a source of one further on that is not late, or of K. -/
def ancOk (ops : Array Oper) (K : Nat) (late : List Nat) : Bool :=
  (List.range ops.size).all fun i => i == K || late.contains i || (List.range (K + 1)).any fun j => decide (i < j) && !late.contains j && (match ops[j]? with | some o => o.after.toList.any fun e => e.on == i && Region.binds .any e | none => false)
def AllWordsIf (c : Nat → Bool) (Ws : List (Value → World → Prop)) (x : Nat → Value) (w : World) : Nat → List (Value → World → Prop) → Prop
  | _, [] => True
  | i, p :: ps => (c i = true → p (x i) w) ∧ AllWordsIf c Ws x w (i + 1) ps
theorem allWordsIf_of {c : Nat → Bool} {Ws : List (Value → World → Prop)} {x : Nat → Value} {w : World} : ∀ (ps : List (Value → World → Prop)) (k : Nat), (∀ j, j < ps.length → ps[j]? = Ws[k + j]?) → (∀ i, i < Ws.length → c i = true → wordOf Ws i (x i) w) → AllWordsIf c Ws x w k ps
  | [], _, _, _ => trivial
  | p :: ps, k, h, hw => by
    refine ⟨fun hc => ?_, allWordsIf_of ps (k + 1) (fun j hj => ?_) hw⟩
    · have h0 := h 0 (by simp)
      simp at h0
      have hk : k < Ws.length := by
        rcases Nat.lt_or_ge k Ws.length with h1 | h1
        · exact h1
        · rw [List.getElem?_eq_none h1] at h0; cases h0
      have := hw k hk hc
      unfold wordOf at this
      rw [← h0] at this
      exact this
    · have := h (j + 1) (by simpa using hj)
      rw [show k + 1 + j = k + (j + 1) by omega, ← this]
      simp
section
variable {P : Program} {ops : Array Oper} {Q : Exit → Act → World → Prop}
/-- As OpStepsG, but those that are skipped. -/
def OpStepsB (P : Program) (ops : Array Oper) (Q : Exit → Act → World → Prop) (Ws : List (Value → World → Prop)) (R : World → Prop) (Ext : World → World → Prop) (FF : (Nat → Value) → Act) (skip : Nat → Bool) : Nat → List Oper → Prop
  | _, [] => True
  | i, o :: os => (skip i = false → OpStepG P ops Q Ws R Ext FF i o) ∧ OpStepsB P ops Q Ws R Ext FF skip (i + 1) os
theorem OpStepsB.get {Ws : List (Value → World → Prop)} {R : World → Prop} {Ext : World → World → Prop} {FF : (Nat → Value) → Act} {skip : Nat → Bool} : ∀ {l : List Oper} {k : Nat}, OpStepsB P ops Q Ws R Ext FF skip k l → ∀ i o, l[i]? = some o → skip (k + i) = false → OpStepG P ops Q Ws R Ext FF (k + i) o
  | [], _, _, i, o, h, _ => by simp at h
  | p :: l, k, hs, 0, o, h, hk => by simp at h; subst h; exact hs.1 hk
  | p :: l, k, hs, i + 1, o, h, hk => by
    have := OpStepsB.get hs.2 i o (by simpa using h) (by rwa [show k + 1 + i = k + (i + 1) by omega])
    rwa [show k + 1 + i = k + (i + 1) by omega] at this
theorem OpStepG.one {Ws : List (Value → World → Prop)} {R : World → Prop} {Ext : World → World → Prop} {base : Act} {FF : (Nat → Value) → Act} (hn : noTwice (ops.toList.map (·.dst)) = true) (hg : guardsIn ops base.tmps.size = true)
    (hFF : ∀ x, putsF x 0 (ops.toList.map (·.dst)) base = FF x) {i : Nat} {o : Oper} (ho : o ∈ ops.toList) (h : OpStepG P ops Q Ws R Ext FF i o) : OpStep P ops Q Ws R Ext base i o :=
  (OpStepsG.steps hn hg hFF [o] i (fun q hq => by simp at hq; subst hq; exact ho) ⟨h, trivial⟩).1
theorem wp_region_store {id : Nat} {base : Act} {w0 : World} (hm : P.follows .mixedOrders = true) {FF : (Nat → Value) → Act} (hFF : ∀ x, putsF x 0 (ops.toList.map (·.dst)) base = FF x) (R1 R2 : World → Prop) (Ext : World → World → Prop) (Ws : List (Value → World → Prop))
    (K : Nat) (late : List Nat) (hn : noTwice (ops.toList.map (·.dst)) = true) (hg : guardsIn ops base.tmps.size = true) (hwf : wellFormed ops = true) (hlen : Ws.length = ops.size) (hanc : ancOk ops K late = true) (hK : (ops[K]?).map (·.guard) = some none)
    (stays : AllStayX Ext Ws) (refl : ∀ w, Ext w w) (start : R1 w0.drew)
    (steps : OpStepsB P ops Q Ws R1 Ext FF (fun i => i == K) 0 ops.toList)
    (steps2 : OpStepsB P ops Q Ws R2 Ext FF (fun i => !late.contains i) 0 ops.toList)
    (store : ∀ (x : Nat → Value) (w : World), R1 w → AllWordsIf (fun i => !(i == K || late.contains i)) Ws x w 0 Ws → ∀ o, ops[K]? = some o → Oper.wp P o (FF x) w (Next (FF x) o.dst (wordOf Ws K) R2 Ext w) Q)
    (fin : ∀ (x : Nat → Value) (w : World), R2 w → AllWords Ws x w 0 Ws → Q .normal (FF x) w) :
    (Code.region id ops true).wp P Q base w0 := by
  have hanc' : ∀ i, i < ops.size → i = K ∨ i ∈ late ∨ ∃ j o, i < j ∧ j ≤ K ∧ j ∉ late ∧ ops[j]? = some o ∧ ∃ e ∈ o.after.toList, e.on = i ∧ Region.binds .any e = true := by
    intro i hi
    unfold ancOk at hanc
    rw [List.all_eq_true] at hanc
    have := hanc i (by simpa using hi)
    simp only [Bool.or_eq_true, beq_iff_eq, List.any_eq_true, List.mem_range, Bool.and_eq_true, decide_eq_true_eq, Bool.not_eq_true'] at this
    rcases this with (h | h) | ⟨j, hj, ⟨h1, h2⟩, h3⟩
    · exact .inl h
    · exact .inr (.inl (by simpa using h))
    · right; right
      cases ho : ops[j]? with
      | none => rw [ho] at h3; simp at h3
      | some o =>
        rw [ho] at h3
        simp only [List.any_eq_true, Bool.and_eq_true, beq_iff_eq] at h3
        exact ⟨j, o, h1, by omega, by simpa using h2, ho, h3⟩
  have hword : ∀ (i : Nat), i < ops.size → ∀ v w w', wordOf Ws i v w → Ext w w' → wordOf Ws i v w' := by
    intro i hi v w w' hw he
    unfold wordOf at hw ⊢
    cases hp : Ws[i]? with
    | none => trivial
    | some p =>
      rw [hp] at hw
      exact stays.mem p (List.mem_of_getElem? hp) _ _ _ hw he
  refine wp_region_joint hm (fun d x w => (∀ i, i < ops.size → d i = true → wordOf Ws i (x i) w) ∧ (∀ i o, ops[i]? = some o → d i = true → ∀ e ∈ o.after.toList, Region.binds .any e = true → d e.on = true) ∧ (d K = false → R1 w) ∧ (d K = true → R2 w)) hn hwf ?_ ?_ ?_
  · exact fun x => ⟨by simp, by simp, fun _ => start, by simp⟩
  · rintro i hi d x w ⟨hw, hc, h1, h2⟩ hd hdeps
    have hoi : ops[i]? = some ops[i] := Array.getElem?_eq_getElem hi
    have hmem : ops[i] ∈ ops.toList := by simp
    have hD : Deps (wordOf Ws) x w (ops[i]).after.toList := Deps.of (fun e he hb => by
      have hdon := hdeps e he hb
      have hlt : e.on < i := by
        unfold wellFormed at hwf
        rw [List.all_eq_true] at hwf
        have := hwf (ops[i], i) (by rw [List.mem_zipIdx_iff_getElem?]; simp [hi])
        simp only [Array.all_eq_true'] at this
        have := this e (by simpa using he)
        simpa [hb] using this
      exact hw _ (by omega) hdon)
    have hcl : ∀ j o, ops[j]? = some o → (if j = i then true else d j) = true → ∀ e ∈ o.after.toList, Region.binds .any e = true → (if e.on = i then true else d e.on) = true := by
      intro j o hjo hdj e he hb
      by_cases hei : e.on = i
      · simp [hei]
      · rw [if_neg hei]
        by_cases hji : j = i
        · subst hji
          rw [hoi] at hjo
          obtain rfl := Option.some.inj hjo
          exact hdeps e he hb
        · rw [if_neg hji] at hdj
          exact hc j o hjo hdj e he hb
    have put : ∀ v w', wordOf Ws i v w' → Ext w w' → ∀ j, j < ops.size → (if j = i then true else d j) = true → wordOf Ws j (if j = i then v else x j) w' := by
      intro v w' hv he j hj hdj
      by_cases hji : j = i
      · subst hji; simpa using hv
      · rw [if_neg hji] at hdj ⊢
        exact hword j hj _ _ _ (hw j hj hdj) he
    by_cases hiK : i = K
    · subst hiK
      have hall : ∀ k j, j + k = i → j ∉ late → d j = true ∨ j = i := by
        intro k
        induction k using Nat.strongRecOn with
        | _ k ih =>
          intro j hjk hjl
          by_cases hji : j = i
          · exact .inr hji
          · left
            rcases hanc' j (by omega) with h | h | ⟨q, o, q1, q2, q3, q4, e, e1, e2, e3⟩
            · exact absurd h hji
            · exact absurd h hjl
            · rcases ih (i - q) (by omega) q (by omega) q3 with h | h
              · rw [← e2]; exact hc q o q4 h e e1 e3
              · subst h
                rw [hoi] at q4
                obtain rfl := Option.some.inj q4
                rw [← e2]; exact hdeps e e1 e3
      have hst := store x w (h1 hd) (allWordsIf_of Ws 0 (fun j _ => by simp) (fun j hj hcj => by
        simp only [Bool.not_eq_true', Bool.or_eq_false_iff, beq_eq_false_iff_ne] at hcj
        obtain ⟨c1, c2⟩ := hcj
        have hjl : j ∉ late := by simpa using c2
        rcases hanc' j (by omega) with h | h | ⟨q, o, q1, q2, q3, q4, e, e1, e2, e3⟩
        · exact absurd h c1
        · exact absurd h hjl
        · rcases hall (i - j) j (by omega) hjl with h | h
          · exact hw j (by omega) h
          · exact absurd h c1)) _ hoi
      have hgn : (ops[i]).guard = none := by rw [hoi] at hK; simpa using hK
      have hwt : Region.wanted ops[i] (yielded ops (putsF x 0 (ops.toList.map (·.dst)) base).tmps) = true := by unfold Region.wanted; rw [hgn]
      rw [if_pos hwt]
      rw [hFF x]
      refine Oper.wp_mono ?_ hst
      rintro a' w' ⟨v, rfl, hv, hR, he⟩
      exact ⟨v, rfl, put v w' hv he, hcl, by simp, fun _ => hR⟩
    · rcases (Bool.eq_false_or_eq_true (d K)).symm with hdK | hdK
      ·
        have hs := OpStepG.one hn hg hFF hmem (OpStepsB.get steps i ops[i] (by simp [hi]) (by simp [hiK]))
        rw [Nat.zero_add] at hs
        have := hs x w (h1 hdK) hD
        split
        · rename_i hwt
          rw [if_pos hwt] at this
          refine Oper.wp_mono ?_ this
          rintro a' w' ⟨v, rfl, hv, hR, he⟩
          refine ⟨v, rfl, put v w' hv he, hcl, fun _ => hR, fun h => ?_⟩
          have hKi : ¬ K = i := fun e => hiK e.symm
          simp [hKi, hdK] at h
        · rename_i hwt
          rw [if_neg hwt] at this
          refine ⟨put undef w this (refl w), hcl, fun _ => h1 hdK, fun h => ?_⟩
          have hKi : ¬ K = i := fun e => hiK e.symm
          simp [hKi, hdK] at h
      ·
        have hKi : ¬ K = i := fun e => hiK e.symm
        have hil : i ∈ late := by
          rcases Nat.lt_or_ge K ops.size with hKs | hKs
          · have hall : ∀ k j, j + k = K → j ∉ late → d j = true := by
              intro k
              induction k using Nat.strongRecOn with
              | _ k ih =>
                intro j hjk hjl
                by_cases hji : j = K
                · subst hji; exact hdK
                · rcases hanc' j (by omega) with h | h | ⟨q, o, q1, q2, q3, q4, e, e1, e2, e3⟩
                  · exact absurd h hji
                  · exact absurd h hjl
                  · have h := ih (K - q) (by omega) q (by omega) q3
                    rw [← e2]; exact hc q o q4 h e e1 e3
            by_cases hil : i ∈ late
            · exact hil
            · exfalso
              rcases hanc' i hi with h | h | ⟨q, o, q1, q2, q3, q4, e, e1, e2, e3⟩
              · exact hiK h
              · exact hil h
              · have := hall (K - i) i (by omega) hil
                rw [hd] at this; cases this
          · rw [Array.getElem?_eq_none hKs] at hK; cases hK
        have hs := OpStepG.one hn hg hFF hmem (OpStepsB.get steps2 i ops[i] (by simp [hi]) (by simp [hil]))
        rw [Nat.zero_add] at hs
        have := hs x w (h2 hdK) hD
        split
        · rename_i hwt
          rw [if_pos hwt] at this
          refine Oper.wp_mono ?_ this
          rintro a' w' ⟨v, rfl, hv, hR, he⟩
          refine ⟨v, rfl, put v w' hv he, hcl, fun h => ?_, fun _ => hR⟩
          simp [hKi, hdK] at h
        · rename_i hwt
          rw [if_neg hwt] at this
          refine ⟨put undef w this (refl w), hcl, fun h => ?_, fun _ => h2 hdK⟩
          simp [hKi, hdK] at h
  · rintro d x w hall ⟨hw, hc, h1, h2⟩
    have hKs : K < ops.size := by
      rcases Nat.lt_or_ge K ops.size with h | h
      · exact h
      · rw [Array.getElem?_eq_none h] at hK; cases hK
    rw [hFF x]
    exact fin x w (h2 (hall K hKs)) (allWords_of Ws 0 (fun j _ => by simp) (fun j hj => hw j (by omega) (hall j (by omega))))
end
theorem GoesBut.then_set {g : Nat} {w w' : World} (h : GoesBut g w w') (j : Nat) (u : Value) : GoesBut g w (w'.setCell ⟨g, j, none⟩ u) := ⟨by simpa using h.1, fun k hk hne => (Below.heap_setCell w' _ u k hne).trans (h.2 k hk hne)⟩
theorem GoesBut.trans {g : Nat} {w w' w2 : World} (h : GoesBut g w w') (h' : GoesBut g w' w2) : GoesBut g w w2 := ⟨Nat.le_trans h.1 h'.1, fun k hk hne => (h'.2 k (Nat.lt_of_lt_of_le hk h.1) hne).trans (h.2 k hk hne)⟩
/-- From skip to step, written out. -/
theorem skipped {p : Prop} {b : Bool} (hb : b = true) : b = false → p := fun h => by rw [hb] at h; cases h
end Go.Proofs.YtodpaejakgjblaaDoor
