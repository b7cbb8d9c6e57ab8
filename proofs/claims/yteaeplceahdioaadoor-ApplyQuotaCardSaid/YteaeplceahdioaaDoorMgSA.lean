/- Texts that walks stand on, one behind the other. -/
import Derived.Test.YteaeplceahdioaaDoorReg2
import Derived.Test.YteaeplceahdioaaDoorOb
import Derived.Test.YteaeplceahdioaaDoorReg
import Derived.Test.YteaeplceahdioaaDoorBase
import Derived.Test.YteaeplceahdioaaDoorActE
import Derived.Test.YteaeplceahdioaaDoorData
import Derived.Test.YteaeplceahdioaaDoorViewA
import Derived.Test.YteaeplceahdioaaDoorObz
import Derived.Outline
import Derived.Lib.AppendZeros
import Derived.Lib.SliceRun
namespace Go.Proofs.YteaeplceahdioaaDoor
open Go.RowKit
set_option linter.unusedVariables false
/-- The world goes on: nothing that was there turns but block g. -/
def GoesBut (g : Nat) (w w' : World) : Prop := w.heap.size ≤ w'.heap.size ∧ ∀ k, k < w.heap.size → k ≠ g → w'.heap[k]? = w.heap[k]?
theorem GoesBut.refl (g : Nat) (w : World) : GoesBut g w w := ⟨Nat.le_refl _, fun _ _ _ => rfl⟩
theorem GoesBut.alloc (g : Nat) (w : World) (o : Obj) : GoesBut g w (w.alloc o) := ⟨by simp, fun k hk _ => Below.heap_alloc w o k hk⟩
theorem GoesBut.set (g j : Nat) (w : World) (u : Value) : GoesBut g w (w.setCell ⟨g, j, none⟩ u) := ⟨by simp, fun k _ hk => Below.heap_setCell w _ u k hk⟩
theorem GoesBut.below {g : Nat} {w w' : World} (h : Below w.heap.size w w') : GoesBut g w w' := ⟨h.size, fun k hk _ => h.block k hk⟩
theorem GoesBut.cell {g : Nat} {w w' : World} (h : GoesBut g w w') {b j : Nat} (hb : b < w.heap.size) (hg : b ≠ g) : w'.cell? ⟨b, j, none⟩ = w.cell? ⟨b, j, none⟩ := World.cell?_of_block (w := w) (h.2 b hb hg)
def AllStayX (Ext : World → World → Prop) : List (Value → World → Prop) → Prop
  | [] => True
  | p :: ps => (∀ v w w', p v w → Ext w w' → p v w') ∧ AllStayX Ext ps
theorem AllStayX.mem {Ext : World → World → Prop} : ∀ {l : List (Value → World → Prop)}, AllStayX Ext l → ∀ p ∈ l, ∀ v w w', p v w → Ext w w' → p v w'
  | q :: l, h, p, hp => by
    rcases List.mem_cons.1 hp with rfl | hp
    · exact h.1
    · exact AllStayX.mem h.2 p hp
theorem isV_stayX (Ext : World → World → Prop) (u : Value) : ∀ v w w', isV u v w → Ext w w' → isV u v w' := fun _ _ _ h _ => h
section
variable {P : Program} {ops : Array Oper} {Q : Exit → Act → World → Prop}
theorem wp_region_ext {id : Nat} {base : Act} {w0 : World} (hm : P.follows .mixedOrders = true) {FF : (Nat → Value) → Act} (hFF : ∀ x, putsF x 0 (ops.toList.map (·.dst)) base = FF x) (R : World → Prop) (Ext : World → World → Prop) (Ws : List (Value → World → Prop))
    (hn : noTwice (ops.toList.map (·.dst)) = true) (hg : guardsIn ops base.tmps.size = true) (hwf : wellFormed ops = true) (hlen : Ws.length = ops.size) (stays : AllStayX Ext Ws) (refl : ∀ w, Ext w w) (start : R w0.drew)
    (steps : OpStepsG P ops Q Ws R Ext FF 0 ops.toList)
    (fin : ∀ (x : Nat → Value) (w : World), R w → AllWords Ws x w 0 Ws → Q .normal (FF x) w) :
    (Code.region id ops true).wp P Q base w0 :=
  wp_region_words hm Ws R Ext hn hwf hlen stays.mem refl start (OpStepsG.steps hn hg hFF ops.toList 0 (fun _ h => h) steps) (fun x w hr hw => by rw [hFF x]; exact fin x w hr hw)
end
theorem next_of {A a' : Act} {d : Option Tmp} {p : Value → World → Prop} {R : World → Prop} {Ext : World → World → Prop} {w w' : World} (v : Value) (ha : a' = A.put d v) (hp : p v w') (hR : R w') (he : Ext w w') : Next A d p R Ext w a' w' := ⟨v, ha, hp, hR, he⟩
end Go.Proofs.YteaeplceahdioaaDoor
namespace Go.Proofs.YteaeplceahdioaaDoor
set_option linter.unusedVariables false
section
variable {P : Program} {ops : Array Oper} {Q : Exit → Act → World → Prop}
/-- A region that draws its order, by one word on all that has been done: which operations, what their slots hold, and the world. -/
theorem wp_region_joint {id : Nat} {base : Act} {w0 : World} (hm : P.follows .mixedOrders = true) (J : (Nat → Bool) → (Nat → Value) → World → Prop)
    (hn : noTwice (ops.toList.map (·.dst)) = true) (hwf : wellFormed ops = true)
    (start : ∀ x, J (fun _ => false) x w0.drew)
    (steps : ∀ i (hi : i < ops.size) (d : Nat → Bool) (x : Nat → Value) (w : World), J d x w → d i = false → (∀ e ∈ (ops[i]).after.toList, Region.binds .any e = true → d e.on = true) →
      if Region.wanted ops[i] (yielded ops (putsF x 0 (ops.toList.map (·.dst)) base).tmps) = true
      then Oper.wp P ops[i] (putsF x 0 (ops.toList.map (·.dst)) base) w (fun a' w' => ∃ v, a' = (putsF x 0 (ops.toList.map (·.dst)) base).put (ops[i]).dst v ∧ J (fun j => if j = i then true else d j) (fun j => if j = i then v else x j) w') Q
      else J (fun j => if j = i then true else d j) (fun j => if j = i then undef else x j) w)
    (fin : ∀ (d : Nat → Bool) (x : Nat → Value) (w : World), (∀ i, i < ops.size → d i = true) → J d x w → Q .normal (putsF x 0 (ops.toList.map (·.dst)) base) w) :
    (Code.region id ops true).wp P Q base w0 := by
  -- if nothing is ready all has come up
  have hall : ∀ listed : Array Bool, listed.size = ops.size → Region.ready .any ops listed = [] → ∀ i, i < ops.size → listed.getD i false = true := by
    intro listed hs hr i
    induction i using Nat.strongRecOn with
    | _ i ih =>
      intro hi
      cases hli : listed.getD i false with
      | true => rfl
      | false =>
        exfalso
        have hmem : i ∈ Region.ready .any ops listed := by
          unfold Region.ready
          rw [List.mem_filter]
          refine ⟨by simpa using hi, ?_⟩
          have hd : listed.getD i true = false := by
            simp [Array.getD, hs, hi] at hli ⊢; exact hli
          rw [hd]
          simp only [Bool.not_false, Bool.true_and, Array.getElem?_eq_getElem hi, Option.map_some, Option.getD_some]
          rw [Array.all_eq_true']
          intro e he
          by_cases hb : Region.binds .any e = true
          · have hlt : e.on < i := by
              unfold wellFormed at hwf
              rw [List.all_eq_true] at hwf
              have := hwf (ops[i], i) (by rw [List.mem_zipIdx_iff_getElem?]; simp [hi])
              simp only [Array.all_eq_true'] at this
              have := this e he
              simpa [hb] using this
            simp [hb, ih e.on hlt (by omega)]
          · simp [hb]
        rw [hr] at hmem
        cases hmem
  have main : ∀ (fuel : Nat) (listed : Array Bool) (x : Nat → Value) (w : World), listed.size = ops.size → (List.range ops.size).countP (fun i => !listed.getD i false) ≤ fuel →
      J (fun i => listed.getD i false) x w → wpAny P .any ops Q fuel listed (putsF x 0 (ops.toList.map (·.dst)) base) w := by
    intro fuel
    have hfin : ∀ (listed : Array Bool) (x : Nat → Value) (w : World), listed.size = ops.size → J (fun i => listed.getD i false) x w → Region.ready .any ops listed = [] → Q .normal (putsF x 0 (ops.toList.map (·.dst)) base) w := by
      intro listed x w hs hJ hr
      exact fin _ x w (fun i hi => hall listed hs hr i hi) hJ
    induction fuel with
    | zero =>
      intro listed x w hs hc hJ
      have hr : Region.ready .any ops listed = [] := by
        unfold Region.ready
        rw [List.filter_eq_nil_iff]
        intro i hi
        have h0 := Nat.le_zero.1 hc
        rw [List.countP_eq_zero] at h0
        have := h0 i hi
        have hi' : i < ops.size := by simpa using hi
        simp [Array.getD, hs, hi'] at this ⊢
        simp [this]
      exact ⟨hr, hfin listed x w hs hJ hr⟩
    | succ fuel ih =>
      intro listed x w hs hc hJ
      refine ⟨hfin listed x w hs hJ, fun i hi => ?_⟩
      unfold Region.ready at hi
      rw [List.mem_filter] at hi
      obtain ⟨hir, hi2⟩ := hi
      have hio : i < ops.size := by simpa using hir
      simp only [Bool.and_eq_true, Bool.not_eq_true', Array.getElem?_eq_getElem hio, Option.map_some, Option.getD_some] at hi2
      obtain ⟨hli, haft⟩ := hi2
      have hli' : listed[i]'(by omega) = false := by simpa [Array.getD, hs, hio] using hli
      have hop := steps i hio (fun i => listed.getD i false) x w hJ (by simp [Array.getD, hs, hio, hli']) (fun e he hb => by
        rw [Array.all_eq_true'] at haft
        have := haft e (by simpa using he)
        simpa [hb] using this)
      have hds : (ops.toList.map (·.dst))[i]? = some (ops[i]).dst := by simp [hio]
      have next : ∀ v w', J (fun j => if j = i then true else listed.getD j false) (fun j => if j = i then v else x j) w' → wpAny P .any ops Q fuel (listed.setIfInBounds i true) ((putsF x 0 (ops.toList.map (·.dst)) base).put (ops[i]).dst v) w' := by
        intro v w' hJ'
        have hset := putsF_set x (ops.toList.map (·.dst)) 0 i base (ops[i]).dst v hn hds
        rw [Nat.zero_add] at hset
        rw [← hset]
        have hJ2 : J (fun j => (listed.setIfInBounds i true).getD j false) (fun j => if j = i then v else x j) w' := by
          have : (fun j => (listed.setIfInBounds i true).getD j false) = (fun j => if j = i then true else listed.getD j false) := by
            funext j; exact getD_set listed i j (by omega)
          rw [this]; exact hJ'
        refine ih _ _ w' (by simpa using hs) ?_ hJ2
        have hlt : (List.range ops.size).countP (fun j => !(listed.setIfInBounds i true).getD j false) < (List.range ops.size).countP (fun j => !listed.getD j false) := by
          have hsub : ∀ (l : List Nat), (∀ j ∈ l, j < ops.size) → l.Nodup → i ∈ l → l.countP (fun j => !(listed.setIfInBounds i true).getD j false) < l.countP (fun j => !listed.getD j false) := by
            intro l
            induction l with
            | nil => intro _ _ h; cases h
            | cons y l ihl =>
              intro hlt' hnd hmem
              have hy : y < ops.size := hlt' y (by simp)
              have heq : ∀ j, j < ops.size → (listed.setIfInBounds i true).getD j false = if j = i then true else listed.getD j false := fun j _ => getD_set listed i j (by omega)
              by_cases hyi : y = i
              · subst hyi
                have hsame : l.countP (fun j => !(listed.setIfInBounds y true).getD j false) = l.countP (fun j => !listed.getD j false) := by
                  apply List.countP_congr
                  intro j hj
                  have hne : j ≠ y := fun e => by subst e; exact (List.nodup_cons.1 hnd).1 hj
                  rw [heq j (hlt' j (by simp [hj])), if_neg hne]
                rw [List.countP_cons, List.countP_cons, hsame, heq y hy, if_pos rfl]
                have : listed.getD y false = false := by simp [Array.getD, hs, hy, hli']
                simp [this]
              · have hm' : i ∈ l := by
                  rcases List.mem_cons.1 hmem with h | h
                  · exact absurd h.symm hyi
                  · exact h
                have := ihl (fun j hj => hlt' j (by simp [hj])) (List.nodup_cons.1 hnd).2 hm'
                rw [List.countP_cons, List.countP_cons, heq y hy, if_neg hyi]
                omega
          exact hsub _ (fun j hj => by simpa using hj) List.nodup_range (by simpa using hio)
        omega
      unfold wpOp
      simp only [Array.getElem?_eq_getElem hio]
      split
      · rename_i hw
        rw [if_pos hw] at hop
        exact .inl (Oper.wp_mono (fun a' w' ⟨v, e, hv⟩ => by rw [e]; exact next v w' hv) hop)
      · rename_i hw
        rw [if_neg hw] at hop
        exact next undef w hop
  refine wp_region_any hm ?_
  have h0 := putsF_held (ops.toList.map (·.dst)) 0 base (held base (ops.toList.map (·.dst))) (fun i => by simp) hn
  rw [← h0]
  refine main ops.size _ _ _ (by simp) ?_ ?_
  · refine Nat.le_trans (List.countP_le_length ..) (by simp)
  · have : (fun i => (Array.replicate ops.size false).getD i false) = fun _ => false := by
      funext i
      simp only [Array.getD, Array.size_replicate]
      split
      · simp
      · rfl
    rw [this]; exact start _
end
end Go.Proofs.YteaeplceahdioaaDoor
namespace Go.Proofs.YteaeplceahdioaaDoor
open Go.RowKit
set_option linter.unusedVariables false
/-- Each operation that is neither K nor late is a source of one further on that is not late, or of K. -/
def ancOk (ops : Array Oper) (K : Nat) (late : List Nat) : Bool :=
  (List.range ops.size).all fun i => i == K || late.contains i || (List.range (K + 1)).any fun j => decide (i < j) && !late.contains j && (match ops[j]? with | some o => o.after.toList.any fun e => e.on == i && Region.binds .any e | none => false)
def AllWordsIf (c : Nat → Bool) (Ws : List (Value → World → Prop)) (x : Nat → Value) (w : World) : Nat → List (Value → World → Prop) → Prop
  | _, [] => True
  | i, p :: ps => (c i = true → p (x i) w) ∧ AllWordsIf c Ws x w (i + 1) ps
theorem allWordsIf_of {c : Nat → Bool} {Ws : List (Value → World → Prop)} {x : Nat → Value} {w : World} : ∀ (ps : List (Value → World → Prop)) (k : Nat), (∀ j, j < ps.length → ps[j]? = Ws[k + j]?) → (∀ i, i < Ws.length → c i = true → wordOf Ws i (x i) w) → AllWordsIf c Ws x w k ps
  | [], _, _, _ => trivial
  | p :: ps, k, h, hw => by
    refine ⟨fun hc => ?_, allWordsIf_of ps (k + 1) (fun j hj => ?_) hw⟩
    · have h0 := h 0 (by simp)
      simp at h0
      have hk : k < Ws.length := by
        rcases Nat.lt_or_ge k Ws.length with h1 | h1
        · exact h1
        · rw [List.getElem?_eq_none h1] at h0; cases h0
      have := hw k hk hc
      unfold wordOf at this
      rw [← h0] at this
      exact this
    · have := h (j + 1) (by simpa using hj)
      rw [show k + 1 + j = k + (j + 1) by omega, ← this]
      simp
section
variable {P : Program} {ops : Array Oper} {Q : Exit → Act → World → Prop}
/-- As OpStepsG, but those that are skipped. -/
def OpStepsB (P : Program) (ops : Array Oper) (Q : Exit → Act → World → Prop) (Ws : List (Value → World → Prop)) (R : World → Prop) (Ext : World → World → Prop) (FF : (Nat → Value) → Act) (skip : Nat → Bool) : Nat → List Oper → Prop
  | _, [] => True
  | i, o :: os => (skip i = false → OpStepG P ops Q Ws R Ext FF i o) ∧ OpStepsB P ops Q Ws R Ext FF skip (i + 1) os
theorem OpStepsB.get {Ws : List (Value → World → Prop)} {R : World → Prop} {Ext : World → World → Prop} {FF : (Nat → Value) → Act} {skip : Nat → Bool} : ∀ {l : List Oper} {k : Nat}, OpStepsB P ops Q Ws R Ext FF skip k l → ∀ i o, l[i]? = some o → skip (k + i) = false → OpStepG P ops Q Ws R Ext FF (k + i) o
  | [], _, _, i, o, h, _ => by simp at h
  | p :: l, k, hs, 0, o, h, hk => by simp at h; subst h; exact hs.1 hk
  | p :: l, k, hs, i + 1, o, h, hk => by
    have := OpStepsB.get hs.2 i o (by simpa using h) (by rwa [show k + 1 + i = k + (i + 1) by omega])
    rwa [show k + 1 + i = k + (i + 1) by omega] at this
theorem OpStepG.one {Ws : List (Value → World → Prop)} {R : World → Prop} {Ext : World → World → Prop} {base : Act} {FF : (Nat → Value) → Act} (hn : noTwice (ops.toList.map (·.dst)) = true) (hg : guardsIn ops base.tmps.size = true)
    (hFF : ∀ x, putsF x 0 (ops.toList.map (·.dst)) base = FF x) {i : Nat} {o : Oper} (ho : o ∈ ops.toList) (h : OpStepG P ops Q Ws R Ext FF i o) : OpStep P ops Q Ws R Ext base i o :=
  (OpStepsG.steps hn hg hFF [o] i (fun q hq => by simp at hq; subst hq; exact ho) ⟨h, trivial⟩).1
theorem wp_region_store {id : Nat} {base : Act} {w0 : World} (hm : P.follows .mixedOrders = true) {FF : (Nat → Value) → Act} (hFF : ∀ x, putsF x 0 (ops.toList.map (·.dst)) base = FF x) (R1 R2 : World → Prop) (Ext : World → World → Prop) (Ws : List (Value → World → Prop))
    (K : Nat) (late : List Nat) (hn : noTwice (ops.toList.map (·.dst)) = true) (hg : guardsIn ops base.tmps.size = true) (hwf : wellFormed ops = true) (hlen : Ws.length = ops.size) (hanc : ancOk ops K late = true) (hK : (ops[K]?).map (·.guard) = some none)
    (stays : AllStayX Ext Ws) (refl : ∀ w, Ext w w) (start : R1 w0.drew)
    (steps : OpStepsB P ops Q Ws R1 Ext FF (fun i => i == K) 0 ops.toList)
    (steps2 : OpStepsB P ops Q Ws R2 Ext FF (fun i => !late.contains i) 0 ops.toList)
    (store : ∀ (x : Nat → Value) (w : World), R1 w → AllWordsIf (fun i => !(i == K || late.contains i)) Ws x w 0 Ws → ∀ o, ops[K]? = some o → Oper.wp P o (FF x) w (Next (FF x) o.dst (wordOf Ws K) R2 Ext w) Q)
    (fin : ∀ (x : Nat → Value) (w : World), R2 w → AllWords Ws x w 0 Ws → Q .normal (FF x) w) :
    (Code.region id ops true).wp P Q base w0 := by
  have hanc' : ∀ i, i < ops.size → i = K ∨ i ∈ late ∨ ∃ j o, i < j ∧ j ≤ K ∧ j ∉ late ∧ ops[j]? = some o ∧ ∃ e ∈ o.after.toList, e.on = i ∧ Region.binds .any e = true := by
    intro i hi
    unfold ancOk at hanc
    rw [List.all_eq_true] at hanc
    have := hanc i (by simpa using hi)
    simp only [Bool.or_eq_true, beq_iff_eq, List.any_eq_true, List.mem_range, Bool.and_eq_true, decide_eq_true_eq, Bool.not_eq_true'] at this
    rcases this with (h | h) | ⟨j, hj, ⟨h1, h2⟩, h3⟩
    · exact .inl h
    · exact .inr (.inl (by simpa using h))
    · right; right
      cases ho : ops[j]? with
      | none => rw [ho] at h3; simp at h3
      | some o =>
        rw [ho] at h3
        simp only [List.any_eq_true, Bool.and_eq_true, beq_iff_eq] at h3
        exact ⟨j, o, h1, by omega, by simpa using h2, ho, h3⟩
  have hword : ∀ (i : Nat), i < ops.size → ∀ v w w', wordOf Ws i v w → Ext w w' → wordOf Ws i v w' := by
    intro i hi v w w' hw he
    unfold wordOf at hw ⊢
    cases hp : Ws[i]? with
    | none => trivial
    | some p =>
      rw [hp] at hw
      exact stays.mem p (List.mem_of_getElem? hp) _ _ _ hw he
  refine wp_region_joint hm (fun d x w => (∀ i, i < ops.size → d i = true → wordOf Ws i (x i) w) ∧ (∀ i o, ops[i]? = some o → d i = true → ∀ e ∈ o.after.toList, Region.binds .any e = true → d e.on = true) ∧ (d K = false → R1 w) ∧ (d K = true → R2 w)) hn hwf ?_ ?_ ?_
  · exact fun x => ⟨by simp, by simp, fun _ => start, by simp⟩
  · rintro i hi d x w ⟨hw, hc, h1, h2⟩ hd hdeps
    have hoi : ops[i]? = some ops[i] := Array.getElem?_eq_getElem hi
    have hmem : ops[i] ∈ ops.toList := by simp
    have hD : Deps (wordOf Ws) x w (ops[i]).after.toList := Deps.of (fun e he hb => by
      have hdon := hdeps e he hb
      have hlt : e.on < i := by
        unfold wellFormed at hwf
        rw [List.all_eq_true] at hwf
        have := hwf (ops[i], i) (by rw [List.mem_zipIdx_iff_getElem?]; simp [hi])
        simp only [Array.all_eq_true'] at this
        have := this e (by simpa using he)
        simpa [hb] using this
      exact hw _ (by omega) hdon)
    have hcl : ∀ j o, ops[j]? = some o → (if j = i then true else d j) = true → ∀ e ∈ o.after.toList, Region.binds .any e = true → (if e.on = i then true else d e.on) = true := by
      intro j o hjo hdj e he hb
      by_cases hei : e.on = i
      · simp [hei]
      · rw [if_neg hei]
        by_cases hji : j = i
        · subst hji
          rw [hoi] at hjo
          obtain rfl := Option.some.inj hjo
          exact hdeps e he hb
        · rw [if_neg hji] at hdj
          exact hc j o hjo hdj e he hb
    have put : ∀ v w', wordOf Ws i v w' → Ext w w' → ∀ j, j < ops.size → (if j = i then true else d j) = true → wordOf Ws j (if j = i then v else x j) w' := by
      intro v w' hv he j hj hdj
      by_cases hji : j = i
      · subst hji; simpa using hv
      · rw [if_neg hji] at hdj ⊢
        exact hword j hj _ _ _ (hw j hj hdj) he
    by_cases hiK : i = K
    · subst hiK
      have hall : ∀ k j, j + k = i → j ∉ late → d j = true ∨ j = i := by
        intro k
        induction k using Nat.strongRecOn with
        | _ k ih =>
          intro j hjk hjl
          by_cases hji : j = i
          · exact .inr hji
          · left
            rcases hanc' j (by omega) with h | h | ⟨q, o, q1, q2, q3, q4, e, e1, e2, e3⟩
            · exact absurd h hji
            · exact absurd h hjl
            · rcases ih (i - q) (by omega) q (by omega) q3 with h | h
              · rw [← e2]; exact hc q o q4 h e e1 e3
              · subst h
                rw [hoi] at q4
                obtain rfl := Option.some.inj q4
                rw [← e2]; exact hdeps e e1 e3
      have hst := store x w (h1 hd) (allWordsIf_of Ws 0 (fun j _ => by simp) (fun j hj hcj => by
        simp only [Bool.not_eq_true', Bool.or_eq_false_iff, beq_eq_false_iff_ne] at hcj
        obtain ⟨c1, c2⟩ := hcj
        have hjl : j ∉ late := by simpa using c2
        rcases hanc' j (by omega) with h | h | ⟨q, o, q1, q2, q3, q4, e, e1, e2, e3⟩
        · exact absurd h c1
        · exact absurd h hjl
        · rcases hall (i - j) j (by omega) hjl with h | h
          · exact hw j (by omega) h
          · exact absurd h c1)) _ hoi
      have hgn : (ops[i]).guard = none := by rw [hoi] at hK; simpa using hK
      have hwt : Region.wanted ops[i] (yielded ops (putsF x 0 (ops.toList.map (·.dst)) base).tmps) = true := by unfold Region.wanted; rw [hgn]
      rw [if_pos hwt]
      rw [hFF x]
      refine Oper.wp_mono ?_ hst
      rintro a' w' ⟨v, rfl, hv, hR, he⟩
      exact ⟨v, rfl, put v w' hv he, hcl, by simp, fun _ => hR⟩
    · rcases (Bool.eq_false_or_eq_true (d K)).symm with hdK | hdK
      ·
        have hs := OpStepG.one hn hg hFF hmem (OpStepsB.get steps i ops[i] (by simp [hi]) (by simp [hiK]))
        rw [Nat.zero_add] at hs
        have := hs x w (h1 hdK) hD
        split
        · rename_i hwt
          rw [if_pos hwt] at this
          refine Oper.wp_mono ?_ this
          rintro a' w' ⟨v, rfl, hv, hR, he⟩
          refine ⟨v, rfl, put v w' hv he, hcl, fun _ => hR, fun h => ?_⟩
          have hKi : ¬ K = i := fun e => hiK e.symm
          simp [hKi, hdK] at h
        · rename_i hwt
          rw [if_neg hwt] at this
          refine ⟨put undef w this (refl w), hcl, fun _ => h1 hdK, fun h => ?_⟩
          have hKi : ¬ K = i := fun e => hiK e.symm
          simp [hKi, hdK] at h
      ·
        have hKi : ¬ K = i := fun e => hiK e.symm
        have hil : i ∈ late := by
          rcases Nat.lt_or_ge K ops.size with hKs | hKs
          · have hall : ∀ k j, j + k = K → j ∉ late → d j = true := by
              intro k
              induction k using Nat.strongRecOn with
              | _ k ih =>
                intro j hjk hjl
                by_cases hji : j = K
                · subst hji; exact hdK
                · rcases hanc' j (by omega) with h | h | ⟨q, o, q1, q2, q3, q4, e, e1, e2, e3⟩
                  · exact absurd h hji
                  · exact absurd h hjl
                  · have h := ih (K - q) (by omega) q (by omega) q3
                    rw [← e2]; exact hc q o q4 h e e1 e3
            by_cases hil : i ∈ late
            · exact hil
            · exfalso
              rcases hanc' i hi with h | h | ⟨q, o, q1, q2, q3, q4, e, e1, e2, e3⟩
              · exact hiK h
              · exact hil h
              · have := hall (K - i) i (by omega) hil
                rw [hd] at this; cases this
          · rw [Array.getElem?_eq_none hKs] at hK; cases hK
        have hs := OpStepG.one hn hg hFF hmem (OpStepsB.get steps2 i ops[i] (by simp [hi]) (by simp [hil]))
        rw [Nat.zero_add] at hs
        have := hs x w (h2 hdK) hD
        split
        · rename_i hwt
          rw [if_pos hwt] at this
          refine Oper.wp_mono ?_ this
          rintro a' w' ⟨v, rfl, hv, hR, he⟩
          refine ⟨v, rfl, put v w' hv he, hcl, fun h => ?_, fun _ => hR⟩
          simp [hKi, hdK] at h
        · rename_i hwt
          rw [if_neg hwt] at this
          refine ⟨put undef w this (refl w), hcl, fun h => ?_, fun _ => h2 hdK⟩
          simp [hKi, hdK] at h
  · rintro d x w hall ⟨hw, hc, h1, h2⟩
    have hKs : K < ops.size := by
      rcases Nat.lt_or_ge K ops.size with h | h
      · exact h
      · rw [Array.getElem?_eq_none h] at hK; cases hK
    rw [hFF x]
    exact fin x w (h2 (hall K hKs)) (allWords_of Ws 0 (fun j _ => by simp) (fun j hj => hw j (by omega) (hall j (by omega))))
end
theorem GoesBut.then_set {g : Nat} {w w' : World} (h : GoesBut g w w') (j : Nat) (u : Value) : GoesBut g w (w'.setCell ⟨g, j, none⟩ u) := ⟨by simpa using h.1, fun k hk hne => (Below.heap_setCell w' _ u k hne).trans (h.2 k hk hne)⟩
theorem GoesBut.trans {g : Nat} {w w' w2 : World} (h : GoesBut g w w') (h' : GoesBut g w' w2) : GoesBut g w w2 := ⟨Nat.le_trans h.1 h'.1, fun k hk hne => (h'.2 k (Nat.lt_of_lt_of_le hk h.1) hne).trans (h.2 k hk hne)⟩
/-- From skip to step, written out. -/
theorem skipped {p : Prop} {b : Bool} (hb : b = true) : b = false → p := fun h => by rw [hb] at h; cases h
end Go.Proofs.YteaeplceahdioaaDoor
namespace Go.Proofs.YteaeplceahdioaaDoor
open Go.RowKit
set_option linter.unusedVariables false
/-- The block b has these cells, and all may be written. -/
def Cs (w : World) (b : Nat) (vs : List Value) : Prop := b < w.heap.size ∧ ∀ j (h : j < vs.length), w.cell? ⟨b, j, none⟩ = some vs[j] ∧ w.frozen? ⟨b, j, none⟩ = false
section
variable {w w' : World} {b : Nat} {vs : List Value}
theorem Cs.lt (h : Cs w b vs) : b < w.heap.size := h.1
theorem Cs.cell (h : Cs w b vs) (j : Nat) (hj : j < vs.length := by decide) : w.cell? ⟨b, j, none⟩ = some vs[j] := (h.2 j hj).1
theorem Cs.get (h : Cs w b vs) (j : Nat) (v : Value) (hv : vs[j]? = some v := by rfl) : w.cell? ⟨b, j, none⟩ = some v := by
  obtain ⟨hj, e⟩ := List.getElem?_eq_some_iff.1 hv
  rw [← e]; exact (h.2 j hj).1
theorem Cs.froz (h : Cs w b vs) (j : Nat) (hj : j < vs.length := by decide) : w.frozen? ⟨b, j, none⟩ = false := (h.2 j hj).2
theorem Cs.new (w : World) (cs : Array Value) (t : TypeId) (vs : List Value) (hv : cs.toList = vs := by rfl) : Cs (w.alloc (.cells cs t)) w.heap.size vs := by
  refine ⟨by simp, fun j hj => ⟨?_, World.frozen?_alloc_at _ _ _ _ rfl⟩⟩
  have := news_at w cs t j vs[j] (by rw [hv]; exact List.getElem?_eq_getElem hj)
  rwa [Addr.add_lit, Nat.zero_add] at this
theorem Cs.at_ (h : Cs w b vs) (B : Nat) (hB : b = B) : Cs w B vs := by subst hB; exact h
theorem Cs.sl (h : Cs w b vs) : Sl w w.heap.size 1 (some ⟨b, 0, none⟩) vs.length vs := ⟨by simp, fun _ => ⟨b, 0, rfl, h.1, fun j u hu => by
  obtain ⟨hj, e⟩ := List.getElem?_eq_some_iff.1 hu
  rw [Nat.zero_add, ← e]; exact (h.2 j hj).1⟩⟩
theorem Cs.below (h : Cs w b vs) (hb : Below w.heap.size w w') : Cs w' b vs := ⟨Nat.lt_of_lt_of_le h.1 hb.size, fun j hj =>
  ⟨(hb.cell (p := ⟨b, j, none⟩) h.1).trans (h.2 j hj).1, (hb.frozen (p := ⟨b, j, none⟩) h.1).trans (h.2 j hj).2⟩⟩
theorem Cs.alloc (h : Cs w b vs) (o : Obj) : Cs (w.alloc o) b vs := h.below ((Below.refl _ _).alloc (Nat.le_refl _) _)
theorem Cs.drewN (h : Cs w b vs) (k : Nat) : Cs (w.drewN k) b vs := h
theorem Cs.other (h : Cs w b vs) (g j : Nat) (u : Value) (hg : g ≠ b) : Cs (w.setCell ⟨g, j, none⟩ u) b vs := ⟨by simpa using h.1, fun i hi =>
  ⟨(World.cell?_of_block (w := w) (Below.heap_setCell w ⟨g, j, none⟩ u b (fun e => hg e.symm))).trans (h.2 i hi).1, (World.frozen?_of_block (w := w) (Below.heap_setCell w ⟨g, j, none⟩ u b (fun e => hg e.symm))).trans (h.2 i hi).2⟩⟩
end
theorem Cs.grown {w w' : World} {b : Nat} {vs : List Value} {r : Option Nat} (h : Cs w b vs) (hg : w.grownBy w' r) (hne : r ≠ some b) : Cs w' b vs := by
  have he := hg.block b h.1 (fun e => hne e.symm)
  exact ⟨Nat.lt_of_lt_of_le h.1 hg.size, fun i hi => ⟨(World.cell?_of_block (w := w) he).trans (h.2 i hi).1, (World.frozen?_of_block (w := w) he).trans (h.2 i hi).2⟩⟩
theorem Cs.set' {w : World} {b : Nat} {vs : List Value} (h : Cs w b vs) (j : Nat) (u : Value) (hj : j < vs.length) : Cs (w.setCell ⟨b, j, none⟩ u) b (vs.set j u) := by
  refine ⟨by simpa using h.1, fun i hi => ?_⟩
  simp only [List.length_set] at hi
  obtain ⟨q1, q2⟩ := h.2 i hi
  refine ⟨?_, (World.frozen?_setCell _ _ _ _).trans q2⟩
  by_cases e : j = i
  · subst e
    rw [World.cell?_setCell_same _ _ _ q1]; simp
  · rw [World.cell?_setCell_other _ _ _ _ (by intro h; injection h with _ h2; exact e h2), q1]; simp [e]
theorem Cs.block {w w' : World} {b : Nat} {vs : List Value} (h : Cs w b vs) (he : w'.heap[b]? = w.heap[b]?) (hs : w.heap.size ≤ w'.heap.size) : Cs w' b vs :=
  ⟨Nat.lt_of_lt_of_le h.1 hs, fun i hi => ⟨(World.cell?_of_block (w := w) he).trans (h.2 i hi).1, (World.frozen?_of_block (w := w) he).trans (h.2 i hi).2⟩⟩
end Go.Proofs.YteaeplceahdioaaDoor
namespace Go.Proofs.YteaeplceahdioaaDoor
open Go.RowKit
set_option linter.unusedVariables false
set_option linter.unusedSimpArgs false
set_option maxRecDepth 20000
attribute [local simp] putsF isV wordOf Deps Region.binds Region.wanted Act.put wantedX isB
def intsB (l : List UInt8) : List Int := l.map fun b => (b.toNat : Int)
theorem intsB_bv (l : List UInt8) : (intsB l).map (Value.int .u8) = l.map bv := by unfold intsB; rw [List.map_map]; rfl
theorem intsB_ok (l : List UInt8) : ∀ z ∈ intsB l, 0 ≤ z ∧ z < 256 := by
  intro z hz
  obtain ⟨b, _, rfl⟩ := List.mem_map.1 hz
  have := b.toNat_lt
  omega
def nmB (l : List UInt8) : ByteArray := ⟨(nameZ (intsB l)).toArray⟩
/-- A text's first 30 bytes. -/
def txtB (s : ByteArray) : ByteArray := s.extract 0 (min s.size 30)
def recOf (a : ActT) : RecT := (nmB a.1.2.2.2, ((dataOf (a.2.1.toNat % 8) (nmB a.2.2.2.1.2.2.2) (txtB a.2.2.2.2)).1 : Int), a.2.2.1, (dataOf (a.2.1.toNat % 8) (nmB a.2.2.2.1.2.2.2) (txtB a.2.2.2.2)).2)
def actCells (a : ActT) : List Value := [rowV a.1, .int .u8 a.2.1, .int .u32 a.2.2.1, rowV a.2.2.2.1, .string a.2.2.2.2]
def actA (a : ActT) : Value := .agg #[rowV a.1, .int .u8 a.2.1, .int .u32 a.2.2.1, rowV a.2.2.2.1, .string a.2.2.2.2]
structure ActOk (w : World) (a : ActT) : Prop where
  r1 : Sl w w.heap.size 1 a.1.1 a.1.2.1 (a.1.2.2.2.map bv)
  n1 : a.1.2.1 ≤ maxLen
  k : 0 ≤ a.2.1 ∧ a.2.1 < 256
  t : 0 ≤ a.2.2.1 ∧ a.2.2.1 < 4294967296
  r2 : Sl w w.heap.size 1 a.2.2.2.1.1 a.2.2.2.1.2.1 (a.2.2.2.1.2.2.2.map bv)
  n2 : a.2.2.2.1.2.1 ≤ maxLen
  s : a.2.2.2.2.size ≤ maxLen
theorem ActOk.below {w w' : World} {a : ActT} (h : ActOk w a) (hb : Below w.heap.size w w') : ActOk w' a :=
  ⟨(h.r1.below hb).more hb.size, h.n1, h.k, h.t, (h.r2.below hb).more hb.size, h.n2, h.s⟩
theorem nameB_any (r : RowT) (w : World) (h : Sl w w.heap.size 1 r.1 r.2.1 (r.2.2.2.map bv)) (hn : r.2.1 ≤ maxLen) :
    Calls Tryd.prog 26 #[rowV r] w fun e w' => e = .returned (.string (nmB r.2.2.2)) ∧ Below w.heap.size w w' :=
  name_any r.1 r.2.1 r.2.2.1 (intsB r.2.2.2) w (by rw [intsB_bv]; exact h) (intsB_ok _) hn
theorem dataB_any (k : Nat) (hk : k < 65536) (r : RowT) (s : ByteArray) (w : World) (h : Sl w w.heap.size 1 r.1 r.2.1 (r.2.2.2.map bv)) (hn : r.2.1 ≤ maxLen) (hs : s.size ≤ 30) :
    Calls Tryd.prog 51 #[.int .u16 k, rowV r, .string s] w fun e w' => e = .returned (.tuple #[.int .u16 ((dataOf (k % 8) (nmB r.2.2.2) s).1 : Nat), .string (dataOf (k % 8) (nmB r.2.2.2) s).2]) ∧ Below w.heap.size w w' := by
  refine (data_any k hk r.1 r.2.1 r.2.2.1 (intsB r.2.2.2) s w (by rw [intsB_bv]; exact h) (intsB_ok _) hn hs).mono ?_
  rintro e w' ⟨⟨t, d, rfl, -, -, hd⟩, hb⟩
  refine ⟨?_, hb⟩
  unfold nmB
  rw [hd]
set_option maxHeartbeats 1600000 in
theorem record_any (a : ActT) (w : World) (h : ActOk w a) :
    Calls Tryd.prog 27 #[actA a] w fun e w' => e = .returned (recV (recOf a)) ∧ Below w.heap.size w w' := by
  obtain ⟨r, k, ttl, r', s⟩ := a
  obtain ⟨kn, rfl⟩ : ∃ kn : Nat, k = kn := ⟨k.toNat, by have := h.k.1; simp at this; omega⟩
  have hk1 : kn < 256 := by have := h.k.2; simp at this; omega
  have ht0 := h.t.1
  have hss := h.s
  obtain ⟨N, hN⟩ : ∃ N, N = nmB r.2.2.2 := ⟨_, rfl⟩
  obtain ⟨M, hM⟩ : ∃ M, M = txtB s := ⟨_, rfl⟩
  have hMs : M.size ≤ 30 := by rw [hM, txtB, ByteArray.size_extract]; omega
  obtain ⟨q, hq⟩ : ∃ q, q = dataOf (kn % 8) (nmB r'.2.2.2) M := ⟨_, rfl⟩
  obtain ⟨qt, hqt⟩ : ∃ t : Nat, t = q.1 := ⟨_, rfl⟩
  obtain ⟨qd, hqd⟩ : ∃ t : ByteArray, t = q.2 := ⟨_, rfl⟩
  have hrec : recOf (r, (kn : Int), ttl, r', s) = (N, (qt : Int), ttl, qd) := by
    unfold recOf; simp only [Int.toNat_natCast]; rw [← hM, ← hq, ← hN, ← hqt, ← hqd]
  have NM := Lib.hid (fun w (h : Sl w w.heap.size 1 r.1 r.2.1 (r.2.2.2.map bv)) => nameB_any r w h)
  have DT := Lib.hid (fun w (h' : Sl w w.heap.size 1 r'.1 r'.2.1 (r'.2.2.2.map bv)) (hn : r'.2.1 ≤ maxLen) => dataB_any kn (by omega) r' M w h' hn hMs)
  rw [← hq, ← hqt, ← hqd] at DT
  rw [← hN] at NM
  rw [hrec]
  have HM := Lib.hid hM
  have H := Lib.hid h
  clear hN hM hq hqt hqd hrec h
  obtain ⟨A1, n1, c1, l1⟩ := r
  obtain ⟨A2, n2, c2, l2⟩ := r'
  unfold actA recV
  unfold rowV at NM DT ⊢
  simp only at NM DT ⊢
  obtain ⟨L, hL, hL2⟩ : ∃ L : Nat, ((s.size ≤ 30 ∧ L = s.size) ∨ (30 < s.size ∧ L = 30)) ∧ L ≤ s.size := by
    rcases Nat.lt_or_ge 30 s.size with h | h
    · exact ⟨30, .inr ⟨h, rfl⟩, by omega⟩
    · exact ⟨s.size, .inl ⟨h, rfl⟩, by omega⟩
  have hE : s.extract 0 L = M := by
    rw [HM.out]; unfold txtB
    rcases hL with ⟨h, rfl⟩ | ⟨h, rfl⟩
    · rw [Nat.min_eq_left h]
    · rw [Nat.min_eq_right (by omega)]
  obtain ⟨W, hW⟩ : ∃ W, W = (w.alloc (.cells #[.slice A1 n1 c1, .int .u8 (kn : Nat), .int .u32 ttl, .slice A2 n2 c2, .string s] 50)).alloc (.cells #[.string ⟨#[]⟩, .int .u16 0, .int .u32 0, .string ⟨#[]⟩] 32) := ⟨_, rfl⟩
  have hz : w.heap.size + 2 = W.heap.size := by rw [hW]; simp
  have hb0 : Below w.heap.size w W := by rw [hW]; exact ((Below.refl _ _).alloc (Nat.le_refl _) _).alloc (by simp) _
  have hC : Cs W w.heap.size [.slice A1 n1 c1, .int .u8 (kn : Nat), .int .u32 ttl, .slice A2 n2 c2, .string s] := by rw [hW]; exact (Cs.new w _ _ _).alloc _
  have hG : Cs W (w.heap.size + 1) [.string ⟨#[]⟩, .int .u16 0, .int .u32 0, .string ⟨#[]⟩] := by rw [hW]; exact (Cs.new _ _ _ _).at_ _ (by simp)
  obtain ⟨b, hb⟩ : ∃ b, b = w.heap.size := ⟨_, rfl⟩
  have hlt := hC.lt
  have hlg := hG.lt
  go_enter Tryd.func27, Tryd.ntmps27
  obtain ⟨g, hg⟩ : ∃ g, g = w.heap.size + 1 := ⟨_, rfl⟩
  rw [← hb] at hC hlt
  rw [← hg] at hG hlg
  have HGG := Lib.hid hg
  have hbg : b ≠ g := by omega
  clear hg
  have HW := Lib.hid hW
  have HZ := Lib.hid hz
  have HBB := Lib.hid hb
  have HB0 := Lib.hid hb0
  clear hW hz hb hb0
  have hu8 : IntKind.u16.wrap (kn : Int) = (kn : Int) := by show (kn : Int) % 65536 = kn; omega
  have hLs : (L : Int) ≤ s.size := by omega
  have hss' : (s.size : Int) ≤ 9223372036854775807 := by unfold maxLen at hss; simp only at hss; omega
  have hlenM : (L = 30 ∧ 30 < s.size) ∨ (L = s.size ∧ s.size ≤ 30) := by omega
  go_upto_region 1 with fail
  rw [← HW.out]
  refine wp_region_goesG data_follows (fun x => by simp [putsF, Act.put]; rfl) W.heap.size W
    [isV (.pointer (some ⟨b, 1, none⟩)), isV (.int .u8 (kn : Nat)), isV (.int .u16 (kn : Nat)), isV (.pointer (some ⟨b, 3, none⟩)), isV (.slice A2 n2 c2), isV (.pointer (some ⟨b, 4, none⟩)), isV (.string s), isV (.pointer (some ⟨b, 4, none⟩)), isV (.string s),
     isV (.int .i64 (s.size : Nat)), isV (.int .i64 (L : Nat)), isV (.string M), isV (.tuple #[.int .u16 (qt : Nat), .string qd]), isV (.tuple #[.int .u16 (qt : Nat), .string qd]), isV (.int .u16 (qt : Nat)), isV (.string qd), isV (.int .u16 (qt : Nat)), isV (.string qd)]
    (by kernel_rfl) (by kernel_rfl) (by kernel_rfl) rfl ?_ (Below.refl _ _) ?_ ?_
  · repeat (first | exact trivial | refine ⟨isV_stays _, ?_⟩)
  · refine ⟨?_, ?_, ?_, ?_, ?_, ?_, ?_, ?_, ?_, ?_, ?_, ?_, ?_, ?_, ?_, ?_, ?_, ?_, trivial⟩
    all_goals
      intro x wr hR hd
      refine ⟨fun _ => ?_, fun hX => by simp at hX⟩
      simp at hd ⊢
      have k1 := (hR.cell (p := ⟨b, 1, none⟩) hlt).trans (hC.get 1 _)
      have k3 := (hR.cell (p := ⟨b, 3, none⟩) hlt).trans (hC.get 3 _)
      have k4 := (hR.cell (p := ⟨b, 4, none⟩) hlt).trans (hC.get 4 _)
    · have hq := HBB.out; go_simp; exact next_same _ rfl rfl hR
    · go_simp; exact next_same _ rfl rfl hR
    · go_simp; exact next_same _ rfl rfl hR
    · have hq := HBB.out; go_simp; exact next_same _ rfl rfl hR
    · go_simp; exact next_same _ rfl rfl hR
    · have hq := HBB.out; go_simp; exact next_same _ rfl rfl hR
    · go_simp; exact next_same _ rfl rfl hR
    · have hq := HBB.out; go_simp; exact next_same _ rfl rfl hR
    · go_simp; exact next_same _ rfl rfl hR
    · go_simp; exact next_same _ rfl rfl hR
    · rcases hlenM with ⟨rfl, hm⟩ | ⟨rfl, hm⟩
      · have m1 : (30 : Int) < s.size := by omega
        have m2 : ¬ (s.size : Int) ≤ 30 := by omega
        have m3 : ¬ (s.size : Int) < 30 := by omega
        go_simp; exact next_same _ rfl rfl hR
      · have m1 : (s.size : Int) ≤ 30 := by omega
        have m2 : (if (30 : Int) < (s.size : Int) then (30 : Int) else (s.size : Int)) = (s.size : Int) := if_neg (by omega)
        go_simp; exact next_same _ rfl rfl hR
    · obtain ⟨hd0, hd1⟩ := hd; go_simp; exact next_same _ rfl rfl hR
    · obtain ⟨hd0, hd1, hd2⟩ := hd
      go_simp
      go_at_call 51
      refine (DT.out wr ((H.out.r2.below ((HB0.out.mono (Nat.le_refl _)).trans (hR.mono HB0.out.size))).more (below_trans HB0.out HB0.out.size hR).size) H.out.n2).mono ?_
      rintro e w2 ⟨rfl, hb⟩
      exact next_call _ rfl rfl hR hR.size hb
    · go_simp; exact next_same _ rfl rfl hR
    · go_simp; exact next_same _ rfl rfl hR
    · go_simp; exact next_same _ rfl rfl hR
    · go_simp; exact next_same _ rfl rfl hR
    · go_simp; exact next_same _ rfl rfl hR
  · intro x wr hR hx
    simp [AllWords] at hx
    obtain ⟨-, -, -, -, -, -, -, -, -, -, -, -, -, -, -, -, h8, h9⟩ := hx
    rw [h8, h9]
    clear h8 h9
    go_upto_region 2 with fail
    have hCr := hC.below hR
    have hGr := hG.below hR
    have hBr := below_trans HB0.out HB0.out.size hR
    have hgw : w.heap.size ≤ g := by rw [HGG.out]; omega
    clear hR hC hG hlt hlg hu8 hlenM hLs hss'
    refine wp_region_store data_follows (fun x => by simp [putsF, Act.put]; rfl)
      (fun v => Below w.heap.size w v ∧ Cs v b [.slice A1 n1 c1, .int .u8 (kn : Nat), .int .u32 ttl, .slice A2 n2 c2, .string s] ∧ Cs v g [.string ⟨#[]⟩, .int .u16 0, .int .u32 0, .string ⟨#[]⟩])
      (fun v => Below w.heap.size w v ∧ Cs v g [.string N, .int .u16 (qt : Nat), .int .u32 ttl, .string qd]) (GoesBut g)
      [isV (.pointer (some ⟨b, 0, none⟩)), isV (.slice A1 n1 c1), isV (.string N), isV (.int .u16 (qt : Nat)), isV (.pointer (some ⟨b, 2, none⟩)), isV (.int .u32 ttl), isV (.string qd), isV (.agg #[.string N, .int .u16 (qt : Nat), .int .u32 ttl, .string qd]), fun _ _ => True]
      8 [] (by kernel_rfl) (by kernel_rfl) (by kernel_rfl) rfl (by kernel_rfl) (by kernel_rfl) ?_ (GoesBut.refl g) ⟨hBr.drew, hCr.drewN 1, hGr.drewN 1⟩ ?_ ?_ ?_ ?_
    · repeat (first | exact trivial | refine ⟨isV_stayX _ _, ?_⟩ | refine ⟨fun _ _ _ _ _ => trivial, ?_⟩)
    · refine ⟨?_, ?_, ?_, ?_, ?_, ?_, ?_, ?_, skipped rfl, trivial⟩
      all_goals
        intro _ x wr hR hd
        refine ⟨fun _ => ?_, fun hX => by simp at hX⟩
        simp at hd ⊢
        have k0 := hR.2.1.get 0 _
        have k2 := hR.2.1.get 2 _
      · go_simp; exact next_of _ rfl (by show Value.pointer _ = Value.pointer _; rw [HBB.out]) hR (GoesBut.refl _ _)
      · go_simp; exact next_of _ rfl rfl hR (GoesBut.refl _ _)
      · go_simp
        go_at_call 26
        refine (NM.out wr ((H.out.r1.below hR.1).more hR.1.size) H.out.n1).mono ?_
        rintro e w2 ⟨rfl, hb⟩
        exact next_of _ rfl rfl ⟨below_trans hR.1 hR.1.size hb, hR.2.1.below hb, hR.2.2.below hb⟩ (GoesBut.below hb)
      · go_simp; exact next_of _ rfl rfl hR (GoesBut.refl _ _)
      · go_simp; exact next_of _ rfl (by show Value.pointer _ = Value.pointer _; rw [HBB.out]) hR (GoesBut.refl _ _)
      · go_simp; exact next_of _ rfl rfl hR (GoesBut.refl _ _)
      · go_simp; exact next_of _ rfl rfl hR (GoesBut.refl _ _)
      · obtain ⟨hd0, hd1, hd2, hd3⟩ := hd; go_simp; exact next_of _ rfl rfl hR (GoesBut.refl _ _)
    · repeat (first | exact trivial | refine ⟨skipped rfl, ?_⟩)
    · intro x wr hR hx o ho
      simp [AllWordsIf] at hx
      obtain ⟨-, -, -, -, -, -, -, h7⟩ := hx
      obtain rfl := Option.some.inj ho
      rw [h7]
      have k0 := hR.2.2.get 0 _
      have k1 := hR.2.2.get 1 _
      have k2 := hR.2.2.get 2 _
      have k3 := hR.2.2.get 3 _
      have f0 := hR.2.2.froz 0
      have f1 := hR.2.2.froz 1
      have f2 := hR.2.2.froz 2
      have f3 := hR.2.2.froz 3
      rw [← HGG.out]
      have q := (((hR.2.2.set' 0 (.string N) (by decide)).set' 1 (.int .u16 (qt : Nat)) (by simp)).set' 2 (.int .u32 ttl) (by simp)).set' 3 (.string qd) (by simp)
      go_simp
      refine next_of undef rfl trivial ⟨?_, q⟩ ?_
      · iterate 4 (refine Below.setCell ?_ hgw _)
        exact hR.1
      · iterate 4 (refine GoesBut.then_set ?_ _ _)
        exact GoesBut.refl _ _
    · intro x wr hR hx
      rw [← HGG.out]
      have k0 := hR.2.get 0 _
      have k1 := hR.2.get 1 _
      have k2 := hR.2.get 2 _
      have k3 := hR.2.get 3 _
      go_wp2_with fail
      exact bodyPost_ret (v := .agg #[.string N, .int .u16 (qt : Nat), .int .u32 ttl, .string qd]) (by simp [results, Tryd.results27, go_sem, k0, k1, k2, k3]) rfl ⟨rfl, hR.1⟩
end Go.Proofs.YteaeplceahdioaaDoor
namespace Go.Proofs.YteaeplceahdioaaDoor
open Go.RowKit
set_option linter.unusedVariables false
set_option linter.unusedSimpArgs false
set_option maxRecDepth 20000
/-- The records' cells, one behind the other. -/
def flatR (rs : List RecT) : List Value := rs.flatMap recCells
theorem flatR_len (rs : List RecT) : (flatR rs).length = rs.length * 4 := by
  unfold flatR
  induction rs with
  | nil => rfl
  | cons r rs ih => rw [List.flatMap_cons, List.length_append, ih, List.length_cons, show (recCells r).length = 4 from rfl]; omega
theorem flatR_snoc (rs : List RecT) (r : RecT) : flatR (rs ++ [r]) = flatR rs ++ recCells r := by unfold flatR; simp
theorem flatR_one : ∀ (rs : List RecT), ∀ u ∈ flatR rs, u.oneCell' = true := by
  intro rs u hu
  obtain ⟨r, -, hr⟩ := List.mem_flatMap.1 hu
  unfold recCells at hr
  simp at hr
  rcases hr with rfl | rfl | rfl | rfl <;> rfl
theorem flatR_get : ∀ (rs : List RecT) (i : Nat) (r : RecT), rs[i]? = some r → (flatR rs)[i * 4]? = some (.string r.1) ∧ (flatR rs)[i * 4 + 1]? = some (.int .u16 r.2.1) ∧ (flatR rs)[i * 4 + 2]? = some (.int .u32 r.2.2.1) ∧ (flatR rs)[i * 4 + 3]? = some (.string r.2.2.2)
  | [], i, r, h => by simp at h
  | q :: rs, 0, r, h => by simp at h; subst h; exact ⟨rfl, rfl, rfl, rfl⟩
  | q :: rs, i + 1, r, h => by
    have := flatR_get rs i r (by simpa using h)
    have e : flatR (q :: rs) = recCells q ++ flatR rs := rfl
    have l : (recCells q).length = 4 := rfl
    rw [e]
    refine ⟨?_, ?_, ?_, ?_⟩ <;> rw [List.getElem?_append_right (by rw [l]; omega), l]
    · rw [show (i + 1) * 4 - 4 = i * 4 by omega]; exact this.1
    · rw [show (i + 1) * 4 + 1 - 4 = i * 4 + 1 by omega]; exact this.2.1
    · rw [show (i + 1) * 4 + 2 - 4 = i * 4 + 2 by omega]; exact this.2.2.1
    · rw [show (i + 1) * 4 + 3 - 4 = i * 4 + 3 by omega]; exact this.2.2.2
/-- Cells that lie as records are records. -/
theorem Sl.recs {w : World} {C n : Nat} {A : Option Addr} {rs : List RecT} (h : Sl w C 4 A n (flatR rs)) (hC : C ≤ w.heap.size) (hn : rs.length = n) : Recs w A rs := by
  intro i r hr
  have hi := (List.getElem?_eq_some_iff.1 hr).1
  obtain ⟨b, off, rfl, hb, hc⟩ := h.2 (by omega)
  obtain ⟨g0, g1, g2, g3⟩ := flatR_get rs i r hr
  exact ⟨b, off, rfl, by omega, hc _ _ g0, by have := hc _ _ g1; rwa [← Nat.add_assoc] at this, by have := hc _ _ g2; rwa [← Nat.add_assoc] at this, by have := hc _ _ g3; rwa [← Nat.add_assoc] at this⟩
theorem OBM.recs {B n c : Nat} {W w : World} {A : Option Addr} {rs : List RecT} (h : OBM 4 B W (.slice A n c) n (flatR rs) w) (hn : rs.length = n) : Recs w A rs := h.sl.recs (Nat.le_refl _) hn
/-- Records by numbers, five cells each. -/
structure ActsAt (w : World) (A : Option Addr) (n : Nat) (ds : List ActT) : Prop where
  len : ds.length = n
  ok : ∀ a ∈ ds, ActOk w a
  cells : ∀ i a, ds[i]? = some a → ∃ b off, A = some ⟨b, off, none⟩ ∧ b < w.heap.size ∧ w.cell? ⟨b, off + i * 5, none⟩ = some (rowV a.1) ∧ w.cell? ⟨b, off + i * 5 + 1, none⟩ = some (.int .u8 a.2.1) ∧ w.cell? ⟨b, off + i * 5 + 2, none⟩ = some (.int .u32 a.2.2.1) ∧
    w.cell? ⟨b, off + i * 5 + 3, none⟩ = some (rowV a.2.2.2.1) ∧ w.cell? ⟨b, off + i * 5 + 4, none⟩ = some (.string a.2.2.2.2)
theorem ActsAt.below {w w' : World} {A : Option Addr} {n : Nat} {ds : List ActT} (h : ActsAt w A n ds) (hb : Below w.heap.size w w') : ActsAt w' A n ds := by
  refine ⟨h.len, fun a ha => (h.ok a ha).below hb, fun i a hi => ?_⟩
  obtain ⟨b, off, rfl, hlt, g0, g1, g2, g3, g4⟩ := h.cells i a hi
  exact ⟨b, off, rfl, Nat.lt_of_lt_of_le hlt hb.size, (hb.cell (p := ⟨b, _, none⟩) hlt).trans g0, (hb.cell (p := ⟨b, _, none⟩) hlt).trans g1, (hb.cell (p := ⟨b, _, none⟩) hlt).trans g2, (hb.cell (p := ⟨b, _, none⟩) hlt).trans g3, (hb.cell (p := ⟨b, _, none⟩) hlt).trans g4⟩
theorem u8_wf {z : Int} (h : (Lit.int .u8 z).wf = true) : 0 ≤ z ∧ z < 256 := by
  have : IntKind.u8.min ≤ z ∧ z ≤ IntKind.u8.max := by simpa [Lit.wf] using h
  have a : IntKind.u8.min = 0 := rfl
  have b : IntKind.u8.max = 255 := rfl
  omega
theorem u32_wf {z : Int} (h : (Lit.int .u32 z).wf = true) : 0 ≤ z ∧ z < 4294967296 := by
  have : IntKind.u32.min ≤ z ∧ z ≤ IntKind.u32.max := by simpa [Lit.wf] using h
  have a : IntKind.u32.min = 0 := rfl
  have b : IntKind.u32.max = 4294967295 := rfl
  omega
theorem Acts5.at_ {w : World} {A : Option Addr} {n c : Nat} {ds : List ActT} (h : Acts5 w A n c ds) : ActsAt w A n ds := by
  refine ⟨h.len, fun a ha => ?_, fun i a hi => ?_⟩
  · obtain ⟨h1, h2, h3, h4, h5⟩ := h.ok a ha
    exact ⟨h1.1.sl, Nat.le_trans h1.1.le h1.1.max, u8_wf h2, u32_wf h3, h4.1.sl, Nat.le_trans h4.1.le h4.1.max, h5⟩
  · have hlt := (List.getElem?_eq_some_iff.1 hi).1
    obtain ⟨b, off, he, hb, hc⟩ := h.cells (by have := h.len; omega)
    exact ⟨b, off, he, hb, hc i a hi⟩
theorem Acts5.most {w : World} {A : Option Addr} {n c : Nat} {ds : List ActT} (h : Acts5 w A n c ds) : n ≤ maxLen := Nat.le_trans h.le h.max
/-- The records of numbers, up to so many. -/
def recsOf (ds : List ActT) (most : Nat) : List RecT := (ds.take most).map recOf
theorem recsOf_len (ds : List ActT) (most : Nat) : (recsOf ds most).length = min most ds.length := by unfold recsOf; simp
theorem recsOf_next {ds : List ActT} {most k : Nat} {a : ActT} (hk : k < most) (ha : ds[k]? = some a) : recsOf (ds.take (k + 1)) most = recsOf (ds.take k) most ++ [recOf a] := by
  unfold recsOf
  rw [List.take_take, List.take_take, Nat.min_eq_right (by omega), Nat.min_eq_right (by omega), List.take_add_one, ha]
  simp
theorem recsOf_more {ds : List ActT} {most k : Nat} (hk : ¬ k < most) : recsOf (ds.take (k + 1)) most = recsOf (ds.take k) most := by
  unfold recsOf
  rw [List.take_take, List.take_take, Nat.min_eq_left (by omega), Nat.min_eq_left (by omega)]
end Go.Proofs.YteaeplceahdioaaDoor
namespace Go.Proofs.YteaeplceahdioaaDoor
open Go.RowKit
set_option linter.unusedVariables false
set_option maxRecDepth 20000
set_option maxHeartbeats 1600000 in
theorem same_recs (A A' : Option Addr) (c c' : Nat) (rs rs' : List RecT) (w : World) (h : Recs w A rs) (h' : Recs w A' rs') (hn : rs.length ≤ maxLen) (hn' : rs'.length ≤ maxLen) :
    Calls Tryd.prog 17 #[.slice A rs.length c, .slice A' rs'.length c'] w fun e w' => e = .returned (.bool (decide (rs = rs'))) ∧ Below w.heap.size w w' := by
  unfold maxLen at hn hn'
  by_cases hl : rs.length = rs'.length
  · have hl' : (rs.length : Int) = rs'.length := by omega
    have H := Lib.hid h
    have H' := Lib.hid h'
    clear h h'
    go_enter Tryd.func17, Tryd.ntmps17
    go_wp2_with fail
    go_loopw [13] (fun i wr => ∃ k : Nat, k ≤ rs.length ∧ i = .int .i64 k ∧ rs.take k = rs'.take k ∧ Hid (Below w.heap.size w wr)) (fun i _ => rs.length - (intOf i).toNat)
    case atStart => exact ⟨0, Nat.zero_le _, rfl, by simp, Lib.hid (Below.refl _ _)⟩
    case round =>
      obtain ⟨k, hk, rfl, hT, HB⟩ := hrel
      by_cases hlt : k < rs.length
      · have hlt' : (k : Int) < rs.length := by omega
        obtain ⟨r, hr⟩ : ∃ r, rs[k]? = some r := ⟨_, List.getElem?_eq_getElem hlt⟩
        obtain ⟨r', hr'⟩ : ∃ r, rs'[k]? = some r := ⟨_, List.getElem?_eq_getElem (by omega)⟩
        obtain ⟨b, off, rfl, hb, g0, g1, g2, g3⟩ := (H.out.below HB.out) k _ hr
        obtain ⟨b', off', rfl, hb', g0', g1', g2', g3'⟩ := (H'.out.below HB.out) k _ hr'
        have HT := Lib.hid hT
        have HR := Lib.hid hr
        have HR' := Lib.hid hr'
        obtain ⟨q, hq⟩ : ∃ q, (!(r.1.toList == r'.1.toList && (r.2.1 == r'.2.1 && (r.2.2.1 == r'.2.2.1 && r.2.2.2.toList == r'.2.2.2.toList)))) = q := ⟨_, rfl⟩
        have hnq := fun w => rec_neq r r' w
        rw [hq] at hnq
        unfold recV at hnq
        have HQ := Lib.hid hq
        clear hq hT hr hr'
        go_upto_region 6 with fail
        go_quiet (fail)
        have HB2 := Lib.hid (show Below w.heap.size w _ from ⟨HB.out.os, HB.out.tape, HB.out.output, HB.out.size, HB.out.block⟩ : Below w.heap.size w (World.drewN _ nq))
        generalize World.drewN _ nq = W1 at *
        clear g0 g1 g2 g3 g0' g1' g2' g3' hnq
        cases q with
        | false =>
          go_wp2_with fail
          go_round
          case rel => exact ⟨k + 1, by omega, by go_num, recs_snoc HT.out HR.out HR'.out (rec_eq HQ.out), HB2⟩
          case measure => simp [intOf]; omega
        | true =>
          go_wp2_with fail
          go_ret
          have hd : decide (rs = rs') = false := decide_eq_false fun e => rec_ne HQ.out (by have := HR.out; rw [e, HR'.out] at this; injection this with this; exact this.symm)
          exact ⟨by rw [hd]; rfl, HB2.out⟩
      · have hlt' : ¬ (k : Int) < rs.length := by omega
        go_wp2_with fail
        go_ret
        have hd : decide (rs = rs') = true := decide_eq_true (by rwa [List.take_of_length_le (by omega), List.take_of_length_le (by omega)] at hT)
        exact ⟨by rw [hd]; rfl, HB.out⟩
  · have hl' : ¬ (rs.length : Int) = rs'.length := by omega
    have hd : decide (rs = rs') = false := decide_eq_false fun e => hl (by rw [e])
    go_enter Tryd.func17, Tryd.ntmps17
    go_wp2_with fail
    go_ret
    exact ⟨by rw [hd]; rfl, Below.refl _ _⟩
end Go.Proofs.YteaeplceahdioaaDoor
namespace Go.Proofs.YteaeplceahdioaaDoor
open Go.RowKit
set_option linter.unusedVariables false
set_option linter.unusedSimpArgs false
structure IsCmp {α : Type} (c : α → α → Int) : Prop where
  range : ∀ x y, c x y = -1 ∨ c x y = 0 ∨ c x y = 1
  swap : ∀ x y, c y x = - c x y
  zero : ∀ x y, c x y = 0 ↔ x = y
  trans : ∀ x y z, c x y ≤ 0 → c y z ≤ 0 → c x z ≤ 0
theorem IsCmp.refl {α : Type} {c : α → α → Int} (h : IsCmp c) (x : α) : c x x = 0 := (h.zero x x).2 rfl
theorem IsCmp.lt_of_lt_le {α : Type} {c : α → α → Int} (h : IsCmp c) {x y z : α} (h1 : c x y < 0) (h2 : c y z ≤ 0) : c x z < 0 := by
  have h3 := h.trans x y z (by omega) h2
  rcases Int.lt_or_eq_of_le h3 with h4 | h4
  · exact h4
  · exfalso
    have e := (h.zero x z).1 h4
    subst e
    have := h.swap x y
    omega
theorem IsCmp.lt_of_le_lt {α : Type} {c : α → α → Int} (h : IsCmp c) {x y z : α} (h1 : c x y ≤ 0) (h2 : c y z < 0) : c x z < 0 := by
  have h3 := h.trans x y z h1 (by omega)
  rcases Int.lt_or_eq_of_le h3 with h4 | h4
  · exact h4
  · exfalso
    have e := (h.zero x z).1 h4
    subst e
    have := h.swap x y
    omega
def cmpI (a b : Int) : Int := if a < b then -1 else if b < a then 1 else 0
theorem cmpI_is : IsCmp cmpI := by
  refine ⟨fun x y => ?_, fun x y => ?_, fun x y => ?_, fun x y z => ?_⟩ <;> unfold cmpI
  · by_cases h1 : x < y <;> by_cases h2 : y < x <;> simp [h1, h2]
  · by_cases h1 : x < y <;> by_cases h2 : y < x <;> simp [h1, h2]; omega
  · by_cases h1 : x < y <;> by_cases h2 : y < x <;> simp [h1, h2] <;> omega
  · intro h1 h2
    have a1 : x ≤ y := by
      by_cases h : y < x
      · have : ¬ x < y := by omega
        simp [h, this] at h1
      · omega
    have a2 : y ≤ z := by
      by_cases h : z < y
      · have : ¬ y < z := by omega
        simp [h, this] at h2
      · omega
    by_cases h : x < z
    · simp [h]
    · have : ¬ z < x := by omega
      simp [h, this]
/-- One order, and where it does not tell the other one. -/
def thenC (a b : Int) : Int := if a = 0 then b else a
theorem lex_is {α β : Type} {c : α → α → Int} {d : β → β → Int} (h : IsCmp c) (k : IsCmp d) : IsCmp (fun (x y : α × β) => thenC (c x.1 y.1) (d x.2 y.2)) := by
  refine ⟨fun x y => ?_, fun x y => ?_, fun x y => ?_, fun x y z => ?_⟩ <;> unfold thenC <;> try dsimp only
  · have := h.range x.1 y.1
    have := k.range x.2 y.2
    split <;> omega
  · have := h.swap x.1 y.1
    have := k.swap x.2 y.2
    split <;> split <;> omega
  · have h0 := h.zero x.1 y.1
    have k0 := k.zero x.2 y.2
    obtain ⟨x1, x2⟩ := x
    obtain ⟨y1, y2⟩ := y
    dsimp only at h0 k0 ⊢
    by_cases e : c x1 y1 = 0
    · rw [if_pos e, k0, Prod.mk.injEq]
      exact ⟨fun h => ⟨h0.1 e, h⟩, fun h => h.2⟩
    · rw [if_neg e, Prod.mk.injEq]
      exact ⟨fun h => absurd h e, fun h => absurd (h0.2 h.1) e⟩
  · intro a b
    have hs := h.trans x.1 y.1 z.1
    have hk := k.trans x.2 y.2 z.2
    by_cases e1 : c x.1 y.1 = 0
    · rw [if_pos e1] at a
      have q1 := (h.zero _ _).1 e1
      rw [← q1] at b
      by_cases e2 : c x.1 z.1 = 0
      · rw [if_pos e2] at b ⊢
        exact hk a b
      · rw [if_neg e2] at b ⊢
        exact b
    · rw [if_neg e1] at a
      have b' : c y.1 z.1 ≤ 0 := by
        by_cases e2 : c y.1 z.1 = 0
        · omega
        · rw [if_neg e2] at b; exact b
      have := h.lt_of_lt_le (show c x.1 y.1 < 0 by omega) b'
      rw [if_neg (by omega)]
      omega
theorem map_is {α β : Type} {c : β → β → Int} (h : IsCmp c) (f : α → β) (hf : ∀ x y, f x = f y → x = y) : IsCmp (fun x y => c (f x) (f y)) :=
  ⟨fun x y => h.range _ _, fun x y => h.swap _ _, fun x y => (h.zero _ _).trans ⟨hf x y, fun e => by rw [e]⟩, fun x y z => h.trans _ _ _⟩
def cmpB : List UInt8 → List UInt8 → Int
  | [], [] => 0
  | [], _ :: _ => -1
  | _ :: _, [] => 1
  | a :: x, b :: y => if a.toNat < b.toNat then -1 else if b.toNat < a.toNat then 1 else cmpB x y
theorem cmpB_range : ∀ x y, cmpB x y = -1 ∨ cmpB x y = 0 ∨ cmpB x y = 1
  | [], [] => by simp [cmpB]
  | [], _ :: _ => by simp [cmpB]
  | _ :: _, [] => by simp [cmpB]
  | a :: x, b :: y => by
    unfold cmpB
    have := cmpB_range x y
    split
    · exact .inl rfl
    · split
      · exact .inr (.inr rfl)
      · exact this
theorem cmpB_swap : ∀ x y, cmpB y x = - cmpB x y
  | [], [] => by simp [cmpB]
  | [], _ :: _ => by simp [cmpB]
  | _ :: _, [] => by simp [cmpB]
  | a :: x, b :: y => by
    unfold cmpB
    have := cmpB_swap x y
    by_cases h1 : a.toNat < b.toNat
    · have h2 : ¬ b.toNat < a.toNat := by omega
      simp [h1, h2]
    · by_cases h2 : b.toNat < a.toNat
      · simp [h1, h2]
      · simp [h1, h2, this]
theorem cmpB_zero : ∀ x y, cmpB x y = 0 ↔ x = y
  | [], [] => by simp [cmpB]
  | [], _ :: _ => by simp [cmpB]
  | _ :: _, [] => by simp [cmpB]
  | a :: x, b :: y => by
    unfold cmpB
    have := cmpB_zero x y
    by_cases h1 : a.toNat < b.toNat
    · simp [h1]
      intro e; subst e; omega
    · by_cases h2 : b.toNat < a.toNat
      · simp [h1, h2]
        intro e; subst e; omega
      · have e : a = b := UInt8.toNat_inj.1 (by omega)
        simp [h1, h2, this, e]
theorem cmpB_trans : ∀ x y z, cmpB x y ≤ 0 → cmpB y z ≤ 0 → cmpB x z ≤ 0
  | [], _, [], _, _ => by simp [cmpB]
  | [], _, _ :: _, _, _ => by simp [cmpB]
  | _ :: _, [], _, h, _ => by simp [cmpB] at h
  | _ :: _, _ :: _, [], _, h => by simp [cmpB] at h
  | a :: x, b :: y, c :: z, h1, h2 => by
    unfold cmpB at h1 h2 ⊢
    have ih := cmpB_trans x y z
    by_cases e1 : a.toNat < b.toNat
    · by_cases e2 : b.toNat < c.toNat
      · rw [if_pos (by omega)]; omega
      · by_cases e3 : c.toNat < b.toNat
        · rw [if_neg e2, if_pos e3] at h2; omega
        · rw [if_pos (by omega)]; omega
    · by_cases e4 : b.toNat < a.toNat
      · rw [if_neg e1, if_pos e4] at h1; omega
      · rw [if_neg e1, if_neg e4] at h1
        by_cases e2 : b.toNat < c.toNat
        · rw [if_pos (by omega)]; omega
        · by_cases e3 : c.toNat < b.toNat
          · rw [if_neg e2, if_pos e3] at h2; omega
          · rw [if_neg e2, if_neg e3] at h2
            rw [if_neg (by omega), if_neg (by omega)]
            exact ih h1 h2
theorem cmpB_is : IsCmp cmpB := ⟨cmpB_range, cmpB_swap, cmpB_zero, cmpB_trans⟩
theorem less_cmpB : ∀ x y, Op.bytesLess x y = decide (cmpB x y < 0)
  | [], [] => by simp [cmpB, Op.bytesLess]
  | [], _ :: _ => by simp [cmpB, Op.bytesLess]
  | _ :: _, [] => by simp [cmpB, Op.bytesLess]
  | a :: x, b :: y => by
    unfold cmpB Op.bytesLess
    rw [less_cmpB x y]
    by_cases h1 : a.toNat < b.toNat
    · have : a < b := h1
      simp [h1, this]
    · have n1 : ¬ a < b := h1
      by_cases h2 : b.toNat < a.toNat
      · have e : a ≠ b := by intro e; subst e; omega
        simp [h1, n1, h2, e]
      · have e : a = b := UInt8.toNat_inj.1 (by omega)
        simp [e]
def cmpS (s t : ByteArray) : Int := cmpB s.toList t.toList
theorem toList_inj (s t : ByteArray) (h : s.toList = t.toList) : s = t := by
  rw [ByteArray.toList_eq, ByteArray.toList_eq] at h; exact ByteArray.ext (Array.ext' h)
theorem cmpS_is : IsCmp cmpS := map_is cmpB_is ByteArray.toList toList_inj
/-- How records are ordered. -/
def cmpR (r r' : RecT) : Int := thenC (cmpS r.1 r'.1) (thenC (cmpI r.2.1 r'.2.1) (thenC (cmpS r.2.2.2 r'.2.2.2) (cmpI r.2.2.1 r'.2.2.1)))
theorem cmpR_is : IsCmp cmpR := by
  have h1 := lex_is cmpS_is (lex_is cmpI_is (lex_is cmpS_is cmpI_is))
  exact map_is h1 (fun r : RecT => (r.1, r.2.1, r.2.2.2, r.2.2.1)) (fun x y h => by
    obtain ⟨a, b, c, d⟩ := x
    obtain ⟨a', b', c', d'⟩ := y
    simp only [Prod.mk.injEq] at h ⊢
    exact ⟨h.1, h.2.1, h.2.2.2, h.2.2.1⟩)
end Go.Proofs.YteaeplceahdioaaDoor
namespace Go.Proofs.YteaeplceahdioaaDoor
open Go.RowKit
set_option linter.unusedVariables false
/-- What is said of a slot, by what is done. -/
abbrev WordX := (Nat → Bool) → Value → World → Prop
def wordX (Ws : List WordX) (d : Nat → Bool) (i : Nat) (v : Value) (w : World) : Prop := match Ws[i]? with | some p => p d v w | none => True
def setD (d : Nat → Bool) (i : Nat) : Nat → Bool := fun j => if j = i then true else d j
def leD (d d' : Nat → Bool) : Prop := ∀ j, d j = true → d' j = true
theorem setD_le (d : Nat → Bool) (i : Nat) : leD d (setD d i) := fun j h => by unfold setD; split <;> simp_all
theorem setD_self (d : Nat → Bool) (i : Nat) : setD d i i = true := by simp [setD]
theorem setD_ne (d : Nat → Bool) {i j : Nat} (h : j ≠ i) : setD d i j = d j := by simp [setD, h]
def StaysX (p : WordX) : Prop := ∀ d d' v w w', leD d d' → Goes w w' → p d v w → p d' v w'
def AllStaysX : List WordX → Prop
  | [] => True
  | p :: ps => StaysX p ∧ AllStaysX ps
theorem AllStaysX.mem : ∀ {l : List WordX}, AllStaysX l → ∀ p ∈ l, StaysX p
  | [], _, p, hp => by cases hp
  | q :: l, h, p, hp => by
    rcases List.mem_cons.1 hp with rfl | hp
    · exact h.1
    · exact AllStaysX.mem h.2 p hp
/-- What is said of all slots that are done. -/
def DoneX (d : Nat → Bool) (x : Nat → Value) (w : World) : Nat → List WordX → Prop
  | _, [] => True
  | i, p :: ps => (d i = true → p d (x i) w) ∧ DoneX d x w (i + 1) ps
/-- What was said holds still, behind operation K. -/
def KeepX (d : Nat → Bool) (K : Nat) (x : Nat → Value) (w w' : World) : Nat → List WordX → Prop
  | _, [] => True
  | i, p :: ps => (i ≠ K → d i = true → p d (x i) w → p (setD d K) (x i) w') ∧ KeepX d K x w w' (i + 1) ps
def AllX (x : Nat → Value) (w : World) : Nat → List WordX → Prop
  | _, [] => True
  | i, p :: ps => p (fun _ => true) (x i) w ∧ AllX x w (i + 1) ps
theorem doneX_of {Ws : List WordX} {d : Nat → Bool} {x : Nat → Value} {w : World} : ∀ (ps : List WordX) (k : Nat), (∀ j, j < ps.length → ps[j]? = Ws[k + j]?) → (∀ i, i < Ws.length → d i = true → wordX Ws d i (x i) w) → DoneX d x w k ps
  | [], _, _, _ => trivial
  | p :: ps, k, h, hw => by
    refine ⟨fun hd => ?_, doneX_of ps (k + 1) (fun j hj => ?_) hw⟩
    · have h0 := h 0 (by simp)
      simp at h0
      have hk : k < Ws.length := by
        rcases Nat.lt_or_ge k Ws.length with h1 | h1
        · exact h1
        · rw [List.getElem?_eq_none h1] at h0; cases h0
      have := hw k hk hd
      unfold wordX at this
      rw [← h0] at this
      exact this
    · have := h (j + 1) (by simpa using hj)
      rw [show k + 1 + j = k + (j + 1) by omega, ← this]
      simp
theorem allX_of {Ws : List WordX} {d : Nat → Bool} {x : Nat → Value} {w : World} (stays : AllStaysX Ws) : ∀ (ps : List WordX) (k : Nat), (∀ j, j < ps.length → ps[j]? = Ws[k + j]?) → (∀ i, i < Ws.length → wordX Ws d i (x i) w) → AllX x w k ps
  | [], _, _, _ => trivial
  | p :: ps, k, h, hw => by
    refine ⟨?_, allX_of stays ps (k + 1) (fun j hj => ?_) hw⟩
    · have h0 := h 0 (by simp)
      simp at h0
      have hk : k < Ws.length := by
        rcases Nat.lt_or_ge k Ws.length with h1 | h1
        · exact h1
        · rw [List.getElem?_eq_none h1] at h0; cases h0
      have := hw k hk
      unfold wordX at this
      rw [← h0] at this
      exact stays.mem p (List.mem_of_getElem? h0.symm) d _ _ w w (fun _ _ => rfl) (Below.refl _ _) this
    · have := h (j + 1) (by simpa using hj)
      rw [show k + 1 + j = k + (j + 1) by omega, ← this]
      simp
theorem KeepX.get {Ws : List WordX} {d : Nat → Bool} {K : Nat} {x : Nat → Value} {w w' : World} : ∀ {ps : List WordX} {k : Nat}, KeepX d K x w w' k ps → ∀ j p, ps[j]? = some p → k + j ≠ K → d (k + j) = true → p d (x (k + j)) w → p (setD d K) (x (k + j)) w'
  | [], _, _, j, p, hp => by simp at hp
  | q :: ps, k, h, 0, p, hp => by simp at hp; subst hp; exact h.1
  | q :: ps, k, h, j + 1, p, hp => by
    have := KeepX.get (Ws := Ws) h.2 j p (by simpa using hp)
    rwa [show k + 1 + j = k + (j + 1) by omega] at this
section
variable {P : Program} {ops : Array Oper} {Q : Exit → Act → World → Prop}
/-- What is there, of those done that an operation waits for. -/
def SrcX (ops : Array Oper) (d : Nat → Bool) (o : Oper) : Prop := ∀ e ∈ o.after.toList, Region.binds .any e = true → d e.on = true
/-- Whatever an operation that is done waited for is done. -/
def ClosedX (ops : Array Oper) (d : Nat → Bool) : Prop := ∀ j o, ops[j]? = some o → d j = true → SrcX ops d o
/-- Operation i is waited for by operation j, through others; within so many steps. -/
def reachX (ops : Array Oper) : Nat → Nat → Nat → Bool
  | 0, i, j => i == j
  | n + 1, i, j => i == j || (match ops[j]? with | some o => o.after.toList.any fun e => Region.binds .any e && reachX ops n i e.on | none => false)
theorem ClosedX.reach {ops : Array Oper} {d : Nat → Bool} (h : ClosedX ops d) : ∀ (n i j : Nat), reachX ops n i j = true → d j = true → d i = true
  | 0, i, j, hr, hj => by simp [reachX] at hr; subst hr; exact hj
  | n + 1, i, j, hr, hj => by
    unfold reachX at hr
    rw [Bool.or_eq_true] at hr
    rcases hr with hr | hr
    · simp at hr; subst hr; exact hj
    · cases ho : ops[j]? with
      | none => rw [ho] at hr; simp at hr
      | some o =>
        rw [ho] at hr
        simp only [List.any_eq_true, Bool.and_eq_true] at hr
        obtain ⟨e, he, hb, hr⟩ := hr
        exact ClosedX.reach h n i e.on hr (h j o ho hj e he hb)
theorem SrcX.reach {ops : Array Oper} {d : Nat → Bool} (h : ClosedX ops d) {K : Nat} {o : Oper} (hs : SrcX ops d o) (ho : ops[K]? = some o) (n i : Nat) (hi : i ≠ K) (hr : reachX ops (n + 1) i K = true) : d i = true := by
  unfold reachX at hr
  rw [Bool.or_eq_true] at hr
  rcases hr with hr | hr
  · simp at hr; exact absurd hr hi
  · rw [ho] at hr
    simp only [List.any_eq_true, Bool.and_eq_true] at hr
    obtain ⟨e, he, hb, hr⟩ := hr
    exact h.reach n i e.on hr (hs e he hb)
def NextX (A : Act) (dst : Option Tmp) (Ws : List WordX) (d : Nat → Bool) (i : Nat) (R : World → Prop) (w : World) (a' : Act) (w' : World) : Prop := ∃ v, a' = A.put dst v ∧ wordX Ws (setD d i) i v w' ∧ R w' ∧ Goes w w'
def NextK (A : Act) (dst : Option Tmp) (Ws : List WordX) (d : Nat → Bool) (i : Nat) (x : Nat → Value) (R : World → Prop) (w : World) (a' : Act) (w' : World) : Prop := ∃ v, a' = A.put dst v ∧ wordX Ws (setD d i) i v w' ∧ R w' ∧ KeepX d i x w w' 0 Ws
/-- An operation behind which all that was said holds still of itself. -/
def OpStepX (P : Program) (ops : Array Oper) (Q : Exit → Act → World → Prop) (Ws : List WordX) (R : World → Prop) (FF : (Nat → Value) → Act) (i : Nat) (o : Oper) : Prop :=
  ∀ (d : Nat → Bool) (x : Nat → Value) (w : World), R w → d i = false → SrcX ops d o → Deps (wordX Ws d) x w o.after.toList →
    (wantedX o x = true → Oper.wp P o (FF x) w (NextX (FF x) o.dst Ws d i R w) Q) ∧ (wantedX o x = false → wordX Ws (setD d i) i undef w)
/-- An operation of which all that was said must be shown again. -/
def OpSpecX (P : Program) (ops : Array Oper) (Q : Exit → Act → World → Prop) (Ws : List WordX) (R : World → Prop) (FF : (Nat → Value) → Act) (i : Nat) (o : Oper) : Prop :=
  ∀ (d : Nat → Bool) (x : Nat → Value) (w : World), R w → d i = false → ClosedX ops d → SrcX ops d o → DoneX d x w 0 Ws →
    (wantedX o x = true → Oper.wp P o (FF x) w (NextK (FF x) o.dst Ws d i x R w) Q) ∧ (wantedX o x = false → wordX Ws (setD d i) i undef w)
def OpStepsX (P : Program) (ops : Array Oper) (Q : Exit → Act → World → Prop) (Ws : List WordX) (R : World → Prop) (FF : (Nat → Value) → Act) (sp : List Nat) : Nat → List Oper → Prop
  | _, [] => True
  | i, o :: os => (sp.contains i = false → OpStepX P ops Q Ws R FF i o) ∧ OpStepsX P ops Q Ws R FF sp (i + 1) os
def OpSpecsX (P : Program) (ops : Array Oper) (Q : Exit → Act → World → Prop) (Ws : List WordX) (R : World → Prop) (FF : (Nat → Value) → Act) (sp : List Nat) : Nat → List Oper → Prop
  | _, [] => True
  | i, o :: os => (sp.contains i = true → OpSpecX P ops Q Ws R FF i o) ∧ OpSpecsX P ops Q Ws R FF sp (i + 1) os
theorem OpStepsX.get {Ws : List WordX} {R : World → Prop} {FF : (Nat → Value) → Act} {sp : List Nat} : ∀ {l : List Oper} {k : Nat}, OpStepsX P ops Q Ws R FF sp k l → ∀ i o, l[i]? = some o → sp.contains (k + i) = false → OpStepX P ops Q Ws R FF (k + i) o
  | [], _, _, i, o, h, _ => by simp at h
  | p :: l, k, hs, 0, o, h, hk => by simp at h; subst h; exact hs.1 hk
  | p :: l, k, hs, i + 1, o, h, hk => by
    have := OpStepsX.get hs.2 i o (by simpa using h) (by rwa [show k + 1 + i = k + (i + 1) by omega])
    rwa [show k + 1 + i = k + (i + 1) by omega] at this
theorem OpSpecsX.get {Ws : List WordX} {R : World → Prop} {FF : (Nat → Value) → Act} {sp : List Nat} : ∀ {l : List Oper} {k : Nat}, OpSpecsX P ops Q Ws R FF sp k l → ∀ i o, l[i]? = some o → sp.contains (k + i) = true → OpSpecX P ops Q Ws R FF (k + i) o
  | [], _, _, i, o, h, _ => by simp at h
  | p :: l, k, hs, 0, o, h, hk => by simp at h; subst h; exact hs.1 hk
  | p :: l, k, hs, i + 1, o, h, hk => by
    have := OpSpecsX.get hs.2 i o (by simpa using h) (by rwa [show k + 1 + i = k + (i + 1) by omega])
    rwa [show k + 1 + i = k + (i + 1) by omega] at this
theorem wp_region_exp {id : Nat} {base : Act} {w0 : World} (hm : P.follows .mixedOrders = true) {FF : (Nat → Value) → Act} (hFF : ∀ x, putsF x 0 (ops.toList.map (·.dst)) base = FF x) (R : World → Prop) (Ws : List WordX) (sp : List Nat)
    (hn : noTwice (ops.toList.map (·.dst)) = true) (hg : guardsIn ops base.tmps.size = true) (hwf : wellFormed ops = true) (hlen : Ws.length = ops.size)
    (stays : AllStaysX Ws) (start : R w0.drew)
    (steps : OpStepsX P ops Q Ws R FF sp 0 ops.toList) (specs : OpSpecsX P ops Q Ws R FF sp 0 ops.toList)
    (fin : ∀ (x : Nat → Value) (w : World), R w → AllX x w 0 Ws → Q .normal (FF x) w) :
    (Code.region id ops true).wp P Q base w0 := by
  have hword : ∀ (i : Nat) d d' v w w', wordX Ws d i v w → leD d d' → Goes w w' → wordX Ws d' i v w' := by
    intro i d d' v w w' hw hd he
    unfold wordX at hw ⊢
    cases hp : Ws[i]? with
    | none => trivial
    | some p =>
      rw [hp] at hw
      exact stays.mem p (List.mem_of_getElem? hp) _ _ _ _ _ hd he hw
  refine wp_region_joint hm (fun d x w => R w ∧ (∀ i, i < ops.size → d i = true → wordX Ws d i (x i) w) ∧ ClosedX ops d) hn hwf ?_ ?_ ?_
  · exact fun x => ⟨start, by simp, fun j o _ h => by cases h⟩
  · rintro i hi d x w ⟨hR, hw, hcl⟩ hd hdeps
    have hoi : ops[i]? = some ops[i] := Array.getElem?_eq_getElem hi
    have hmem : ops[i] ∈ ops.toList := by simp
    have hlt : ∀ e ∈ (ops[i]).after.toList, Region.binds .any e = true → e.on < ops.size := by
      intro e he hb
      unfold wellFormed at hwf
      rw [List.all_eq_true] at hwf
      have := hwf (ops[i], i) (by rw [List.mem_zipIdx_iff_getElem?]; simp [hi])
      simp only [Array.all_eq_true'] at this
      have := this e (by simpa using he)
      have : e.on < i := by simpa [hb] using this
      omega
    have hwant : Region.wanted ops[i] (yielded ops (putsF x 0 (ops.toList.map (·.dst)) base).tmps) = wantedX ops[i] x := wanted_eq hn hg ops[i] hmem x
    have hset : (fun j => if j = i then true else d j) = setD d i := rfl
    have put : ∀ v w', wordX Ws (setD d i) i v w' → (∀ j, j < ops.size → j ≠ i → d j = true → wordX Ws (setD d i) j (x j) w') → ∀ j, j < ops.size → setD d i j = true → wordX Ws (setD d i) j (if j = i then v else x j) w' := by
      intro v w' hv ho j hj hdj
      by_cases hji : j = i
      · subst hji; simpa using hv
      · rw [setD_ne d hji] at hdj
        rw [if_neg hji]
        exact ho j hj hji hdj
    have hcl2 : ClosedX ops (setD d i) := by
      intro j o hj hdj e he hb
      by_cases hji : j = i
      · subst hji
        rw [hoi] at hj
        obtain rfl := Option.some.inj hj
        exact setD_le d _ _ (hdeps e he hb)
      · rw [setD_ne d hji] at hdj
        exact setD_le d _ _ (hcl j o hj hdj e he hb)
    rw [hwant, hFF x, hset]
    cases hsp : sp.contains i with
    | false =>
      have hs := OpStepsX.get steps i ops[i] (by simp [hi]) (by rw [Nat.zero_add]; exact hsp)
      rw [Nat.zero_add] at hs
      have hs := hs d x w hR hd hdeps (Deps.of (fun e he hb => hw _ (hlt e he hb) (hdeps e he hb)))
      split
      · rename_i hwt
        refine Oper.wp_mono ?_ (hs.1 hwt)
        rintro a' w' ⟨v, rfl, hv, hR', he⟩
        exact ⟨v, rfl, hR', put v w' hv (fun j hj hji hdj => hword j d _ _ w w' (hw j hj hdj) (setD_le d i) he), hcl2⟩
      · rename_i hwt
        exact ⟨hR, put undef w (hs.2 (by simpa using hwt)) (fun j hj hji hdj => hword j d _ _ w w (hw j hj hdj) (setD_le d i) (Below.refl _ _)), hcl2⟩
    | true =>
      have hs := OpSpecsX.get specs i ops[i] (by simp [hi]) (by rw [Nat.zero_add]; exact hsp)
      rw [Nat.zero_add] at hs
      have hs := hs d x w hR hd hcl hdeps (doneX_of Ws 0 (fun j _ => by simp) (fun j hj hdj => hw j (by omega) hdj))
      split
      · rename_i hwt
        refine Oper.wp_mono ?_ (hs.1 hwt)
        rintro a' w' ⟨v, rfl, hv, hR', he⟩
        refine ⟨v, rfl, hR', put v w' hv (fun j hj hji hdj => ?_), hcl2⟩
        have h0 := hw j hj hdj
        unfold wordX at h0 ⊢
        cases hp : Ws[j]? with
        | none => trivial
        | some p =>
          rw [hp] at h0
          have := he.get (Ws := Ws) j p hp
          rw [Nat.zero_add] at this
          exact this hji hdj h0
      · rename_i hwt
        exact ⟨hR, put undef w (hs.2 (by simpa using hwt)) (fun j hj hji hdj => hword j d _ _ w w (hw j hj hdj) (setD_le d i) (Below.refl _ _)), hcl2⟩
  · rintro d x w hall ⟨hR, hw, -⟩
    rw [hFF x]
    exact fin x w hR (allX_of (d := d) stays Ws 0 (fun j _ => by simp) (fun j hj => hw j (by omega) (hall j (by omega))))
end
/-- A word that never ends. -/
def always (p : Value → World → Prop) : WordX := fun _ v w => p v w
/-- A word that ends when operation k is done. -/
def until_ (k : Nat) (p : Value → World → Prop) : WordX := fun d v w => d k = false → p v w
theorem always_stays {p : Value → World → Prop} (h : ∀ v w w', p v w → Goes w w' → p v w') : StaysX (always p) := fun _ _ v w w' _ he hp => h v w w' hp he
theorem until_stays {k : Nat} {p : Value → World → Prop} (h : ∀ v w w', p v w → Goes w w' → p v w') : StaysX (until_ k p) := fun d d' v w w' hd he hp hk => h v w w' (hp (by
  cases e : d k with
  | false => rfl
  | true => have := hd k e; rw [hk] at this; cases this)) he
theorem unskipped {p : Prop} {b : Bool} (hb : b = false) : b = true → p := fun h => by rw [hb] at h; cases h
def isX (u : Value) : WordX := fun _ v _ => v = u
theorem isX_stays (u : Value) : StaysX (isX u) := fun _ _ v w w' _ _ h => h
theorem nextX {A a' : Act} {dst : Option Tmp} {Ws : List WordX} {d : Nat → Bool} {i : Nat} {R : World → Prop} {w w' : World} (v : Value) (ha : a' = A.put dst v) (hp : wordX Ws (setD d i) i v w') (hR : R w') (he : Goes w w') : NextX A dst Ws d i R w a' w' := ⟨v, ha, hp, hR, he⟩
theorem nextK {A a' : Act} {dst : Option Tmp} {Ws : List WordX} {d : Nat → Bool} {i : Nat} {x : Nat → Value} {R : World → Prop} {w w' : World} (v : Value) (ha : a' = A.put dst v) (hp : wordX Ws (setD d i) i v w') (hR : R w') (he : KeepX d i x w w' 0 Ws) : NextK A dst Ws d i x R w a' w' := ⟨v, ha, hp, hR, he⟩
end Go.Proofs.YteaeplceahdioaaDoor
namespace Go.Proofs.YteaeplceahdioaaDoor
open Go.RowKit
set_option linter.unusedVariables false
theorem oper_append_obm {P : Program} {o : Oper} {a : Act} {Q : Exit → Act → World → Prop} {K : Act → World → Prop} {w : World} (s x : Operand) (t tx : TypeId)
    (ho : o.op = .call { callee := .builtin .append, args := #[s, x], argTypes := #[t, tx] }) {sz : Nat}
    (e : TypeId) (i : TypeInfo) (z : Value) (bytes : Nat) (ht : P.underlying t = some (.slice e)) (hi : P.info? e = some i) (hz : i.zero = some z) (hsize : i.size = sz) (hby : i.bytes = bytes) (hzs : z.cells.size = sz)
    {B : Nat} {v : Value} {n : Nat} {l : List Value} {W : World} (hb : OBM sz B W v n l w) (hs : a.eval s = v) {vx : Value} {m : Nat} {news : List Value} (hx : a.eval x = vx) (hsrc : Src P sz tx vx m news w) (hnl : news.length = m * sz)
    (hlen : n + m ≤ maxLen) (hbytes : (n + m) * bytes ≤ 140737488355328)
    (h : ∀ v' w', OBM sz B W v' (n + m) (l ++ news) w' → w.heap.size ≤ w'.heap.size → (∀ k, k < w.heap.size → some k ≠ v.ownBlock → w'.heap[k]? = w.heap[k]?) → (v'.ownBlock = v.ownBlock ∨ v'.ownBlock = some w.heap.size) → K (a.put o.dst v') w') :
    Oper.wp P o a w K Q := by
  obtain ⟨v', w', hr, h1, h2, h3, h4⟩ := run_append_obm (P := P) t tx o.type e i z bytes ht hi hz hsize hby hzs hb vx m news hsrc hnl hlen hbytes
  unfold Oper.wp execOp
  simp only [ho, resolve, invoke, builtin, Sem.run_bind, Sem.run_pure, Result.andThen_ok, List.map_toArray, List.map_cons, List.map_nil, hs, hx, hr]
  exact h v' w' h1 h2 h3 h4
/-- A slice that reads as cells is what append can take. -/
theorem Sl.srcM {P : Program} {w : World} {C sz m c : Nat} {A : Option Addr} {news : List Value} {tx e' : TypeId} (hk : P.underlying tx = some (.slice e')) (hA : Sl w C sz A m news) (hA0 : A = none → m = 0) (h1 : ∀ u ∈ news, u.oneCell' = true) : Src P sz tx (.slice A m c) m news w := by
  cases A with
  | none =>
    have h0 := hA0 rfl
    subst h0
    have : news = [] := List.eq_nil_of_length_eq_zero (by rw [hA.1]; simp)
    subst this
    exact Src.ofNil w hk c
  | some ad => exact Src.ofSlice _ hk ad m c news hA.1 (fun j u hu => hA.cells_at ad rfl j u hu) h1
/-! ### append, and the elder slice -/
/-- 'append', whatever is appended, at elements of several cells. -/
theorem run_append_obk {P : Program} {sz B : Nat} {W w : World} {v : Value} {n : Nat} {l : List Value} (t tx ty e : TypeId) (i : TypeInfo) (z : Value) (bytes : Nat) (ht : P.underlying t = some (.slice e)) (hi : P.info? e = some i) (hz : i.zero = some z)
    (hsize : i.size = sz) (hby : i.bytes = bytes) (hzs : z.cells.size = sz) (h : OBM sz B W v n l w) (x : Value) (m : Nat) (news : List Value) (hs : Src P sz tx x m news w) (hnl : news.length = m * sz) (h63 : n + m ≤ maxLen) (hbytes : (n + m) * bytes ≤ 140737488355328) :
    ∃ v' w', (Builtin.append_ #[t, tx] ty #[v, x]).run P w = .ok v' w' ∧ OBM sz B W v' (n + m) (l ++ news) w' ∧ w.heap.size ≤ w'.heap.size ∧ (∀ k, k < w.heap.size → some k ≠ v.ownBlock → w'.heap[k]? = w.heap[k]?) ∧
      (v'.ownBlock = v.ownBlock ∨ v'.ownBlock = some w.heap.size) ∧ OBM sz B W v n l w' := by
  have hll : (l ++ news).length = (n + m) * sz := by rw [List.length_append, h.len, hnl, Nat.add_mul]
  have h63' : ((n + m : Nat) : Int) ≤ 9223372036854775807 := by unfold maxLen at h63; omega
  have grow : ∀ (base : Option Addr) (c : Nat), v = .slice base n c → c < n + m → (Builtin.firstCells i.size n (.slice base n c)).run P w.drew = .ok l.toArray w.drew →
      ∃ v' w', (Builtin.append_ #[t, tx] ty #[v, x]).run P w = .ok v' w' ∧ OBM sz B W v' (n + m) (l ++ news) w' ∧ w.heap.size ≤ w'.heap.size ∧ (∀ k, k < w.heap.size → some k ≠ v.ownBlock → w'.heap[k]? = w.heap[k]?) ∧
        (v'.ownBlock = v.ownBlock ∨ v'.ownBlock = some w.heap.size) ∧ OBM sz B W v n l w' := by
    intro base c hv hc hold
    have hfit : Builtin.nextslicecap (n + m) c * i.bytes ≤ 281474976710656 := growslice_fits hc (by rw [hby]; exact hbytes)
    have hr := run_append_grow_src (P := P) w t tx ty e i z ht hi hz base n c l hold x m news (by rw [hsize]; exact hs) hc h63' hfit
    have hge := grownCap_ge w (n + m) c e
    have hcm := grownCap_le_maxLen w (n + m) c e h63
    rw [← hv] at hr
    generalize grownCap w (n + m) c e = K at *
    have hsz : ((l ++ news).toArray ++ Builtin.zeroCells z.cells (K - (n + m))).size = K * sz := by
      rw [Array.size_append, List.size_toArray, hll, size_zeroCells, hzs]
      have e1 : K = (n + m) + (K - (n + m)) := by omega
      conv => rhs; rw [e1, Nat.add_mul]

    refine ⟨_, _, hr, ⟨(h.bel.drew).alloc h.base _, by have := h.base; simp; omega, hll, .inr ⟨w.heap.size, K, rfl, h.base, by simp, hge, hcm, fun j hj => ?_, fun j u hu => ?_⟩⟩, by simp, fun k hk _ => Below.heap_alloc w.drew _ k hk, .inr rfl, (h.drewN 1).alloc _⟩
    · have hg : (w.drew.alloc (.cells ((l ++ news).toArray ++ Builtin.zeroCells z.cells (K - (n + m))) e)).heap[w.heap.size]? = some (.cells ((l ++ news).toArray ++ Builtin.zeroCells z.cells (K - (n + m))) e (0, 0)) := heap_alloc_new w.drew _
      refine ⟨?_, frozen_of_row _ _ j _ e hg⟩
      rw [cell_of_row _ _ j _ e (0, 0) hg, Array.getElem?_eq_getElem (by rw [hsz]; exact hj)]; rfl
    · have hg : (w.drew.alloc (.cells ((l ++ news).toArray ++ Builtin.zeroCells z.cells (K - (n + m))) e)).heap[w.heap.size]? = some (.cells ((l ++ news).toArray ++ Builtin.zeroCells z.cells (K - (n + m))) e (0, 0)) := heap_alloc_new w.drew _
      have hj := (List.getElem?_eq_some_iff.1 hu).1
      rw [cell_of_row _ _ j _ e (0, 0) hg, Array.getElem?_append_left (by simpa using hj)]
      rw [List.getElem?_toArray]; exact hu
  rcases h.own with ⟨rfl, rfl⟩ | ⟨g, cap, rfl, h1, h2, h3, h4, h5, h6⟩
  · have hx : l = [] := List.eq_nil_of_length_eq_zero (by rw [h.len]; simp)
    subst hx
    by_cases hm : m = 0
    · subst hm
      have hn : news = [] := List.eq_nil_of_length_eq_zero (by rw [hnl]; simp)
      subst hn
      refine ⟨.slice none 0 0, w, ?_, ⟨h.bel, h.base, by simp, .inl ⟨rfl, rfl⟩⟩, Nat.le_refl _, fun _ _ _ => rfl, .inl rfl, h⟩
      have hc := hs.cells
      rw [show sz = i.size from hsize.symm] at hc
      rcases hs.kind with ⟨e', hk⟩ | hk <;> simp [Builtin.append_, run_underlying ht, run_underlying hk, sizeOf, typeInfo, hi, hs.len, hc]
    · exact grow none 0 rfl (by omega) (run_firstCells_none w.drew i.size 0 0 0)
  · by_cases hroom : n + m ≤ cap
    · have hroomsz : n * sz + news.length ≤ cap * sz := by rw [hnl, ← Nat.add_mul]; exact Nat.mul_le_mul_right sz hroom
      have hr := run_append_room_src (P := P) w t tx ty e i ht hi g 0 n cap x m news (by rw [hsize]; exact hs) hroom
        (fun j hj => by rw [hsize, Nat.zero_add]; exact (h5 _ (by omega)).1) (fun j hj => by rw [hsize, Nat.zero_add]; exact (h5 _ (by omega)).2)
      rw [hsize, Nat.zero_add] at hr
      obtain ⟨k1, k2⟩ := setCells_heap w g news (n * sz)
      have hin : ∀ j, j < news.length → (w.cell? ⟨g, n * sz + j, none⟩).isSome = true := fun j hj => (h5 _ (by omega)).1
      have hcell : ∀ j, j < cap * sz → (j < n * sz ∨ n * sz + news.length ≤ j → (w.setCells g (n * sz) news).cell? ⟨g, j, none⟩ = w.cell? ⟨g, j, none⟩) := fun j hj hout => World.cell?_setCells_out g news (n * sz) w ⟨g, j, none⟩ (fun _ _ => hout)
      have hkeep : OBM sz B W (.slice (some ⟨g, 0, none⟩) n cap) n l (w.setCells g (n * sz) news) := by
        refine ⟨below_setCells' h1 news (n * sz) h.bel, by rw [k1]; exact h.base, h.len, .inr ⟨g, cap, rfl, h1, by rw [k1]; exact h2, h3, h4, fun j hj => ⟨?_, by rw [World.frozen?_setCells]; exact (h5 j hj).2⟩, fun j u hu => ?_⟩⟩
        · by_cases hj1 : j < n * sz ∨ n * sz + news.length ≤ j
          · rw [hcell j hj hj1]; exact (h5 j hj).1
          · have := World.cell?_setCells_in g news (n * sz) w hin (j - n * sz) (by omega)
            rw [show n * sz + (j - n * sz) = j by omega] at this
            rw [this]; rfl
        · have hjl := (List.getElem?_eq_some_iff.1 hu).1
          rw [h.len] at hjl
          rw [hcell j (by omega) (.inl hjl)]
          exact h6 j u hu
      refine ⟨_, _, hr, ⟨below_setCells' h1 news (n * sz) h.bel, by rw [k1]; exact h.base, hll, .inr ⟨g, cap, rfl, h1, by rw [k1]; exact h2, hroom, h4, fun j hj => ?_, fun j u hu => ?_⟩⟩, by rw [k1]; exact Nat.le_refl _, fun k hk hne => k2 k (fun e => hne (by rw [e]; rfl)), .inl rfl, hkeep⟩
      · refine ⟨?_, by rw [World.frozen?_setCells]; exact (h5 j hj).2⟩
        by_cases hj1 : j < n * sz ∨ n * sz + news.length ≤ j
        · rw [hcell j hj hj1]; exact (h5 j hj).1
        · have := World.cell?_setCells_in g news (n * sz) w hin (j - n * sz) (by omega)
          rw [show n * sz + (j - n * sz) = j by omega] at this
          rw [this]; rfl
      · rw [List.getElem?_append] at hu
        split at hu
        · rename_i hjl
          rw [h.len] at hjl
          rw [hcell j (by omega) (.inl hjl)]
          exact h6 j u hu
        · rename_i hjl
          rw [h.len] at hu hjl
          obtain ⟨hj2, rfl⟩ := List.getElem?_eq_some_iff.1 hu
          have := World.cell?_setCells_in g news (n * sz) w hin (j - n * sz) hj2
          rwa [show n * sz + (j - n * sz) = j by omega] at this
    · refine grow _ cap rfl (by omega) (run_firstCells_some w.drew i.size n ⟨g, 0, none⟩ n cap l (by rw [hsize]; exact h.len) (fun j u hu => ?_))
      rw [Addr.add_lit, Nat.zero_add]
      exact h6 j u hu
theorem oper_append_obk {P : Program} {o : Oper} {a : Act} {Q : Exit → Act → World → Prop} {K : Act → World → Prop} {w : World} (s x : Operand) (t tx : TypeId)
    (ho : o.op = .call { callee := .builtin .append, args := #[s, x], argTypes := #[t, tx] }) {sz : Nat}
    (e : TypeId) (i : TypeInfo) (z : Value) (bytes : Nat) (ht : P.underlying t = some (.slice e)) (hi : P.info? e = some i) (hz : i.zero = some z) (hsize : i.size = sz) (hby : i.bytes = bytes) (hzs : z.cells.size = sz)
    {B : Nat} {v : Value} {n : Nat} {l : List Value} {W : World} (hb : OBM sz B W v n l w) (hs : a.eval s = v) {vx : Value} {m : Nat} {news : List Value} (hx : a.eval x = vx) (hsrc : Src P sz tx vx m news w) (hnl : news.length = m * sz)
    (hlen : n + m ≤ maxLen) (hbytes : (n + m) * bytes ≤ 140737488355328)
    (h : ∀ v' w', OBM sz B W v' (n + m) (l ++ news) w' → w.heap.size ≤ w'.heap.size → (∀ k, k < w.heap.size → some k ≠ v.ownBlock → w'.heap[k]? = w.heap[k]?) → (v'.ownBlock = v.ownBlock ∨ v'.ownBlock = some w.heap.size) → OBM sz B W v n l w' → K (a.put o.dst v') w') :
    Oper.wp P o a w K Q := by
  obtain ⟨v', w', hr, h1, h2, h3, h4, h5⟩ := run_append_obk (P := P) t tx o.type e i z bytes ht hi hz hsize hby hzs hb vx m news hsrc hnl hlen hbytes
  unfold Oper.wp execOp
  simp only [ho, resolve, invoke, builtin, Sem.run_bind, Sem.run_pure, Result.andThen_ok, List.map_toArray, List.map_cons, List.map_nil, hs, hx, hr]
  exact h v' w' h1 h2 h3 h4 h5
/-! ### Words -/
def ownW (sz B : Nat) (W : World) (n : Nat) (l : List Value) : Value → World → Prop := fun v w => OBM sz B W v n l w
theorem ownW_stays (sz B : Nat) (W : World) (n : Nat) (l : List Value) : ∀ v w w', ownW sz B W n l v w → Goes w w' → ownW sz B W n l v w' := fun _ _ _ h hb => OBM.keep h hb (Nat.le_refl _)
/-- A slice of one element over a block of these cells. -/
def litW (n : Nat) (vs : List Value) : Value → World → Prop := fun v w => ∃ g, v = .slice (some ⟨g, 0, none⟩) n n ∧ Cs w g vs
theorem litW_stays (n : Nat) (vs : List Value) : ∀ v w w', litW n vs v w → Goes w w' → litW n vs v w' := by
  rintro v w w' ⟨g, rfl, h⟩ hb
  exact ⟨g, rfl, h.below hb⟩
theorem litW_new (n : Nat) (w : World) (cs : Array Value) (t : TypeId) (vs : List Value) (hv : cs.toList = vs := by rfl) : litW n vs (.slice (some ⟨w.heap.size, 0, none⟩) n n) (w.alloc (.cells cs t)) := ⟨_, rfl, Cs.new w cs t vs hv⟩
/-- A place within a block of these cells. -/
def atW (j : Nat) (vs : List Value) : Value → World → Prop := fun v w => ∃ g, v = .pointer (some ⟨g, j, none⟩) ∧ Cs w g vs
theorem atW_stays (j : Nat) (vs : List Value) : ∀ v w w', atW j vs v w → Goes w w' → atW j vs v w' := by
  rintro v w w' ⟨g, rfl, h⟩ hb
  exact ⟨g, rfl, h.below hb⟩
/-- A box of these cells, which lies above B. -/
def boxW (B : Nat) (vs : List Value) : Value → World → Prop := fun v w => ∃ g, v = .pointer (some ⟨g, 0, none⟩) ∧ B ≤ g ∧ Cs w g vs
theorem boxW_stays (B : Nat) (vs : List Value) : ∀ v w w', boxW B vs v w → Goes w w' → boxW B vs v w' := by
  rintro v w w' ⟨g, rfl, hB, h⟩ hb
  exact ⟨g, rfl, hB, h.below hb⟩
theorem until_done {k K : Nat} {p : Value → World → Prop} {d : Nat → Bool} {v : Value} {w : World} (h : d k = true) : until_ k p (setD d K) v w := fun hk => by
  have := setD_le d K k h; rw [hk] at this; cases this
theorem until_self {K : Nat} {p : Value → World → Prop} {d : Nat → Bool} {v : Value} {w : World} : until_ K p (setD d K) v w := fun hk => by simp [setD] at hk
theorem until_of {k : Nat} {p : Value → World → Prop} {d : Nat → Bool} {v : Value} {w : World} (h : p v w) : until_ k p d v w := fun _ => h
end Go.Proofs.YteaeplceahdioaaDoor
namespace Go.Proofs.YteaeplceahdioaaDoor
open Go.RowKit
set_option linter.unusedVariables false
set_option linter.unusedSimpArgs false
set_option maxRecDepth 20000
theorem nan_str (s : ByteArray) (w : World) : Calls Tryd.prog 67 #[.string s] w fun e w' => e = .returned (.bool false) ∧ w = w' := by
  go_enter Tryd.func67, Tryd.ntmps67
  go_wp2_with fail
  go_ret
  exact ⟨rfl, rfl⟩
theorem nan_name (s : ByteArray) (w : World) : Calls Tryd.prog 65 #[.string s] w fun e w' => e = .returned (.bool false) ∧ w = w' := by
  go_enter Tryd.func65, Tryd.ntmps65
  go_wp2_with fail
  go_ret
  exact ⟨rfl, rfl⟩
theorem nan_u32 (a : Int) (w : World) : Calls Tryd.prog 68 #[.int .u32 a] w fun e w' => e = .returned (.bool false) ∧ w = w' := by
  have hq : (a != a) = false := by simp
  go_enter Tryd.func68, Tryd.ntmps68
  go_wp2_with fail
  go_ret
  exact ⟨rfl, rfl⟩
theorem nan_type (a : Int) (w : World) : Calls Tryd.prog 66 #[.int .u16 a] w fun e w' => e = .returned (.bool false) ∧ w = w' := by
  have hq : (a != a) = false := by simp
  go_enter Tryd.func66, Tryd.ntmps66
  go_wp2_with fail
  go_ret
  exact ⟨rfl, rfl⟩
theorem cmp_str (s t : ByteArray) (w : World) : Calls Tryd.prog 46 #[.string s, .string t] w fun e w' => e = .returned (.int .i64 (cmpS s t)) ∧ w = w' := by
  have hl := less_cmpB s.toList t.toList
  have hz := cmpB_zero s.toList t.toList
  have hr := cmpB_range s.toList t.toList
  obtain ⟨c, hc⟩ : ∃ c, cmpB s.toList t.toList = c := ⟨_, rfl⟩
  have hcs : cmpS s t = c := hc
  rw [hcs]
  rw [hc] at hl hz hr
  have HZ := Lib.hid hz
  clear hz hc hcs
  rcases hr with rfl | rfl | rfl
  · have hl' : Op.bytesLess s.toList t.toList = true := by rw [hl]; rfl
    clear hl
    go_enter Tryd.func46, Tryd.ntmps46
    go_wp2_with fail
    refine (nan_str _ _).mono ?_
    rintro e w1 ⟨rfl, rfl⟩
    go_wp2_with fail
    refine (nan_str _ _).mono ?_
    rintro e w1 ⟨rfl, rfl⟩
    go_wp2_with fail
    go_ret
    exact ⟨rfl, rfl⟩
  · have hl' : Op.bytesLess s.toList t.toList = false := by rw [hl]; rfl
    have he : (s.toList == t.toList) = true := by rw [beq_iff_eq]; exact HZ.out.1 rfl
    clear hl
    go_enter Tryd.func46, Tryd.ntmps46
    go_wp2_with fail
    refine (nan_str _ _).mono ?_
    rintro e w1 ⟨rfl, rfl⟩
    go_wp2_with fail
    refine (nan_str _ _).mono ?_
    rintro e w1 ⟨rfl, rfl⟩
    go_wp2_with fail
    go_ret
    exact ⟨rfl, rfl⟩
  · have hl' : Op.bytesLess s.toList t.toList = false := by rw [hl]; rfl
    have he : (s.toList == t.toList) = false := by rw [beq_eq_false_iff_ne]; intro h; have := HZ.out.2 h; omega
    clear hl
    go_enter Tryd.func46, Tryd.ntmps46
    go_wp2_with fail
    refine (nan_str _ _).mono ?_
    rintro e w1 ⟨rfl, rfl⟩
    go_wp2_with fail
    refine (nan_str _ _).mono ?_
    rintro e w1 ⟨rfl, rfl⟩
    go_wp2_with fail
    go_ret
    exact ⟨rfl, rfl⟩
theorem cmp_name (s t : ByteArray) (w : World) : Calls Tryd.prog 44 #[.string s, .string t] w fun e w' => e = .returned (.int .i64 (cmpS s t)) ∧ w = w' := by
  have hl := less_cmpB s.toList t.toList
  have hz := cmpB_zero s.toList t.toList
  have hr := cmpB_range s.toList t.toList
  obtain ⟨c, hc⟩ : ∃ c, cmpB s.toList t.toList = c := ⟨_, rfl⟩
  have hcs : cmpS s t = c := hc
  rw [hcs]
  rw [hc] at hl hz hr
  have HZ := Lib.hid hz
  clear hz hc hcs
  rcases hr with rfl | rfl | rfl
  · have hl' : Op.bytesLess s.toList t.toList = true := by rw [hl]; rfl
    clear hl
    go_enter Tryd.func44, Tryd.ntmps44
    go_wp2_with fail
    refine (nan_name _ _).mono ?_
    rintro e w1 ⟨rfl, rfl⟩
    go_wp2_with fail
    refine (nan_name _ _).mono ?_
    rintro e w1 ⟨rfl, rfl⟩
    go_wp2_with fail
    go_ret
    exact ⟨rfl, rfl⟩
  · have hl' : Op.bytesLess s.toList t.toList = false := by rw [hl]; rfl
    have he : (s.toList == t.toList) = true := by rw [beq_iff_eq]; exact HZ.out.1 rfl
    clear hl
    go_enter Tryd.func44, Tryd.ntmps44
    go_wp2_with fail
    refine (nan_name _ _).mono ?_
    rintro e w1 ⟨rfl, rfl⟩
    go_wp2_with fail
    refine (nan_name _ _).mono ?_
    rintro e w1 ⟨rfl, rfl⟩
    go_wp2_with fail
    go_ret
    exact ⟨rfl, rfl⟩
  · have hl' : Op.bytesLess s.toList t.toList = false := by rw [hl]; rfl
    have he : (s.toList == t.toList) = false := by rw [beq_eq_false_iff_ne]; intro h; have := HZ.out.2 h; omega
    clear hl
    go_enter Tryd.func44, Tryd.ntmps44
    go_wp2_with fail
    refine (nan_name _ _).mono ?_
    rintro e w1 ⟨rfl, rfl⟩
    go_wp2_with fail
    refine (nan_name _ _).mono ?_
    rintro e w1 ⟨rfl, rfl⟩
    go_wp2_with fail
    go_ret
    exact ⟨rfl, rfl⟩
theorem cmp_u32 (a b : Int) (w : World) : Calls Tryd.prog 47 #[.int .u32 a, .int .u32 b] w fun e w' => e = .returned (.int .i64 (cmpI a b)) ∧ w = w' := by
  have h3 : (a < b ∧ cmpI a b = -1) ∨ (¬ a < b ∧ b < a ∧ cmpI a b = 1) ∨ (¬ a < b ∧ ¬ b < a ∧ cmpI a b = 0) := by
    unfold cmpI
    by_cases h1 : a < b
    · exact .inl ⟨h1, by simp [h1]⟩
    · by_cases h2 : b < a
      · exact .inr (.inl ⟨h1, h2, by simp [h1, h2]⟩)
      · exact .inr (.inr ⟨h1, h2, by simp [h1, h2]⟩)
  obtain ⟨c, hc⟩ : ∃ c, cmpI a b = c := ⟨_, rfl⟩
  rw [hc] at h3 ⊢
  clear hc
  rcases h3 with ⟨h1, rfl⟩ | ⟨h1, h2, rfl⟩ | ⟨h1, h2, rfl⟩
  all_goals
    go_enter Tryd.func47, Tryd.ntmps47
    go_wp2_with fail
    refine (nan_u32 _ _).mono ?_
    rintro e w1 ⟨rfl, rfl⟩
    go_wp2_with fail
    refine (nan_u32 _ _).mono ?_
    rintro e w1 ⟨rfl, rfl⟩
    go_wp2_with fail
    go_ret
    exact ⟨rfl, rfl⟩
theorem cmp_type (a b : Int) (w : World) : Calls Tryd.prog 45 #[.int .u16 a, .int .u16 b] w fun e w' => e = .returned (.int .i64 (cmpI a b)) ∧ w = w' := by
  have h3 : (a < b ∧ cmpI a b = -1) ∨ (¬ a < b ∧ b < a ∧ cmpI a b = 1) ∨ (¬ a < b ∧ ¬ b < a ∧ cmpI a b = 0) := by
    unfold cmpI
    by_cases h1 : a < b
    · exact .inl ⟨h1, by simp [h1]⟩
    · by_cases h2 : b < a
      · exact .inr (.inl ⟨h1, h2, by simp [h1, h2]⟩)
      · exact .inr (.inr ⟨h1, h2, by simp [h1, h2]⟩)
  obtain ⟨c, hc⟩ : ∃ c, cmpI a b = c := ⟨_, rfl⟩
  rw [hc] at h3 ⊢
  clear hc
  rcases h3 with ⟨h1, rfl⟩ | ⟨h1, h2, rfl⟩ | ⟨h1, h2, rfl⟩
  all_goals
    go_enter Tryd.func45, Tryd.ntmps45
    go_wp2_with fail
    refine (nan_type _ _).mono ?_
    rintro e w1 ⟨rfl, rfl⟩
    go_wp2_with fail
    refine (nan_type _ _).mono ?_
    rintro e w1 ⟨rfl, rfl⟩
    go_wp2_with fail
    go_ret
    exact ⟨rfl, rfl⟩
/-- The first that is not 0. -/
def orI : List Int → Int
  | [] => 0
  | x :: xs => if x = 0 then orI xs else x
theorem orI_zeros : ∀ (l m : List Int), (∀ x ∈ l, x = 0) → orI (l ++ m) = orI m
  | [], m, _ => rfl
  | x :: l, m, h => by
    have hx := h x (by simp)
    rw [List.cons_append, orI, if_pos hx]
    exact orI_zeros l m (fun y hy => h y (by simp [hy]))
theorem or_any (A : Option Addr) (n c : Nat) (xs : List Int) (w : World) (B : Nat) (h : Sl w B 1 A n (xs.map (Value.int .i64))) (hn : n ≤ maxLen) :
    Calls Tryd.prog 43 #[.slice A n c] w fun e w' => e = .returned (.int .i64 (orI xs)) ∧ w = w' := by
  unfold maxLen at hn
  have hl : xs.length = n := by simpa using h.1
  have H := Lib.hid h
  have HL := Lib.hid hl
  clear h hl
  go_enter Tryd.func43, Tryd.ntmps43
  go_wp2_with fail
  go_loop [8] (fun i => ∃ k : Nat, k ≤ n ∧ i = .int .i64 k ∧ Hid (∀ x ∈ xs.take k, x = 0)) (fun i => n - (intOf i).toNat)
  case atStart => exact ⟨0, Nat.zero_le _, rfl, Lib.hid (by simp)⟩
  case round =>
    obtain ⟨k, hk, rfl, HK⟩ := hrel
    by_cases hlt : k < n
    · have hlt' : (k : Int) < n := by omega
      obtain ⟨b, off, u, rfl, hb, hu, hc⟩ := H.out.at_ hlt
      obtain ⟨x, hx⟩ : ∃ x, xs[k]? = some x := ⟨_, List.getElem?_eq_getElem (by rw [HL.out]; exact hlt)⟩
      rw [List.getElem?_map, hx] at hu
      simp only [Option.map_some, Option.some.injEq] at hu
      subst hu
      have HX := Lib.hid hx
      clear hx
      by_cases h0 : x = 0
      · have hne : (x != 0) = false := by simp [h0]
        have H0 := Lib.hid h0
        clear h0
        go_wp2_with fail
        go_round
        case rel => exact ⟨k + 1, by omega, by go_num, Lib.hid (by rw [List.take_add_one, HX.out]; intro q hq; exact (List.mem_append.1 hq).elim (fun hq => HK.out q hq) (fun hq => by simp at hq; rw [hq]; exact H0.out))⟩
        case measure => simp [intOf]; omega
      · have hne : (x != 0) = true := by simp [h0]
        have H0 := Lib.hid h0
        clear h0
        go_wp2_with fail
        go_ret
        have : xs = xs.take k ++ x :: xs.drop (k + 1) := by
          have hk' : k < xs.length := by rw [HL.out]; exact hlt
          have e : xs[k] = x := by have := HX.out; rw [List.getElem?_eq_getElem hk'] at this; injection this
          rw [← e, ← List.drop_eq_getElem_cons hk', List.take_append_drop]
        refine ⟨?_, rfl⟩
        rw [this, orI_zeros _ _ HK.out]
        rw [orI, if_neg H0.out]; rfl
    · have hlt' : ¬ (k : Int) < n := by omega
      go_wp2_with fail
      go_ret
      refine ⟨?_, rfl⟩
      have h := HK.out
      rw [List.take_of_length_le (by rw [HL.out]; omega)] at h
      have := orI_zeros xs [] h
      rw [List.append_nil] at this
      rw [this]; rfl
theorem orI_cmpR (r r' : RecT) : orI [cmpS r.1 r'.1, cmpI r.2.1 r'.2.1, cmpS r.2.2.2 r'.2.2.2, cmpI r.2.2.1 r'.2.2.1] = cmpR r r' := by
  unfold orI orI orI orI orI cmpR thenC
  by_cases h1 : cmpS r.1 r'.1 = 0
  · by_cases h2 : cmpI r.2.1 r'.2.1 = 0
    · by_cases h3 : cmpS r.2.2.2 r'.2.2.2 = 0
      · by_cases h4 : cmpI r.2.2.1 r'.2.2.1 = 0 <;> simp [h1, h2, h3, h4]
      · simp [h1, h2, h3]
    · simp [h1, h2]
  · simp [h1]
/-- The results of the four comparisons. -/
def fourW (r r' : RecT) : Value → World → Prop := fun v w => ∃ g, v = .slice (some ⟨g, 0, none⟩) 4 4 ∧ Sl w w.heap.size 1 (some ⟨g, 0, none⟩) 4 ([cmpS r.1 r'.1, cmpI r.2.1 r'.2.1, cmpS r.2.2.2 r'.2.2.2, cmpI r.2.2.1 r'.2.2.1].map (Value.int .i64))
theorem fourW_stays (r r' : RecT) : ∀ v w w', fourW r r' v w → Goes w w' → fourW r r' v w' := by
  rintro v w w' ⟨g, rfl, h⟩ hb
  exact ⟨g, rfl, (h.below hb).more hb.size⟩
attribute [local simp] putsF isV wordOf Deps Region.binds Region.wanted Act.put wantedX isB
set_option maxHeartbeats 1600000 in
theorem compare_any (r r' : RecT) (w : World) : Calls Tryd.prog 23 #[recV r, recV r'] w fun e w' => e = .returned (.int .i64 (cmpR r r')) ∧ Below w.heap.size w w' := by
  have HO := Lib.hid (orI_cmpR r r')
  unfold recV
  obtain ⟨W, hW⟩ : ∃ W, W = (w.alloc (.cells #[.string r.1, .int .u16 r.2.1, .int .u32 r.2.2.1, .string r.2.2.2] 32)).alloc (.cells #[.string r'.1, .int .u16 r'.2.1, .int .u32 r'.2.2.1, .string r'.2.2.2] 32) := ⟨_, rfl⟩
  obtain ⟨b, hb⟩ : ∃ b, b = w.heap.size := ⟨_, rfl⟩
  obtain ⟨g, hg⟩ : ∃ b, b = w.heap.size + 1 := ⟨_, rfl⟩
  have hC : Cs W b [.string r.1, .int .u16 r.2.1, .int .u32 r.2.2.1, .string r.2.2.2] := by rw [hW, hb]; exact (Cs.new w _ _ _).alloc _
  have hG : Cs W g [.string r'.1, .int .u16 r'.2.1, .int .u32 r'.2.2.1, .string r'.2.2.2] := by rw [hW, hg]; exact (Cs.new _ _ _ _).at_ _ (by simp)
  have hbW : Below w.heap.size w W := by rw [hW]; exact ((Below.refl _ _).alloc (Nat.le_refl _) _).alloc (by simp) _
  have HW := Lib.hid hW
  have HBB := Lib.hid hb
  have HGG := Lib.hid hg
  have HBW := Lib.hid hbW
  have HC := Lib.hid hC
  have HG := Lib.hid hG
  clear hW hb hg hC hG hbW
  go_enter Tryd.func23, Tryd.ntmps23
  go_upto_region 1 with fail
  rw [← HW.out]
  refine wp_region_goesG data_follows (fun x => by simp [putsF, Act.put]; rfl) W.heap.size W
    [isV (.pointer (some ⟨b, 0, none⟩)), isV (.string r.1), isV (.pointer (some ⟨g, 0, none⟩)), isV (.string r'.1), isV (.int .i64 (cmpS r.1 r'.1)), isV (.pointer (some ⟨b, 1, none⟩)), isV (.int .u16 r.2.1), isV (.pointer (some ⟨g, 1, none⟩)), isV (.int .u16 r'.2.1), isV (.int .i64 (cmpI r.2.1 r'.2.1)), isV (.pointer (some ⟨b, 3, none⟩)), isV (.string r.2.2.2), isV (.pointer (some ⟨g, 3, none⟩)), isV (.string r'.2.2.2), isV (.int .i64 (cmpS r.2.2.2 r'.2.2.2)), isV (.pointer (some ⟨b, 2, none⟩)), isV (.int .u32 r.2.2.1), isV (.pointer (some ⟨g, 2, none⟩)), isV (.int .u32 r'.2.2.1), isV (.int .i64 (cmpI r.2.2.1 r'.2.2.1)), fourW r r', isV (.int .i64 (cmpR r r')), isV (.int .i64 (cmpR r r'))]
    (by kernel_rfl) (by kernel_rfl) (by kernel_rfl) rfl ?_ (Below.refl _ _) ?_ ?_
  · repeat (first | exact trivial | refine ⟨by first | exact isV_stays _ | exact fourW_stays _ _, ?_⟩)
  · refine ⟨?_, ?_, ?_, ?_, ?_, ?_, ?_, ?_, ?_, ?_, ?_, ?_, ?_, ?_, ?_, ?_, ?_, ?_, ?_, ?_, ?_, ?_, ?_, trivial⟩
    all_goals
      intro x wx hR hd
      refine ⟨fun _ => ?_, fun hX => by simp at hX⟩
      simp at hd ⊢
      have q := HC.out.below hR
      have k0 := q.get 0 _
      have k1 := q.get 1 _
      have k2 := q.get 2 _
      have k3 := q.get 3 _
      clear q
      have q := HG.out.below hR
      have l0 := q.get 0 _
      have l1 := q.get 1 _
      have l2 := q.get 2 _
      have l3 := q.get 3 _
      clear q
    · go_simp; exact next_same _ rfl (by show Value.pointer _ = Value.pointer _; first | rfl | rw [HBB.out] | rw [HGG.out]) hR
    · go_simp; exact next_same _ rfl rfl hR
    · go_simp; exact next_same _ rfl (by show Value.pointer _ = Value.pointer _; first | rfl | rw [HBB.out] | rw [HGG.out]) hR
    · go_simp; exact next_same _ rfl rfl hR
    · obtain ⟨hd0, hd1⟩ := hd
      go_simp
      go_at_call 44
      refine (cmp_name _ _ wx).mono ?_
      rintro e w2 ⟨rfl, rfl⟩
      exact next_same _ rfl rfl hR
    · go_simp; exact next_same _ rfl (by show Value.pointer _ = Value.pointer _; first | rfl | rw [HBB.out] | rw [HGG.out]) hR
    · go_simp; exact next_same _ rfl rfl hR
    · go_simp; exact next_same _ rfl (by show Value.pointer _ = Value.pointer _; first | rfl | rw [HBB.out] | rw [HGG.out]) hR
    · go_simp; exact next_same _ rfl rfl hR
    · obtain ⟨hd0, hd1⟩ := hd
      go_simp
      go_at_call 45
      refine (cmp_type _ _ wx).mono ?_
      rintro e w2 ⟨rfl, rfl⟩
      exact next_same _ rfl rfl hR
    · go_simp; exact next_same _ rfl (by show Value.pointer _ = Value.pointer _; first | rfl | rw [HBB.out] | rw [HGG.out]) hR
    · go_simp; exact next_same _ rfl rfl hR
    · go_simp; exact next_same _ rfl (by show Value.pointer _ = Value.pointer _; first | rfl | rw [HBB.out] | rw [HGG.out]) hR
    · go_simp; exact next_same _ rfl rfl hR
    · obtain ⟨hd0, hd1⟩ := hd
      go_simp
      go_at_call 46
      refine (cmp_str _ _ wx).mono ?_
      rintro e w2 ⟨rfl, rfl⟩
      exact next_same _ rfl rfl hR
    · go_simp; exact next_same _ rfl (by show Value.pointer _ = Value.pointer _; first | rfl | rw [HBB.out] | rw [HGG.out]) hR
    · go_simp; exact next_same _ rfl rfl hR
    · go_simp; exact next_same _ rfl (by show Value.pointer _ = Value.pointer _; first | rfl | rw [HBB.out] | rw [HGG.out]) hR
    · go_simp; exact next_same _ rfl rfl hR
    · obtain ⟨hd0, hd1⟩ := hd
      go_simp
      go_at_call 47
      refine (cmp_u32 _ _ wx).mono ?_
      rintro e w2 ⟨rfl, rfl⟩
      exact next_same _ rfl rfl hR
    · obtain ⟨hd0, hd1, hd2, hd3⟩ := hd
      go_simp
      exact next_alloc _ _ rfl ⟨_, rfl, Sl.fresh _ _ _ 4 _ rfl rfl⟩ hR hR.size
    · obtain ⟨⟨g', hx, hS⟩, -⟩ := hd
      rw [hx]
      go_simp
      go_at_call 43
      refine (or_any _ 4 4 _ wx _ hS (by decide)).mono ?_
      rintro e w2 ⟨rfl, rfl⟩
      rw [HO.out]
      exact next_same _ rfl rfl hR
    · go_simp; exact next_same _ rfl rfl hR
  · intro x wx hR hx
    simp [AllWords] at hx
    have h22 : x 22 = .int .i64 (cmpR r r') := by simp [hx]
    have HBX := Lib.hid (below_trans HBW.out HBW.out.size hR)
    rw [h22]
    clear hx
    go_wp2_with fail
    go_ret
    exact ⟨rfl, HBX.out⟩
end Go.Proofs.YteaeplceahdioaaDoor
namespace Go.Proofs.YteaeplceahdioaaDoor
open Go.RowKit
set_option linter.unusedVariables false
set_option linter.unusedSimpArgs false
set_option maxRecDepth 20000
def eqB (r r' : RecT) : Bool := r.1.toList == r'.1.toList && (r.2.1 == r'.2.1 && (r.2.2.1 == r'.2.2.1 && r.2.2.2.toList == r'.2.2.2.toList))
theorem eqB_iff (r r' : RecT) : eqB r r' = true ↔ r = r' := by
  constructor
  · intro h; exact rec_eq (by rw [show (r.1.toList == r'.1.toList && (r.2.1 == r'.2.1 && (r.2.2.1 == r'.2.2.1 && r.2.2.2.toList == r'.2.2.2.toList))) = true from h]; rfl)
  · rintro rfl; unfold eqB; simp
theorem eqB_false {r r' : RecT} (h : eqB r r' = false) : r ≠ r' := by
  intro e; rw [(eqB_iff r r').2 e] at h; cases h
theorem rec_eql (r r' : RecT) (w : World) : (binOp .eql 32 (recV r) (recV r')).run Tryd.prog w = .ok (.bool (eqB r r')) w := by
  obtain ⟨f0, f1, f2, f3, hf, ⟨t0, t1, t2, t3⟩, ⟨n0, n1, n2, n3⟩, ⟨o0, o1, o2, o3⟩, ⟨c0, c1, c2, c3⟩⟩ := rec_fields
  unfold recV eqB
  rw [run_eql_struct, run_equalIn_agg (P := Tryd.prog) w _ _ _ _ Tryd.underlying32 (by kernel_rfl), hf]
  simp [go_sem, Op.eqFields, isAgg, run_underlying t0, run_underlying t1, run_underlying t2, run_underlying t3, t0, t1, t2, t3, n0, n1, n2, n3, o0, o1, o2, o3]
  by_cases e0 : r.1.toList = r'.1.toList <;> by_cases e1 : r.2.1 = r'.2.1 <;> by_cases e2 : r.2.2.1 = r'.2.2.1 <;> by_cases e3 : r.2.2.2.toList = r'.2.2.2.toList <;> simp [e0, e1, e2, e3]
/-- The first place of a record among others; -1, if there is none. -/
def IdxR (rs : List RecT) (r : RecT) (i : Int) : Prop := (i = -1 ∧ r ∉ rs) ∨ ∃ k : Nat, i = k ∧ rs[k]? = some r ∧ r ∉ rs.take k
def hasB (rs : List RecT) (r : RecT) : Bool := rs.any (eqB r)
theorem hasB_iff (rs : List RecT) (r : RecT) : hasB rs r = true ↔ r ∈ rs := by
  unfold hasB
  rw [List.any_eq_true]
  constructor
  · rintro ⟨q, hq, he⟩; rw [(eqB_iff r q).1 he]; exact hq
  · intro h; exact ⟨r, h, (eqB_iff r r).2 rfl⟩
theorem hasB_false {rs : List RecT} {r : RecT} : hasB rs r = false ↔ r ∉ rs := by
  rw [← hasB_iff]; simp
theorem IdxR.has {rs : List RecT} {r : RecT} {i : Int} (h : IdxR rs r i) : decide (0 ≤ i) = hasB rs r := by
  rcases h with ⟨rfl, h⟩ | ⟨k, rfl, h, _⟩
  · rw [hasB_false.2 h]; rfl
  · rw [(hasB_iff _ _).2 (List.mem_of_getElem? h)]; simp
set_option maxHeartbeats 1600000 in
theorem index_any (A : Option Addr) (n c : Nat) (rs : List RecT) (r : RecT) (w : World) (h : Recs w A rs) (hl : rs.length = n) (hn : n ≤ maxLen) :
    Calls Tryd.prog 63 #[.slice A n c, recV r] w fun e w' => ∃ i, e = .returned (.int .i64 i) ∧ IdxR rs r i ∧ Below w.heap.size w w' := by
  unfold maxLen at hn
  have HH := Lib.hid h
  have HL := Lib.hid hl
  clear h hl
  unfold recV
  obtain ⟨W, hW⟩ : ∃ W, W = w.alloc (.cells #[.string r.1, .int .u16 r.2.1, .int .u32 r.2.2.1, .string r.2.2.2] 32) := ⟨_, rfl⟩
  have hC : Cs W w.heap.size [.string r.1, .int .u16 r.2.1, .int .u32 r.2.2.1, .string r.2.2.2] := by rw [hW]; exact Cs.new w _ _ _
  have hbW : Below w.heap.size w W := by rw [hW]; exact (Below.refl _ _).alloc (Nat.le_refl _) _
  have HW := Lib.hid hW
  have HC := Lib.hid hC
  have HBW := Lib.hid hbW
  have HR := Lib.hid (HH.out.below hbW)
  clear hW hC hbW
  go_enter Tryd.func63, Tryd.ntmps63
  go_wp2_with fail
  rw [← HW.out]
  go_loopw [8] (fun i wr => ∃ k : Nat, k ≤ n ∧ i = .int .i64 k ∧ Hid (r ∉ rs.take k) ∧ Hid (Below W.heap.size W wr)) (fun i _ => n - (intOf i).toNat)
  case atStart => exact ⟨0, Nat.zero_le _, rfl, Lib.hid (by simp), Lib.hid (Below.refl _ _)⟩
  case round =>
    obtain ⟨k, hk, rfl, HN, HB⟩ := hrel
    by_cases hlt : k < n
    · have hlt' : (k : Int) < n := by omega
      obtain ⟨q, hq⟩ : ∃ q, rs[k]? = some q := ⟨_, List.getElem?_eq_getElem (by rw [HL.out]; exact hlt)⟩
      obtain ⟨b, off, rfl, hb, z0, z1, z2, z3⟩ := (HR.out.below HB.out) k _ hq
      have hc := HC.out.below HB.out
      have c0 := hc.get 0 _
      have c1 := hc.get 1 _
      have c2 := hc.get 2 _
      have c3 := hc.get 3 _
      have HQ := Lib.hid hq
      have hnq := fun w => rec_eql r q w
      obtain ⟨t, ht⟩ : ∃ t, eqB r q = t := ⟨_, rfl⟩
      rw [ht] at hnq
      unfold recV at hnq
      have HT := Lib.hid ht
      clear hc hq ht
      go_upto_region 4 with fail
      go_quiet (fail)
      have HB2 := Lib.hid (show Below W.heap.size W _ from ⟨HB.out.os, HB.out.tape, HB.out.output, HB.out.size, HB.out.block⟩ : Below W.heap.size W (World.drewN _ nq))
      generalize World.drewN _ nq = W1 at *
      clear z0 z1 z2 z3 c0 c1 c2 c3 hnq
      cases t with
      | false =>
        go_wp2_with fail
        go_round
        case rel => exact ⟨k + 1, by omega, by go_num, Lib.hid (by rw [List.take_add_one, HQ.out]; intro hm; exact (List.mem_append.1 hm).elim (fun hm => HN.out hm) (fun hm => by simp at hm; exact eqB_false HT.out hm)), HB2⟩
        case measure => simp [intOf]; omega
      | true =>
        go_wp2_with fail
        go_ret
        exact ⟨_, rfl, .inr ⟨k, rfl, by rw [HQ.out, (eqB_iff r q).1 HT.out], HN.out⟩, below_trans HBW.out HBW.out.size HB2.out⟩
    · have hlt' : ¬ (k : Int) < n := by omega
      go_wp2_with fail
      go_ret
      exact ⟨_, rfl, .inl ⟨rfl, by have := HN.out; rwa [List.take_of_length_le (by rw [HL.out]; omega)] at this⟩, below_trans HBW.out HBW.out.size HB.out⟩
theorem contains_any (A : Option Addr) (n c : Nat) (rs : List RecT) (r : RecT) (w : World) (h : Recs w A rs) (hl : rs.length = n) (hn : n ≤ maxLen) :
    Calls Tryd.prog 42 #[.slice A n c, recV r] w fun e w' => e = .returned (.bool (hasB rs r)) ∧ Below w.heap.size w w' := by
  have IX := Lib.hid (fun w h => index_any A n c rs r w h hl hn)
  have HH := Lib.hid h
  unfold recV at IX ⊢
  clear h hl hn
  go_enter Tryd.func42, Tryd.ntmps42
  go_wp2_with fail
  refine (IX.out _ (HH.out.below ((Below.refl _ _).alloc (Nat.le_refl _) _))).mono ?_
  rintro e w1 ⟨i, rfl, hi, hb⟩
  have HI := Lib.hid hi.has
  have HB := Lib.hid (below_alloc _ (Below.refl _ _) (Nat.le_refl _) hb)
  clear hi hb
  go_wp2_with fail
  go_ret
  exact ⟨by rw [← HI.out]; rfl, HB.out⟩
theorem has_any (A : Option Addr) (n c : Nat) (rs : List RecT) (r : RecT) (w : World) (h : Recs w A rs) (hl : rs.length = n) (hn : n ≤ maxLen) :
    Calls Tryd.prog 22 #[.slice A n c, recV r] w fun e w' => e = .returned (.bool (hasB rs r)) ∧ Below w.heap.size w w' := by
  have IX := Lib.hid (fun w h => contains_any A n c rs r w h hl hn)
  have HH := Lib.hid h
  obtain ⟨q, hq⟩ : ∃ q, hasB rs r = q := ⟨_, rfl⟩
  rw [hq] at IX ⊢
  unfold recV at IX ⊢
  clear h hl hn hq
  go_enter Tryd.func22, Tryd.ntmps22
  go_wp2_with fail
  refine (IX.out _ (HH.out.below ((Below.refl _ _).alloc (Nat.le_refl _) _))).mono ?_
  rintro e w1 ⟨rfl, hb⟩
  have HB := Lib.hid (below_alloc _ (Below.refl _ _) (Nat.le_refl _) hb)
  clear hb
  go_wp2_with fail
  go_ret
  exact ⟨rfl, HB.out⟩
end Go.Proofs.YteaeplceahdioaaDoor
namespace Go.Proofs.YteaeplceahdioaaDoor
open Go.RowKit
set_option linter.unusedVariables false
set_option linter.unusedSimpArgs false
set_option maxRecDepth 20000
/-- A block of zeros that was just laid, of which nothing is used yet. -/
theorem OBM.zeros {sz : Nat} (w : World) (cs : Array Value) (t : TypeId) (K : Nat) (hcs : cs.size = K * sz) (hK : K ≤ maxLen) :
    OBM sz w.heap.size w (.slice (some ⟨w.heap.size, 0, none⟩) 0 K) 0 [] (w.drew.alloc (.cells cs t)) := by
  refine ⟨((Below.refl w.heap.size w).drew).alloc (Nat.le_refl _) _, by simp, by simp, .inr ⟨w.heap.size, K, rfl, Nat.le_refl _, by simp, Nat.zero_le _, hK, fun j hj => ?_, fun j u hu => by simp at hu⟩⟩
  have hg : (w.drew.alloc (.cells cs t)).heap[w.heap.size]? = some (.cells cs t (0, 0)) := heap_alloc_new w.drew _
  refine ⟨?_, frozen_of_row _ _ j _ t hg⟩
  rw [cell_of_row _ _ j _ t (0, 0) hg, Array.getElem?_eq_getElem (by rw [hcs]; exact hj)]; rfl
theorem rec_zero_cells : ((Value.agg #[.string ⟨#[]⟩, .int .u16 0, .int .u32 0, .string ⟨#[]⟩]).cells).size = 4 := rfl
set_option maxHeartbeats 800000 in
theorem grow_any (n : Nat) (w : World) (hn : n ≤ 1000000) :
    Calls Tryd.prog 86 #[.slice none 0 0, .int .i64 (n : Nat)] w fun e w' => ∃ v, e = .returned v ∧ OBM 4 w.heap.size w v 0 [] w' := by
  obtain ⟨i0, hi, hz0, hz1, hz2⟩ := info_parts4 rec_info
  rcases Nat.eq_zero_or_pos n with rfl | hp
  · go_enter Tryd.func86, Tryd.ntmps86
    go_wp2_with fail
    go_ret
    exact ⟨_, rfl, OBM.start w⟩
  · have hpi : (0 : Int) < n := by omega
    have hni : ¬ (n : Int) < 0 := by omega
    have hbig : n * i0.bytes ≤ 281474976710656 := by rw [hz2]; omega
    have hr := Lib.hid (Lib.run_append_nil_zeros (P := Tryd.prog) w 34 3 34 32 i0 _ .i64 .i64 (by kernel_rfl) Tryd.underlying3 hi hz0 n hp (by rw [hz1]; decide) (by omega) hbig)
    have hge := grownCap_ge w n 0 32
    have hcm := grownCap_le_maxLen w n 0 32 (by unfold maxLen; omega)
    obtain ⟨K, hK⟩ : ∃ K, grownCap w n 0 32 = K := ⟨_, rfl⟩
    rw [hK] at hr hge hcm
    obtain ⟨cs, hcs⟩ : ∃ cs, Builtin.zeroCells (Value.agg #[.string ⟨#[]⟩, .int .u16 0, .int .u32 0, .string ⟨#[]⟩]).cells n ++ Builtin.zeroCells (Value.agg #[.string ⟨#[]⟩, .int .u16 0, .int .u32 0, .string ⟨#[]⟩]).cells (K - n) = cs := ⟨_, rfl⟩
    have hsz : cs.size = K * 4 := by
      rw [← hcs, Array.size_append, size_zeroCells, size_zeroCells, rec_zero_cells]
      omega
    rw [hcs] at hr
    have HS := Lib.hid (OBM.zeros (sz := 4) w cs 32 K hsz hcm)
    clear hK hcs hsz hz0 hz1 hz2 hbig
    go_enter Tryd.func86, Tryd.ntmps86
    go_wp2_with (at_builtin; go_loud (refine Lib.wpList_append_run _ rfl _ _ 34 3 rfl _ _ rfl rfl _ _ hr.out ?_))
    go_ret
    exact ⟨_, rfl, HS.out⟩
/-- A row of records among others. -/
abbrev RowR := Option Addr × Nat × Nat × List RecT
def rowRV (r : RowR) : Value := .slice r.1 r.2.1 r.2.2.1
structure RowROk (w : World) (r : RowR) : Prop where
  sl : Sl w w.heap.size 4 r.1 r.2.1 (flatR r.2.2.2)
  none_ : r.1 = none → r.2.1 = 0
  len : r.2.2.2.length = r.2.1
theorem RowROk.below {w w' : World} {r : RowR} (h : RowROk w r) (hb : Below w.heap.size w w') : RowROk w' r := ⟨(h.sl.below hb).more hb.size, h.none_, h.len⟩
def allR (rows : List RowR) : List RecT := rows.flatMap (·.2.2.2)
theorem allR_snoc {rows : List RowR} {k : Nat} {r : RowR} (h : rows[k]? = some r) : allR (rows.take (k + 1)) = allR (rows.take k) ++ r.2.2.2 := by
  unfold allR; rw [List.take_add_one, h]; simp
theorem allR_le (rows : List RowR) (k : Nat) : (allR (rows.take k)).length ≤ (allR rows).length := by
  have h : allR rows = allR (rows.take k) ++ allR (rows.drop k) := by unfold allR; rw [← List.flatMap_append, List.take_append_drop]
  rw [h, List.length_append]; omega
theorem flatR_append (a b : List RecT) : flatR (a ++ b) = flatR a ++ flatR b := by unfold flatR; simp
set_option maxHeartbeats 1600000 in
theorem concat_any (A : Option Addr) (n c : Nat) (rows : List RowR) (w : World) (h : Sl w w.heap.size 1 A n (rows.map rowRV)) (hn : n ≤ 1000000) (hok : ∀ r ∈ rows, RowROk w r) (hs : (allR rows).length ≤ 1000000) :
    Calls Tryd.prog 64 #[.slice A n c] w fun e w' => ∃ v, e = .returned v ∧ OBM 4 w.heap.size w v (allR rows).length (flatR (allR rows)) w' := by
  have hl : rows.length = n := by simpa using h.1
  obtain ⟨i0, hi, hz0, hz1, hz2⟩ := info_parts4 rec_info
  have H := Lib.hid h
  have HL := Lib.hid hl
  have HK := Lib.hid hok
  have HS := Lib.hid hs
  clear h hl hok hs
  go_enter Tryd.func64, Tryd.ntmps64
  go_wp2_with fail
  go_loop [3, 11] (fun s i => ∃ k m : Nat, k ≤ n ∧ i = .int .i64 k ∧ s = .int .i64 m ∧ Hid (m = (allR (rows.take k)).length) ∧ m ≤ 1000000) (fun _ i => n - (intOf i).toNat)
  case atStart => exact ⟨0, 0, Nat.zero_le _, rfl, rfl, Lib.hid (by simp [allR]), by omega⟩
  case round =>
    obtain ⟨k, m, hk, rfl, rfl, HM, hm⟩ := hrel
    by_cases hlt : k < n
    · have hlt' : (k : Int) < n := by omega
      obtain ⟨b, off, u, rfl, hb, hu, hc⟩ := H.out.at_ hlt
      obtain ⟨r, hr⟩ : ∃ x, rows[k]? = some x := ⟨_, List.getElem?_eq_getElem (by rw [HL.out]; exact hlt)⟩
      rw [List.getElem?_map, hr] at hu
      simp only [Option.map_some, Option.some.injEq] at hu
      subst hu
      unfold rowRV at hc
      have hlen := (HK.out r (List.mem_of_getElem? hr)).len
      obtain ⟨M, hM⟩ : ∃ M : Nat, M = m + r.2.1 := ⟨_, rfl⟩
      have HM2 : Hid (M = (allR (rows.take (k + 1))).length) := Lib.hid (by rw [allR_snoc hr, List.length_append, hM, HM.out, hlen])
      have hM6 : M ≤ 1000000 := by have := allR_le rows (k + 1); have := HS.out; have := HM2.out; omega
      have hsum : (m : Int) + (r.2.1 : Int) = (M : Int) := by omega
      have hMn : ¬ (M : Int) < 0 := by omega
      clear hr hlen hM
      go_wp2_with fail
      go_round
      case rel => exact ⟨k + 1, M, by omega, by go_num, rfl, HM2, hM6⟩
      case measure => simp [intOf]; omega
    · have hlt' : ¬ (k : Int) < n := by omega
      go_wp2_with fail
      refine (grow_any m w hm).mono ?_
      rintro e w1 ⟨v0, rfl, ho0⟩
      have HO0 := Lib.hid ho0
      clear ho0
      go_wp2_with fail
      go_loopw [6, 27] (fun v i wr => ∃ k : Nat, k ≤ n ∧ i = .int .i64 k ∧ Hid (OBM 4 w.heap.size w v (allR (rows.take k)).length (flatR (allR (rows.take k))) wr)) (fun _ i _ => n - (intOf i).toNat)
      case atStart => exact ⟨0, Nat.zero_le _, rfl, Lib.hid (by simpa [allR, flatR] using HO0.out)⟩
      case round =>
        obtain ⟨k, hk, rfl, HB⟩ := hrel
        by_cases hlt : k < n
        · have hlt' : (k : Int) < n := by omega
          obtain ⟨b, off, u, rfl, hb, hu, hc⟩ := ((H.out.below HB.out.bel).more HB.out.bel.size).at_ hlt
          obtain ⟨r, hr⟩ : ∃ x, rows[k]? = some x := ⟨_, List.getElem?_eq_getElem (by rw [HL.out]; exact hlt)⟩
          rw [List.getElem?_map, hr] at hu
          simp only [Option.map_some, Option.some.injEq] at hu
          subst hu
          unfold rowRV at hc
          have hR := (HK.out r (List.mem_of_getElem? hr)).below HB.out.bel
          have hS := Lib.hid (hR.sl.srcM (P := Tryd.prog) (c := r.2.2.1) (tx := 34) (e' := 32) (by kernel_rfl) hR.none_ (flatR_one _))
          have HAS := Lib.hid (allR_snoc hr)
          have hlen := hR.len
          have hle := allR_le rows (k + 1)
          have hs := HS.out
          have HB3 : Hid ((allR (rows.take k)).length + r.2.1 ≤ 1000000) := Lib.hid (by rw [HAS.out, List.length_append, hlen] at hle; omega)
          have HLEN := Lib.hid hR.sl.1
          have HLN := Lib.hid hlen
          clear hr hR hlen hle hs
          go_wp2_with (at_builtin; go_loud (refine wpList_append_obm rfl _ _ 34 34 rfl 32 i0 _ 40 (by kernel_rfl) hi hz0 hz1 hz2 rfl HB.out rfl rfl hS.out HLEN.out (by have := HB3.out; unfold maxLen; omega) (by have := HB3.out; omega) ?_))
          intro v' w' q1 q2 q3 q4
          clear q2 q3 q4
          have Q1 := Lib.hid q1
          clear q1
          go_wp2_with fail
          go_round
          case rel => exact ⟨k + 1, by omega, by go_num, Lib.hid (by rw [HAS.out, flatR_append, List.length_append, HLN.out]; exact Q1.out)⟩
          case measure => simp [intOf]; omega
        · have hlt' : ¬ (k : Int) < n := by omega
          go_wp2_with fail
          go_ret
          have := HB.out
          rw [List.take_of_length_le (by rw [HL.out]; omega)] at this
          exact ⟨_, rfl, this⟩
end Go.Proofs.YteaeplceahdioaaDoor
