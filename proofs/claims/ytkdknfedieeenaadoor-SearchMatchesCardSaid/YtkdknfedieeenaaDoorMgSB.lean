/- Texts that walks stand on, one behind the other. -/
import Derived.Test.YtkdknfedieeenaaDoorReg
import Derived.Test.YtkdknfedieeenaaDoorMgSA
import Derived.Test.YtkdknfedieeenaaDoorActE
import Derived.Test.YtkdknfedieeenaaDoorCs
import Derived.Test.YtkdknfedieeenaaDoorObz
import Derived.Test.YtkdknfedieeenaaDoorOrd
import Derived.Outline
import Derived.Lib.AppendZeros
import Derived.Lib.SliceRun
import Derived.Test.YtkdknfedieeenaaDoorNameE
import Derived.Test.YtkdknfedieeenaaDoorNameC
import Derived.Test.YtkdknfedieeenaaDoorNameB
import Derived.Test.YtkdknfedieeenaaDoorNameW
import Derived.Test.YtkdknfedieeenaaDoorView
import Derived.Test.YtkdknfedieeenaaDoorBuf2
namespace Go.Proofs.YtkdknfedieeenaaDoor
set_option linter.unusedVariables false
section
variable {P : Program} {ops : Array Oper} {Q : Exit → Act → World → Prop}
/-- A region that draws its order, by one word on all that has been done: which operations, what their slots hold, and the world. -/
theorem wp_region_joint {id : Nat} {base : Act} {w0 : World} (hm : P.follows .mixedOrders = true) (J : (Nat → Bool) → (Nat → Value) → World → Prop)
    (hn : noTwice (ops.toList.map (·.dst)) = true) (hwf : wellFormed ops = true)
    (start : ∀ x, J (fun _ => false) x w0.drew)
    (steps : ∀ i (hi : i < ops.size) (d : Nat → Bool) (x : Nat → Value) (w : World), J d x w → d i = false → (∀ e ∈ (ops[i]).after.toList, Region.binds .any e = true → d e.on = true) →
      if Region.wanted ops[i] (yielded ops (putsF x 0 (ops.toList.map (·.dst)) base).tmps) = true
      then Oper.wp P ops[i] (putsF x 0 (ops.toList.map (·.dst)) base) w (fun a' w' => ∃ v, a' = (putsF x 0 (ops.toList.map (·.dst)) base).put (ops[i]).dst v ∧ J (fun j => if j = i then true else d j) (fun j => if j = i then v else x j) w') Q
      else J (fun j => if j = i then true else d j) (fun j => if j = i then undef else x j) w)
    (fin : ∀ (d : Nat → Bool) (x : Nat → Value) (w : World), (∀ i, i < ops.size → d i = true) → J d x w → Q .normal (putsF x 0 (ops.toList.map (·.dst)) base) w) :
    (Code.region id ops true).wp P Q base w0 := by
  -- if nothing is ready all has come up
  have hall : ∀ listed : Array Bool, listed.size = ops.size → Region.ready .any ops listed = [] → ∀ i, i < ops.size → listed.getD i false = true := by
    intro listed hs hr i
    induction i using Nat.strongRecOn with
    | _ i ih =>
      intro hi
      cases hli : listed.getD i false with
      | true => rfl
      | false =>
        exfalso
        have hmem : i ∈ Region.ready .any ops listed := by
          unfold Region.ready
          rw [List.mem_filter]
          refine ⟨by simpa using hi, ?_⟩
          have hd : listed.getD i true = false := by
            simp [Array.getD, hs, hi] at hli ⊢; exact hli
          rw [hd]
          simp only [Bool.not_false, Bool.true_and, Array.getElem?_eq_getElem hi, Option.map_some, Option.getD_some]
          rw [Array.all_eq_true']
          intro e he
          by_cases hb : Region.binds .any e = true
          · have hlt : e.on < i := by
              unfold wellFormed at hwf
              rw [List.all_eq_true] at hwf
              have := hwf (ops[i], i) (by rw [List.mem_zipIdx_iff_getElem?]; simp [hi])
              simp only [Array.all_eq_true'] at this
              have := this e he
              simpa [hb] using this
            simp [hb, ih e.on hlt (by omega)]
          · simp [hb]
        rw [hr] at hmem
        cases hmem
  have main : ∀ (fuel : Nat) (listed : Array Bool) (x : Nat → Value) (w : World), listed.size = ops.size → (List.range ops.size).countP (fun i => !listed.getD i false) ≤ fuel →
      J (fun i => listed.getD i false) x w → wpAny P .any ops Q fuel listed (putsF x 0 (ops.toList.map (·.dst)) base) w := by
    intro fuel
    have hfin : ∀ (listed : Array Bool) (x : Nat → Value) (w : World), listed.size = ops.size → J (fun i => listed.getD i false) x w → Region.ready .any ops listed = [] → Q .normal (putsF x 0 (ops.toList.map (·.dst)) base) w := by
      intro listed x w hs hJ hr
      exact fin _ x w (fun i hi => hall listed hs hr i hi) hJ
    induction fuel with
    | zero =>
      intro listed x w hs hc hJ
      have hr : Region.ready .any ops listed = [] := by
        unfold Region.ready
        rw [List.filter_eq_nil_iff]
        intro i hi
        have h0 := Nat.le_zero.1 hc
        rw [List.countP_eq_zero] at h0
        have := h0 i hi
        have hi' : i < ops.size := by simpa using hi
        simp [Array.getD, hs, hi'] at this ⊢
        simp [this]
      exact ⟨hr, hfin listed x w hs hJ hr⟩
    | succ fuel ih =>
      intro listed x w hs hc hJ
      refine ⟨hfin listed x w hs hJ, fun i hi => ?_⟩
      unfold Region.ready at hi
      rw [List.mem_filter] at hi
      obtain ⟨hir, hi2⟩ := hi
      have hio : i < ops.size := by simpa using hir
      simp only [Bool.and_eq_true, Bool.not_eq_true', Array.getElem?_eq_getElem hio, Option.map_some, Option.getD_some] at hi2
      obtain ⟨hli, haft⟩ := hi2
      have hli' : listed[i]'(by omega) = false := by simpa [Array.getD, hs, hio] using hli
      have hop := steps i hio (fun i => listed.getD i false) x w hJ (by simp [Array.getD, hs, hio, hli']) (fun e he hb => by
        rw [Array.all_eq_true'] at haft
        have := haft e (by simpa using he)
        simpa [hb] using this)
      have hds : (ops.toList.map (·.dst))[i]? = some (ops[i]).dst := by simp [hio]
      have next : ∀ v w', J (fun j => if j = i then true else listed.getD j false) (fun j => if j = i then v else x j) w' → wpAny P .any ops Q fuel (listed.setIfInBounds i true) ((putsF x 0 (ops.toList.map (·.dst)) base).put (ops[i]).dst v) w' := by
        intro v w' hJ'
        have hset := putsF_set x (ops.toList.map (·.dst)) 0 i base (ops[i]).dst v hn hds
        rw [Nat.zero_add] at hset
        rw [← hset]
        have hJ2 : J (fun j => (listed.setIfInBounds i true).getD j false) (fun j => if j = i then v else x j) w' := by
          have : (fun j => (listed.setIfInBounds i true).getD j false) = (fun j => if j = i then true else listed.getD j false) := by
            funext j; exact getD_set listed i j (by omega)
          rw [this]; exact hJ'
        refine ih _ _ w' (by simpa using hs) ?_ hJ2
        have hlt : (List.range ops.size).countP (fun j => !(listed.setIfInBounds i true).getD j false) < (List.range ops.size).countP (fun j => !listed.getD j false) := by
          have hsub : ∀ (l : List Nat), (∀ j ∈ l, j < ops.size) → l.Nodup → i ∈ l → l.countP (fun j => !(listed.setIfInBounds i true).getD j false) < l.countP (fun j => !listed.getD j false) := by
            intro l
            induction l with
            | nil => intro _ _ h; cases h
            | cons y l ihl =>
              intro hlt' hnd hmem
              have hy : y < ops.size := hlt' y (by simp)
              have heq : ∀ j, j < ops.size → (listed.setIfInBounds i true).getD j false = if j = i then true else listed.getD j false := fun j _ => getD_set listed i j (by omega)
              by_cases hyi : y = i
              · subst hyi
                have hsame : l.countP (fun j => !(listed.setIfInBounds y true).getD j false) = l.countP (fun j => !listed.getD j false) := by
                  apply List.countP_congr
                  intro j hj
                  have hne : j ≠ y := fun e => by subst e; exact (List.nodup_cons.1 hnd).1 hj
                  rw [heq j (hlt' j (by simp [hj])), if_neg hne]
                rw [List.countP_cons, List.countP_cons, hsame, heq y hy, if_pos rfl]
                have : listed.getD y false = false := by simp [Array.getD, hs, hy, hli']
                simp [this]
              · have hm' : i ∈ l := by
                  rcases List.mem_cons.1 hmem with h | h
                  · exact absurd h.symm hyi
                  · exact h
                have := ihl (fun j hj => hlt' j (by simp [hj])) (List.nodup_cons.1 hnd).2 hm'
                rw [List.countP_cons, List.countP_cons, heq y hy, if_neg hyi]
                omega
          exact hsub _ (fun j hj => by simpa using hj) List.nodup_range (by simpa using hio)
        omega
      unfold wpOp
      simp only [Array.getElem?_eq_getElem hio]
      split
      · rename_i hw
        rw [if_pos hw] at hop
        exact .inl (Oper.wp_mono (fun a' w' ⟨v, e, hv⟩ => by rw [e]; exact next v w' hv) hop)
      · rename_i hw
        rw [if_neg hw] at hop
        exact next undef w hop
  refine wp_region_any hm ?_
  have h0 := putsF_held (ops.toList.map (·.dst)) 0 base (held base (ops.toList.map (·.dst))) (fun i => by simp) hn
  rw [← h0]
  refine main ops.size _ _ _ (by simp) ?_ ?_
  · refine Nat.le_trans (List.countP_le_length ..) (by simp)
  · have : (fun i => (Array.replicate ops.size false).getD i false) = fun _ => false := by
      funext i
      simp only [Array.getD, Array.size_replicate]
      split
      · simp
      · rfl
    rw [this]; exact start _
end
end Go.Proofs.YtkdknfedieeenaaDoor
namespace Go.Proofs.YtkdknfedieeenaaDoor
open Go.RowKit
set_option linter.unusedVariables false
/-- Each operation that is neither K nor late is a source of one further on that is not late, or of K. -/
def ancOk (ops : Array Oper) (K : Nat) (late : List Nat) : Bool :=
  (List.range ops.size).all fun i => i == K || late.contains i || (List.range (K + 1)).any fun j => decide (i < j) && !late.contains j && (match ops[j]? with | some o => o.after.toList.any fun e => e.on == i && Region.binds .any e | none => false)
def AllWordsIf (c : Nat → Bool) (Ws : List (Value → World → Prop)) (x : Nat → Value) (w : World) : Nat → List (Value → World → Prop) → Prop
  | _, [] => True
  | i, p :: ps => (c i = true → p (x i) w) ∧ AllWordsIf c Ws x w (i + 1) ps
theorem allWordsIf_of {c : Nat → Bool} {Ws : List (Value → World → Prop)} {x : Nat → Value} {w : World} : ∀ (ps : List (Value → World → Prop)) (k : Nat), (∀ j, j < ps.length → ps[j]? = Ws[k + j]?) → (∀ i, i < Ws.length → c i = true → wordOf Ws i (x i) w) → AllWordsIf c Ws x w k ps
  | [], _, _, _ => trivial
  | p :: ps, k, h, hw => by
    refine ⟨fun hc => ?_, allWordsIf_of ps (k + 1) (fun j hj => ?_) hw⟩
    · have h0 := h 0 (by simp)
      simp at h0
      have hk : k < Ws.length := by
        rcases Nat.lt_or_ge k Ws.length with h1 | h1
        · exact h1
        · rw [List.getElem?_eq_none h1] at h0; cases h0
      have := hw k hk hc
      unfold wordOf at this
      rw [← h0] at this
      exact this
    · have := h (j + 1) (by simpa using hj)
      rw [show k + 1 + j = k + (j + 1) by omega, ← this]
      simp
section
variable {P : Program} {ops : Array Oper} {Q : Exit → Act → World → Prop}
/-- As OpStepsG, but those that are skipped. -/
def OpStepsB (P : Program) (ops : Array Oper) (Q : Exit → Act → World → Prop) (Ws : List (Value → World → Prop)) (R : World → Prop) (Ext : World → World → Prop) (FF : (Nat → Value) → Act) (skip : Nat → Bool) : Nat → List Oper → Prop
  | _, [] => True
  | i, o :: os => (skip i = false → OpStepG P ops Q Ws R Ext FF i o) ∧ OpStepsB P ops Q Ws R Ext FF skip (i + 1) os
theorem OpStepsB.get {Ws : List (Value → World → Prop)} {R : World → Prop} {Ext : World → World → Prop} {FF : (Nat → Value) → Act} {skip : Nat → Bool} : ∀ {l : List Oper} {k : Nat}, OpStepsB P ops Q Ws R Ext FF skip k l → ∀ i o, l[i]? = some o → skip (k + i) = false → OpStepG P ops Q Ws R Ext FF (k + i) o
  | [], _, _, i, o, h, _ => by simp at h
  | p :: l, k, hs, 0, o, h, hk => by simp at h; subst h; exact hs.1 hk
  | p :: l, k, hs, i + 1, o, h, hk => by
    have := OpStepsB.get hs.2 i o (by simpa using h) (by rwa [show k + 1 + i = k + (i + 1) by omega])
    rwa [show k + 1 + i = k + (i + 1) by omega] at this
theorem OpStepG.one {Ws : List (Value → World → Prop)} {R : World → Prop} {Ext : World → World → Prop} {base : Act} {FF : (Nat → Value) → Act} (hn : noTwice (ops.toList.map (·.dst)) = true) (hg : guardsIn ops base.tmps.size = true)
    (hFF : ∀ x, putsF x 0 (ops.toList.map (·.dst)) base = FF x) {i : Nat} {o : Oper} (ho : o ∈ ops.toList) (h : OpStepG P ops Q Ws R Ext FF i o) : OpStep P ops Q Ws R Ext base i o :=
  (OpStepsG.steps hn hg hFF [o] i (fun q hq => by simp at hq; subst hq; exact ho) ⟨h, trivial⟩).1
theorem wp_region_store {id : Nat} {base : Act} {w0 : World} (hm : P.follows .mixedOrders = true) {FF : (Nat → Value) → Act} (hFF : ∀ x, putsF x 0 (ops.toList.map (·.dst)) base = FF x) (R1 R2 : World → Prop) (Ext : World → World → Prop) (Ws : List (Value → World → Prop))
    (K : Nat) (late : List Nat) (hn : noTwice (ops.toList.map (·.dst)) = true) (hg : guardsIn ops base.tmps.size = true) (hwf : wellFormed ops = true) (hlen : Ws.length = ops.size) (hanc : ancOk ops K late = true) (hK : (ops[K]?).map (·.guard) = some none)
    (stays : AllStayX Ext Ws) (refl : ∀ w, Ext w w) (start : R1 w0.drew)
    (steps : OpStepsB P ops Q Ws R1 Ext FF (fun i => i == K) 0 ops.toList)
    (steps2 : OpStepsB P ops Q Ws R2 Ext FF (fun i => !late.contains i) 0 ops.toList)
    (store : ∀ (x : Nat → Value) (w : World), R1 w → AllWordsIf (fun i => !(i == K || late.contains i)) Ws x w 0 Ws → ∀ o, ops[K]? = some o → Oper.wp P o (FF x) w (Next (FF x) o.dst (wordOf Ws K) R2 Ext w) Q)
    (fin : ∀ (x : Nat → Value) (w : World), R2 w → AllWords Ws x w 0 Ws → Q .normal (FF x) w) :
    (Code.region id ops true).wp P Q base w0 := by
  have hanc' : ∀ i, i < ops.size → i = K ∨ i ∈ late ∨ ∃ j o, i < j ∧ j ≤ K ∧ j ∉ late ∧ ops[j]? = some o ∧ ∃ e ∈ o.after.toList, e.on = i ∧ Region.binds .any e = true := by
    intro i hi
    unfold ancOk at hanc
    rw [List.all_eq_true] at hanc
    have := hanc i (by simpa using hi)
    simp only [Bool.or_eq_true, beq_iff_eq, List.any_eq_true, List.mem_range, Bool.and_eq_true, decide_eq_true_eq, Bool.not_eq_true'] at this
    rcases this with (h | h) | ⟨j, hj, ⟨h1, h2⟩, h3⟩
    · exact .inl h
    · exact .inr (.inl (by simpa using h))
    · right; right
      cases ho : ops[j]? with
      | none => rw [ho] at h3; simp at h3
      | some o =>
        rw [ho] at h3
        simp only [List.any_eq_true, Bool.and_eq_true, beq_iff_eq] at h3
        exact ⟨j, o, h1, by omega, by simpa using h2, ho, h3⟩
  have hword : ∀ (i : Nat), i < ops.size → ∀ v w w', wordOf Ws i v w → Ext w w' → wordOf Ws i v w' := by
    intro i hi v w w' hw he
    unfold wordOf at hw ⊢
    cases hp : Ws[i]? with
    | none => trivial
    | some p =>
      rw [hp] at hw
      exact stays.mem p (List.mem_of_getElem? hp) _ _ _ hw he
  refine wp_region_joint hm (fun d x w => (∀ i, i < ops.size → d i = true → wordOf Ws i (x i) w) ∧ (∀ i o, ops[i]? = some o → d i = true → ∀ e ∈ o.after.toList, Region.binds .any e = true → d e.on = true) ∧ (d K = false → R1 w) ∧ (d K = true → R2 w)) hn hwf ?_ ?_ ?_
  · exact fun x => ⟨by simp, by simp, fun _ => start, by simp⟩
  · rintro i hi d x w ⟨hw, hc, h1, h2⟩ hd hdeps
    have hoi : ops[i]? = some ops[i] := Array.getElem?_eq_getElem hi
    have hmem : ops[i] ∈ ops.toList := by simp
    have hD : Deps (wordOf Ws) x w (ops[i]).after.toList := Deps.of (fun e he hb => by
      have hdon := hdeps e he hb
      have hlt : e.on < i := by
        unfold wellFormed at hwf
        rw [List.all_eq_true] at hwf
        have := hwf (ops[i], i) (by rw [List.mem_zipIdx_iff_getElem?]; simp [hi])
        simp only [Array.all_eq_true'] at this
        have := this e (by simpa using he)
        simpa [hb] using this
      exact hw _ (by omega) hdon)
    have hcl : ∀ j o, ops[j]? = some o → (if j = i then true else d j) = true → ∀ e ∈ o.after.toList, Region.binds .any e = true → (if e.on = i then true else d e.on) = true := by
      intro j o hjo hdj e he hb
      by_cases hei : e.on = i
      · simp [hei]
      · rw [if_neg hei]
        by_cases hji : j = i
        · subst hji
          rw [hoi] at hjo
          obtain rfl := Option.some.inj hjo
          exact hdeps e he hb
        · rw [if_neg hji] at hdj
          exact hc j o hjo hdj e he hb
    have put : ∀ v w', wordOf Ws i v w' → Ext w w' → ∀ j, j < ops.size → (if j = i then true else d j) = true → wordOf Ws j (if j = i then v else x j) w' := by
      intro v w' hv he j hj hdj
      by_cases hji : j = i
      · subst hji; simpa using hv
      · rw [if_neg hji] at hdj ⊢
        exact hword j hj _ _ _ (hw j hj hdj) he
    by_cases hiK : i = K
    · subst hiK
      have hall : ∀ k j, j + k = i → j ∉ late → d j = true ∨ j = i := by
        intro k
        induction k using Nat.strongRecOn with
        | _ k ih =>
          intro j hjk hjl
          by_cases hji : j = i
          · exact .inr hji
          · left
            rcases hanc' j (by omega) with h | h | ⟨q, o, q1, q2, q3, q4, e, e1, e2, e3⟩
            · exact absurd h hji
            · exact absurd h hjl
            · rcases ih (i - q) (by omega) q (by omega) q3 with h | h
              · rw [← e2]; exact hc q o q4 h e e1 e3
              · subst h
                rw [hoi] at q4
                obtain rfl := Option.some.inj q4
                rw [← e2]; exact hdeps e e1 e3
      have hst := store x w (h1 hd) (allWordsIf_of Ws 0 (fun j _ => by simp) (fun j hj hcj => by
        simp only [Bool.not_eq_true', Bool.or_eq_false_iff, beq_eq_false_iff_ne] at hcj
        obtain ⟨c1, c2⟩ := hcj
        have hjl : j ∉ late := by simpa using c2
        rcases hanc' j (by omega) with h | h | ⟨q, o, q1, q2, q3, q4, e, e1, e2, e3⟩
        · exact absurd h c1
        · exact absurd h hjl
        · rcases hall (i - j) j (by omega) hjl with h | h
          · exact hw j (by omega) h
          · exact absurd h c1)) _ hoi
      have hgn : (ops[i]).guard = none := by rw [hoi] at hK; simpa using hK
      have hwt : Region.wanted ops[i] (yielded ops (putsF x 0 (ops.toList.map (·.dst)) base).tmps) = true := by unfold Region.wanted; rw [hgn]
      rw [if_pos hwt]
      rw [hFF x]
      refine Oper.wp_mono ?_ hst
      rintro a' w' ⟨v, rfl, hv, hR, he⟩
      exact ⟨v, rfl, put v w' hv he, hcl, by simp, fun _ => hR⟩
    · rcases (Bool.eq_false_or_eq_true (d K)).symm with hdK | hdK
      ·
        have hs := OpStepG.one hn hg hFF hmem (OpStepsB.get steps i ops[i] (by simp [hi]) (by simp [hiK]))
        rw [Nat.zero_add] at hs
        have := hs x w (h1 hdK) hD
        split
        · rename_i hwt
          rw [if_pos hwt] at this
          refine Oper.wp_mono ?_ this
          rintro a' w' ⟨v, rfl, hv, hR, he⟩
          refine ⟨v, rfl, put v w' hv he, hcl, fun _ => hR, fun h => ?_⟩
          have hKi : ¬ K = i := fun e => hiK e.symm
          simp [hKi, hdK] at h
        · rename_i hwt
          rw [if_neg hwt] at this
          refine ⟨put undef w this (refl w), hcl, fun _ => h1 hdK, fun h => ?_⟩
          have hKi : ¬ K = i := fun e => hiK e.symm
          simp [hKi, hdK] at h
      ·
        have hKi : ¬ K = i := fun e => hiK e.symm
        have hil : i ∈ late := by
          rcases Nat.lt_or_ge K ops.size with hKs | hKs
          · have hall : ∀ k j, j + k = K → j ∉ late → d j = true := by
              intro k
              induction k using Nat.strongRecOn with
              | _ k ih =>
                intro j hjk hjl
                by_cases hji : j = K
                · subst hji; exact hdK
                · rcases hanc' j (by omega) with h | h | ⟨q, o, q1, q2, q3, q4, e, e1, e2, e3⟩
                  · exact absurd h hji
                  · exact absurd h hjl
                  · have h := ih (K - q) (by omega) q (by omega) q3
                    rw [← e2]; exact hc q o q4 h e e1 e3
            by_cases hil : i ∈ late
            · exact hil
            · exfalso
              rcases hanc' i hi with h | h | ⟨q, o, q1, q2, q3, q4, e, e1, e2, e3⟩
              · exact hiK h
              · exact hil h
              · have := hall (K - i) i (by omega) hil
                rw [hd] at this; cases this
          · rw [Array.getElem?_eq_none hKs] at hK; cases hK
        have hs := OpStepG.one hn hg hFF hmem (OpStepsB.get steps2 i ops[i] (by simp [hi]) (by simp [hil]))
        rw [Nat.zero_add] at hs
        have := hs x w (h2 hdK) hD
        split
        · rename_i hwt
          rw [if_pos hwt] at this
          refine Oper.wp_mono ?_ this
          rintro a' w' ⟨v, rfl, hv, hR, he⟩
          refine ⟨v, rfl, put v w' hv he, hcl, fun h => ?_, fun _ => hR⟩
          simp [hKi, hdK] at h
        · rename_i hwt
          rw [if_neg hwt] at this
          refine ⟨put undef w this (refl w), hcl, fun h => ?_, fun _ => h2 hdK⟩
          simp [hKi, hdK] at h
  · rintro d x w hall ⟨hw, hc, h1, h2⟩
    have hKs : K < ops.size := by
      rcases Nat.lt_or_ge K ops.size with h | h
      · exact h
      · rw [Array.getElem?_eq_none h] at hK; cases hK
    rw [hFF x]
    exact fin x w (h2 (hall K hKs)) (allWords_of Ws 0 (fun j _ => by simp) (fun j hj => hw j (by omega) (hall j (by omega))))
end
theorem GoesBut.then_set {g : Nat} {w w' : World} (h : GoesBut g w w') (j : Nat) (u : Value) : GoesBut g w (w'.setCell ⟨g, j, none⟩ u) := ⟨by simpa using h.1, fun k hk hne => (Below.heap_setCell w' _ u k hne).trans (h.2 k hk hne)⟩
theorem GoesBut.trans {g : Nat} {w w' w2 : World} (h : GoesBut g w w') (h' : GoesBut g w' w2) : GoesBut g w w2 := ⟨Nat.le_trans h.1 h'.1, fun k hk hne => (h'.2 k (Nat.lt_of_lt_of_le hk h.1) hne).trans (h.2 k hk hne)⟩
/-- From skip to step, written out. -/
theorem skipped {p : Prop} {b : Bool} (hb : b = true) : b = false → p := fun h => by rw [hb] at h; cases h
end Go.Proofs.YtkdknfedieeenaaDoor
namespace Go.Proofs.YtkdknfedieeenaaDoor
open Go.RowKit
set_option linter.unusedVariables false
set_option linter.unusedSimpArgs false
set_option maxRecDepth 20000
attribute [local simp] putsF isV wordOf Deps Region.binds Region.wanted Act.put wantedX isB
def intsB (l : List UInt8) : List Int := l.map fun b => (b.toNat : Int)
theorem intsB_bv (l : List UInt8) : (intsB l).map (Value.int .u8) = l.map bv := by unfold intsB; rw [List.map_map]; rfl
theorem intsB_ok (l : List UInt8) : ∀ z ∈ intsB l, 0 ≤ z ∧ z < 256 := by
  intro z hz
  obtain ⟨b, _, rfl⟩ := List.mem_map.1 hz
  have := b.toNat_lt
  omega
def nmB (l : List UInt8) : ByteArray := ⟨(nameZ (intsB l)).toArray⟩
/-- A text's first 30 bytes. -/
def txtB (s : ByteArray) : ByteArray := s.extract 0 (min s.size 30)
def recOf (a : ActT) : RecT := (nmB a.1.2.2.2, ((dataOf (a.2.1.toNat % 8) (nmB a.2.2.2.1.2.2.2) (txtB a.2.2.2.2)).1 : Int), a.2.2.1, (dataOf (a.2.1.toNat % 8) (nmB a.2.2.2.1.2.2.2) (txtB a.2.2.2.2)).2)
def actCells (a : ActT) : List Value := [rowV a.1, .int .u8 a.2.1, .int .u32 a.2.2.1, rowV a.2.2.2.1, .string a.2.2.2.2]
def actA (a : ActT) : Value := .agg #[rowV a.1, .int .u8 a.2.1, .int .u32 a.2.2.1, rowV a.2.2.2.1, .string a.2.2.2.2]
structure ActOk (w : World) (a : ActT) : Prop where
  r1 : Sl w w.heap.size 1 a.1.1 a.1.2.1 (a.1.2.2.2.map bv)
  n1 : a.1.2.1 ≤ maxLen
  k : 0 ≤ a.2.1 ∧ a.2.1 < 256
  t : 0 ≤ a.2.2.1 ∧ a.2.2.1 < 4294967296
  r2 : Sl w w.heap.size 1 a.2.2.2.1.1 a.2.2.2.1.2.1 (a.2.2.2.1.2.2.2.map bv)
  n2 : a.2.2.2.1.2.1 ≤ maxLen
  s : a.2.2.2.2.size ≤ maxLen
theorem ActOk.below {w w' : World} {a : ActT} (h : ActOk w a) (hb : Below w.heap.size w w') : ActOk w' a :=
  ⟨(h.r1.below hb).more hb.size, h.n1, h.k, h.t, (h.r2.below hb).more hb.size, h.n2, h.s⟩
end Go.Proofs.YtkdknfedieeenaaDoor
namespace Go.Proofs.YtkdknfedieeenaaDoor
open Go.RowKit
set_option linter.unusedVariables false
set_option linter.unusedSimpArgs false
set_option maxRecDepth 20000
/-- The records' cells, one behind the other. -/
def flatR (rs : List RecT) : List Value := rs.flatMap recCells
theorem flatR_len (rs : List RecT) : (flatR rs).length = rs.length * 4 := by
  unfold flatR
  induction rs with
  | nil => rfl
  | cons r rs ih => rw [List.flatMap_cons, List.length_append, ih, List.length_cons, show (recCells r).length = 4 from rfl]; omega
theorem flatR_snoc (rs : List RecT) (r : RecT) : flatR (rs ++ [r]) = flatR rs ++ recCells r := by unfold flatR; simp
theorem flatR_one : ∀ (rs : List RecT), ∀ u ∈ flatR rs, u.oneCell' = true := by
  intro rs u hu
  obtain ⟨r, -, hr⟩ := List.mem_flatMap.1 hu
  unfold recCells at hr
  simp at hr
  rcases hr with rfl | rfl | rfl | rfl <;> rfl
theorem flatR_get : ∀ (rs : List RecT) (i : Nat) (r : RecT), rs[i]? = some r → (flatR rs)[i * 4]? = some (.string r.1) ∧ (flatR rs)[i * 4 + 1]? = some (.int .u16 r.2.1) ∧ (flatR rs)[i * 4 + 2]? = some (.int .u32 r.2.2.1) ∧ (flatR rs)[i * 4 + 3]? = some (.string r.2.2.2)
  | [], i, r, h => by simp at h
  | q :: rs, 0, r, h => by simp at h; subst h; exact ⟨rfl, rfl, rfl, rfl⟩
  | q :: rs, i + 1, r, h => by
    have := flatR_get rs i r (by simpa using h)
    have e : flatR (q :: rs) = recCells q ++ flatR rs := rfl
    have l : (recCells q).length = 4 := rfl
    rw [e]
    refine ⟨?_, ?_, ?_, ?_⟩ <;> rw [List.getElem?_append_right (by rw [l]; omega), l]
    · rw [show (i + 1) * 4 - 4 = i * 4 by omega]; exact this.1
    · rw [show (i + 1) * 4 + 1 - 4 = i * 4 + 1 by omega]; exact this.2.1
    · rw [show (i + 1) * 4 + 2 - 4 = i * 4 + 2 by omega]; exact this.2.2.1
    · rw [show (i + 1) * 4 + 3 - 4 = i * 4 + 3 by omega]; exact this.2.2.2
/-- Cells that lie as records are records. -/
theorem Sl.recs {w : World} {C n : Nat} {A : Option Addr} {rs : List RecT} (h : Sl w C 4 A n (flatR rs)) (hC : C ≤ w.heap.size) (hn : rs.length = n) : Recs w A rs := by
  intro i r hr
  have hi := (List.getElem?_eq_some_iff.1 hr).1
  obtain ⟨b, off, rfl, hb, hc⟩ := h.2 (by omega)
  obtain ⟨g0, g1, g2, g3⟩ := flatR_get rs i r hr
  exact ⟨b, off, rfl, by omega, hc _ _ g0, by have := hc _ _ g1; rwa [← Nat.add_assoc] at this, by have := hc _ _ g2; rwa [← Nat.add_assoc] at this, by have := hc _ _ g3; rwa [← Nat.add_assoc] at this⟩
theorem OBM.recs {B n c : Nat} {W w : World} {A : Option Addr} {rs : List RecT} (h : OBM 4 B W (.slice A n c) n (flatR rs) w) (hn : rs.length = n) : Recs w A rs := h.sl.recs (Nat.le_refl _) hn
/-- Records by numbers, five cells each. -/
structure ActsAt (w : World) (A : Option Addr) (n : Nat) (ds : List ActT) : Prop where
  len : ds.length = n
  ok : ∀ a ∈ ds, ActOk w a
  cells : ∀ i a, ds[i]? = some a → ∃ b off, A = some ⟨b, off, none⟩ ∧ b < w.heap.size ∧ w.cell? ⟨b, off + i * 5, none⟩ = some (rowV a.1) ∧ w.cell? ⟨b, off + i * 5 + 1, none⟩ = some (.int .u8 a.2.1) ∧ w.cell? ⟨b, off + i * 5 + 2, none⟩ = some (.int .u32 a.2.2.1) ∧
    w.cell? ⟨b, off + i * 5 + 3, none⟩ = some (rowV a.2.2.2.1) ∧ w.cell? ⟨b, off + i * 5 + 4, none⟩ = some (.string a.2.2.2.2)
theorem ActsAt.below {w w' : World} {A : Option Addr} {n : Nat} {ds : List ActT} (h : ActsAt w A n ds) (hb : Below w.heap.size w w') : ActsAt w' A n ds := by
  refine ⟨h.len, fun a ha => (h.ok a ha).below hb, fun i a hi => ?_⟩
  obtain ⟨b, off, rfl, hlt, g0, g1, g2, g3, g4⟩ := h.cells i a hi
  exact ⟨b, off, rfl, Nat.lt_of_lt_of_le hlt hb.size, (hb.cell (p := ⟨b, _, none⟩) hlt).trans g0, (hb.cell (p := ⟨b, _, none⟩) hlt).trans g1, (hb.cell (p := ⟨b, _, none⟩) hlt).trans g2, (hb.cell (p := ⟨b, _, none⟩) hlt).trans g3, (hb.cell (p := ⟨b, _, none⟩) hlt).trans g4⟩
theorem u8_wf {z : Int} (h : (Lit.int .u8 z).wf = true) : 0 ≤ z ∧ z < 256 := by
  have : IntKind.u8.min ≤ z ∧ z ≤ IntKind.u8.max := by simpa [Lit.wf] using h
  have a : IntKind.u8.min = 0 := rfl
  have b : IntKind.u8.max = 255 := rfl
  omega
theorem u32_wf {z : Int} (h : (Lit.int .u32 z).wf = true) : 0 ≤ z ∧ z < 4294967296 := by
  have : IntKind.u32.min ≤ z ∧ z ≤ IntKind.u32.max := by simpa [Lit.wf] using h
  have a : IntKind.u32.min = 0 := rfl
  have b : IntKind.u32.max = 4294967295 := rfl
  omega
theorem Acts5.at_ {w : World} {A : Option Addr} {n c : Nat} {ds : List ActT} (h : Acts5 w A n c ds) : ActsAt w A n ds := by
  refine ⟨h.len, fun a ha => ?_, fun i a hi => ?_⟩
  · obtain ⟨h1, h2, h3, h4, h5⟩ := h.ok a ha
    exact ⟨h1.1.sl, Nat.le_trans h1.1.le h1.1.max, u8_wf h2, u32_wf h3, h4.1.sl, Nat.le_trans h4.1.le h4.1.max, h5⟩
  · have hlt := (List.getElem?_eq_some_iff.1 hi).1
    obtain ⟨b, off, he, hb, hc⟩ := h.cells (by have := h.len; omega)
    exact ⟨b, off, he, hb, hc i a hi⟩
theorem Acts5.most {w : World} {A : Option Addr} {n c : Nat} {ds : List ActT} (h : Acts5 w A n c ds) : n ≤ maxLen := Nat.le_trans h.le h.max
/-- The records of numbers, up to so many. -/
def recsOf (ds : List ActT) (most : Nat) : List RecT := (ds.take most).map recOf
theorem recsOf_len (ds : List ActT) (most : Nat) : (recsOf ds most).length = min most ds.length := by unfold recsOf; simp
theorem recsOf_next {ds : List ActT} {most k : Nat} {a : ActT} (hk : k < most) (ha : ds[k]? = some a) : recsOf (ds.take (k + 1)) most = recsOf (ds.take k) most ++ [recOf a] := by
  unfold recsOf
  rw [List.take_take, List.take_take, Nat.min_eq_right (by omega), Nat.min_eq_right (by omega), List.take_add_one, ha]
  simp
theorem recsOf_more {ds : List ActT} {most k : Nat} (hk : ¬ k < most) : recsOf (ds.take (k + 1)) most = recsOf (ds.take k) most := by
  unfold recsOf
  rw [List.take_take, List.take_take, Nat.min_eq_left (by omega), Nat.min_eq_left (by omega)]
end Go.Proofs.YtkdknfedieeenaaDoor
namespace Go.Proofs.YtkdknfedieeenaaDoor
open Go.RowKit
set_option linter.unusedVariables false
set_option maxRecDepth 20000
end Go.Proofs.YtkdknfedieeenaaDoor
namespace Go.Proofs.YtkdknfedieeenaaDoor
open Go.RowKit
set_option linter.unusedVariables false
/-- What is said of a slot, by what is done. -/
abbrev WordX := (Nat → Bool) → Value → World → Prop
def wordX (Ws : List WordX) (d : Nat → Bool) (i : Nat) (v : Value) (w : World) : Prop := match Ws[i]? with | some p => p d v w | none => True
def setD (d : Nat → Bool) (i : Nat) : Nat → Bool := fun j => if j = i then true else d j
def leD (d d' : Nat → Bool) : Prop := ∀ j, d j = true → d' j = true
theorem setD_le (d : Nat → Bool) (i : Nat) : leD d (setD d i) := fun j h => by unfold setD; split <;> simp_all
theorem setD_self (d : Nat → Bool) (i : Nat) : setD d i i = true := by simp [setD]
theorem setD_ne (d : Nat → Bool) {i j : Nat} (h : j ≠ i) : setD d i j = d j := by simp [setD, h]
def StaysX (p : WordX) : Prop := ∀ d d' v w w', leD d d' → Goes w w' → p d v w → p d' v w'
def AllStaysX : List WordX → Prop
  | [] => True
  | p :: ps => StaysX p ∧ AllStaysX ps
theorem AllStaysX.mem : ∀ {l : List WordX}, AllStaysX l → ∀ p ∈ l, StaysX p
  | [], _, p, hp => by cases hp
  | q :: l, h, p, hp => by
    rcases List.mem_cons.1 hp with rfl | hp
    · exact h.1
    · exact AllStaysX.mem h.2 p hp
/-- What is said of all slots that are done. -/
def DoneX (d : Nat → Bool) (x : Nat → Value) (w : World) : Nat → List WordX → Prop
  | _, [] => True
  | i, p :: ps => (d i = true → p d (x i) w) ∧ DoneX d x w (i + 1) ps
/-- What was said holds still, behind operation K. -/
def KeepX (d : Nat → Bool) (K : Nat) (x : Nat → Value) (w w' : World) : Nat → List WordX → Prop
  | _, [] => True
  | i, p :: ps => (i ≠ K → d i = true → p d (x i) w → p (setD d K) (x i) w') ∧ KeepX d K x w w' (i + 1) ps
def AllX (x : Nat → Value) (w : World) : Nat → List WordX → Prop
  | _, [] => True
  | i, p :: ps => p (fun _ => true) (x i) w ∧ AllX x w (i + 1) ps
theorem doneX_of {Ws : List WordX} {d : Nat → Bool} {x : Nat → Value} {w : World} : ∀ (ps : List WordX) (k : Nat), (∀ j, j < ps.length → ps[j]? = Ws[k + j]?) → (∀ i, i < Ws.length → d i = true → wordX Ws d i (x i) w) → DoneX d x w k ps
  | [], _, _, _ => trivial
  | p :: ps, k, h, hw => by
    refine ⟨fun hd => ?_, doneX_of ps (k + 1) (fun j hj => ?_) hw⟩
    · have h0 := h 0 (by simp)
      simp at h0
      have hk : k < Ws.length := by
        rcases Nat.lt_or_ge k Ws.length with h1 | h1
        · exact h1
        · rw [List.getElem?_eq_none h1] at h0; cases h0
      have := hw k hk hd
      unfold wordX at this
      rw [← h0] at this
      exact this
    · have := h (j + 1) (by simpa using hj)
      rw [show k + 1 + j = k + (j + 1) by omega, ← this]
      simp
theorem allX_of {Ws : List WordX} {d : Nat → Bool} {x : Nat → Value} {w : World} (stays : AllStaysX Ws) : ∀ (ps : List WordX) (k : Nat), (∀ j, j < ps.length → ps[j]? = Ws[k + j]?) → (∀ i, i < Ws.length → wordX Ws d i (x i) w) → AllX x w k ps
  | [], _, _, _ => trivial
  | p :: ps, k, h, hw => by
    refine ⟨?_, allX_of stays ps (k + 1) (fun j hj => ?_) hw⟩
    · have h0 := h 0 (by simp)
      simp at h0
      have hk : k < Ws.length := by
        rcases Nat.lt_or_ge k Ws.length with h1 | h1
        · exact h1
        · rw [List.getElem?_eq_none h1] at h0; cases h0
      have := hw k hk
      unfold wordX at this
      rw [← h0] at this
      exact stays.mem p (List.mem_of_getElem? h0.symm) d _ _ w w (fun _ _ => rfl) (Below.refl _ _) this
    · have := h (j + 1) (by simpa using hj)
      rw [show k + 1 + j = k + (j + 1) by omega, ← this]
      simp
theorem KeepX.get {Ws : List WordX} {d : Nat → Bool} {K : Nat} {x : Nat → Value} {w w' : World} : ∀ {ps : List WordX} {k : Nat}, KeepX d K x w w' k ps → ∀ j p, ps[j]? = some p → k + j ≠ K → d (k + j) = true → p d (x (k + j)) w → p (setD d K) (x (k + j)) w'
  | [], _, _, j, p, hp => by simp at hp
  | q :: ps, k, h, 0, p, hp => by simp at hp; subst hp; exact h.1
  | q :: ps, k, h, j + 1, p, hp => by
    have := KeepX.get (Ws := Ws) h.2 j p (by simpa using hp)
    rwa [show k + 1 + j = k + (j + 1) by omega] at this
section
variable {P : Program} {ops : Array Oper} {Q : Exit → Act → World → Prop}
/-- What is there, of those done that an operation waits for. -/
def SrcX (ops : Array Oper) (d : Nat → Bool) (o : Oper) : Prop := ∀ e ∈ o.after.toList, Region.binds .any e = true → d e.on = true
/-- Whatever an operation that is done waited for is done. -/
def ClosedX (ops : Array Oper) (d : Nat → Bool) : Prop := ∀ j o, ops[j]? = some o → d j = true → SrcX ops d o
/-- Operation i is waited for by operation j, through others; within so many steps. -/
def reachX (ops : Array Oper) : Nat → Nat → Nat → Bool
  | 0, i, j => i == j
  | n + 1, i, j => i == j || (match ops[j]? with | some o => o.after.toList.any fun e => Region.binds .any e && reachX ops n i e.on | none => false)
theorem ClosedX.reach {ops : Array Oper} {d : Nat → Bool} (h : ClosedX ops d) : ∀ (n i j : Nat), reachX ops n i j = true → d j = true → d i = true
  | 0, i, j, hr, hj => by simp [reachX] at hr; subst hr; exact hj
  | n + 1, i, j, hr, hj => by
    unfold reachX at hr
    rw [Bool.or_eq_true] at hr
    rcases hr with hr | hr
    · simp at hr; subst hr; exact hj
    · cases ho : ops[j]? with
      | none => rw [ho] at hr; simp at hr
      | some o =>
        rw [ho] at hr
        simp only [List.any_eq_true, Bool.and_eq_true] at hr
        obtain ⟨e, he, hb, hr⟩ := hr
        exact ClosedX.reach h n i e.on hr (h j o ho hj e he hb)
theorem SrcX.reach {ops : Array Oper} {d : Nat → Bool} (h : ClosedX ops d) {K : Nat} {o : Oper} (hs : SrcX ops d o) (ho : ops[K]? = some o) (n i : Nat) (hi : i ≠ K) (hr : reachX ops (n + 1) i K = true) : d i = true := by
  unfold reachX at hr
  rw [Bool.or_eq_true] at hr
  rcases hr with hr | hr
  · simp at hr; exact absurd hr hi
  · rw [ho] at hr
    simp only [List.any_eq_true, Bool.and_eq_true] at hr
    obtain ⟨e, he, hb, hr⟩ := hr
    exact h.reach n i e.on hr (hs e he hb)
def NextX (A : Act) (dst : Option Tmp) (Ws : List WordX) (d : Nat → Bool) (i : Nat) (R : World → Prop) (w : World) (a' : Act) (w' : World) : Prop := ∃ v, a' = A.put dst v ∧ wordX Ws (setD d i) i v w' ∧ R w' ∧ Goes w w'
def NextK (A : Act) (dst : Option Tmp) (Ws : List WordX) (d : Nat → Bool) (i : Nat) (x : Nat → Value) (R : World → Prop) (w : World) (a' : Act) (w' : World) : Prop := ∃ v, a' = A.put dst v ∧ wordX Ws (setD d i) i v w' ∧ R w' ∧ KeepX d i x w w' 0 Ws
/-- An operation behind which all that was said holds still of itself. -/
def OpStepX (P : Program) (ops : Array Oper) (Q : Exit → Act → World → Prop) (Ws : List WordX) (R : World → Prop) (FF : (Nat → Value) → Act) (i : Nat) (o : Oper) : Prop :=
  ∀ (d : Nat → Bool) (x : Nat → Value) (w : World), R w → d i = false → SrcX ops d o → Deps (wordX Ws d) x w o.after.toList →
    (wantedX o x = true → Oper.wp P o (FF x) w (NextX (FF x) o.dst Ws d i R w) Q) ∧ (wantedX o x = false → wordX Ws (setD d i) i undef w)
/-- An operation of which all that was said must be shown again. -/
def OpSpecX (P : Program) (ops : Array Oper) (Q : Exit → Act → World → Prop) (Ws : List WordX) (R : World → Prop) (FF : (Nat → Value) → Act) (i : Nat) (o : Oper) : Prop :=
  ∀ (d : Nat → Bool) (x : Nat → Value) (w : World), R w → d i = false → ClosedX ops d → SrcX ops d o → DoneX d x w 0 Ws →
    (wantedX o x = true → Oper.wp P o (FF x) w (NextK (FF x) o.dst Ws d i x R w) Q) ∧ (wantedX o x = false → wordX Ws (setD d i) i undef w)
def OpStepsX (P : Program) (ops : Array Oper) (Q : Exit → Act → World → Prop) (Ws : List WordX) (R : World → Prop) (FF : (Nat → Value) → Act) (sp : List Nat) : Nat → List Oper → Prop
  | _, [] => True
  | i, o :: os => (sp.contains i = false → OpStepX P ops Q Ws R FF i o) ∧ OpStepsX P ops Q Ws R FF sp (i + 1) os
def OpSpecsX (P : Program) (ops : Array Oper) (Q : Exit → Act → World → Prop) (Ws : List WordX) (R : World → Prop) (FF : (Nat → Value) → Act) (sp : List Nat) : Nat → List Oper → Prop
  | _, [] => True
  | i, o :: os => (sp.contains i = true → OpSpecX P ops Q Ws R FF i o) ∧ OpSpecsX P ops Q Ws R FF sp (i + 1) os
theorem OpStepsX.get {Ws : List WordX} {R : World → Prop} {FF : (Nat → Value) → Act} {sp : List Nat} : ∀ {l : List Oper} {k : Nat}, OpStepsX P ops Q Ws R FF sp k l → ∀ i o, l[i]? = some o → sp.contains (k + i) = false → OpStepX P ops Q Ws R FF (k + i) o
  | [], _, _, i, o, h, _ => by simp at h
  | p :: l, k, hs, 0, o, h, hk => by simp at h; subst h; exact hs.1 hk
  | p :: l, k, hs, i + 1, o, h, hk => by
    have := OpStepsX.get hs.2 i o (by simpa using h) (by rwa [show k + 1 + i = k + (i + 1) by omega])
    rwa [show k + 1 + i = k + (i + 1) by omega] at this
theorem OpSpecsX.get {Ws : List WordX} {R : World → Prop} {FF : (Nat → Value) → Act} {sp : List Nat} : ∀ {l : List Oper} {k : Nat}, OpSpecsX P ops Q Ws R FF sp k l → ∀ i o, l[i]? = some o → sp.contains (k + i) = true → OpSpecX P ops Q Ws R FF (k + i) o
  | [], _, _, i, o, h, _ => by simp at h
  | p :: l, k, hs, 0, o, h, hk => by simp at h; subst h; exact hs.1 hk
  | p :: l, k, hs, i + 1, o, h, hk => by
    have := OpSpecsX.get hs.2 i o (by simpa using h) (by rwa [show k + 1 + i = k + (i + 1) by omega])
    rwa [show k + 1 + i = k + (i + 1) by omega] at this
theorem wp_region_exp {id : Nat} {base : Act} {w0 : World} (hm : P.follows .mixedOrders = true) {FF : (Nat → Value) → Act} (hFF : ∀ x, putsF x 0 (ops.toList.map (·.dst)) base = FF x) (R : World → Prop) (Ws : List WordX) (sp : List Nat)
    (hn : noTwice (ops.toList.map (·.dst)) = true) (hg : guardsIn ops base.tmps.size = true) (hwf : wellFormed ops = true) (hlen : Ws.length = ops.size)
    (stays : AllStaysX Ws) (start : R w0.drew)
    (steps : OpStepsX P ops Q Ws R FF sp 0 ops.toList) (specs : OpSpecsX P ops Q Ws R FF sp 0 ops.toList)
    (fin : ∀ (x : Nat → Value) (w : World), R w → AllX x w 0 Ws → Q .normal (FF x) w) :
    (Code.region id ops true).wp P Q base w0 := by
  have hword : ∀ (i : Nat) d d' v w w', wordX Ws d i v w → leD d d' → Goes w w' → wordX Ws d' i v w' := by
    intro i d d' v w w' hw hd he
    unfold wordX at hw ⊢
    cases hp : Ws[i]? with
    | none => trivial
    | some p =>
      rw [hp] at hw
      exact stays.mem p (List.mem_of_getElem? hp) _ _ _ _ _ hd he hw
  refine wp_region_joint hm (fun d x w => R w ∧ (∀ i, i < ops.size → d i = true → wordX Ws d i (x i) w) ∧ ClosedX ops d) hn hwf ?_ ?_ ?_
  · exact fun x => ⟨start, by simp, fun j o _ h => by cases h⟩
  · rintro i hi d x w ⟨hR, hw, hcl⟩ hd hdeps
    have hoi : ops[i]? = some ops[i] := Array.getElem?_eq_getElem hi
    have hmem : ops[i] ∈ ops.toList := by simp
    have hlt : ∀ e ∈ (ops[i]).after.toList, Region.binds .any e = true → e.on < ops.size := by
      intro e he hb
      unfold wellFormed at hwf
      rw [List.all_eq_true] at hwf
      have := hwf (ops[i], i) (by rw [List.mem_zipIdx_iff_getElem?]; simp [hi])
      simp only [Array.all_eq_true'] at this
      have := this e (by simpa using he)
      have : e.on < i := by simpa [hb] using this
      omega
    have hwant : Region.wanted ops[i] (yielded ops (putsF x 0 (ops.toList.map (·.dst)) base).tmps) = wantedX ops[i] x := wanted_eq hn hg ops[i] hmem x
    have hset : (fun j => if j = i then true else d j) = setD d i := rfl
    have put : ∀ v w', wordX Ws (setD d i) i v w' → (∀ j, j < ops.size → j ≠ i → d j = true → wordX Ws (setD d i) j (x j) w') → ∀ j, j < ops.size → setD d i j = true → wordX Ws (setD d i) j (if j = i then v else x j) w' := by
      intro v w' hv ho j hj hdj
      by_cases hji : j = i
      · subst hji; simpa using hv
      · rw [setD_ne d hji] at hdj
        rw [if_neg hji]
        exact ho j hj hji hdj
    have hcl2 : ClosedX ops (setD d i) := by
      intro j o hj hdj e he hb
      by_cases hji : j = i
      · subst hji
        rw [hoi] at hj
        obtain rfl := Option.some.inj hj
        exact setD_le d _ _ (hdeps e he hb)
      · rw [setD_ne d hji] at hdj
        exact setD_le d _ _ (hcl j o hj hdj e he hb)
    rw [hwant, hFF x, hset]
    cases hsp : sp.contains i with
    | false =>
      have hs := OpStepsX.get steps i ops[i] (by simp [hi]) (by rw [Nat.zero_add]; exact hsp)
      rw [Nat.zero_add] at hs
      have hs := hs d x w hR hd hdeps (Deps.of (fun e he hb => hw _ (hlt e he hb) (hdeps e he hb)))
      split
      · rename_i hwt
        refine Oper.wp_mono ?_ (hs.1 hwt)
        rintro a' w' ⟨v, rfl, hv, hR', he⟩
        exact ⟨v, rfl, hR', put v w' hv (fun j hj hji hdj => hword j d _ _ w w' (hw j hj hdj) (setD_le d i) he), hcl2⟩
      · rename_i hwt
        exact ⟨hR, put undef w (hs.2 (by simpa using hwt)) (fun j hj hji hdj => hword j d _ _ w w (hw j hj hdj) (setD_le d i) (Below.refl _ _)), hcl2⟩
    | true =>
      have hs := OpSpecsX.get specs i ops[i] (by simp [hi]) (by rw [Nat.zero_add]; exact hsp)
      rw [Nat.zero_add] at hs
      have hs := hs d x w hR hd hcl hdeps (doneX_of Ws 0 (fun j _ => by simp) (fun j hj hdj => hw j (by omega) hdj))
      split
      · rename_i hwt
        refine Oper.wp_mono ?_ (hs.1 hwt)
        rintro a' w' ⟨v, rfl, hv, hR', he⟩
        refine ⟨v, rfl, hR', put v w' hv (fun j hj hji hdj => ?_), hcl2⟩
        have h0 := hw j hj hdj
        unfold wordX at h0 ⊢
        cases hp : Ws[j]? with
        | none => trivial
        | some p =>
          rw [hp] at h0
          have := he.get (Ws := Ws) j p hp
          rw [Nat.zero_add] at this
          exact this hji hdj h0
      · rename_i hwt
        exact ⟨hR, put undef w (hs.2 (by simpa using hwt)) (fun j hj hji hdj => hword j d _ _ w w (hw j hj hdj) (setD_le d i) (Below.refl _ _)), hcl2⟩
  · rintro d x w hall ⟨hR, hw, -⟩
    rw [hFF x]
    exact fin x w hR (allX_of (d := d) stays Ws 0 (fun j _ => by simp) (fun j hj => hw j (by omega) (hall j (by omega))))
end
/-- A word that never ends. -/
def always (p : Value → World → Prop) : WordX := fun _ v w => p v w
/-- A word that ends when operation k is done. -/
def until_ (k : Nat) (p : Value → World → Prop) : WordX := fun d v w => d k = false → p v w
theorem always_stays {p : Value → World → Prop} (h : ∀ v w w', p v w → Goes w w' → p v w') : StaysX (always p) := fun _ _ v w w' _ he hp => h v w w' hp he
theorem until_stays {k : Nat} {p : Value → World → Prop} (h : ∀ v w w', p v w → Goes w w' → p v w') : StaysX (until_ k p) := fun d d' v w w' hd he hp hk => h v w w' (hp (by
  cases e : d k with
  | false => rfl
  | true => have := hd k e; rw [hk] at this; cases this)) he
theorem unskipped {p : Prop} {b : Bool} (hb : b = false) : b = true → p := fun h => by rw [hb] at h; cases h
def isX (u : Value) : WordX := fun _ v _ => v = u
theorem isX_stays (u : Value) : StaysX (isX u) := fun _ _ v w w' _ _ h => h
theorem nextX {A a' : Act} {dst : Option Tmp} {Ws : List WordX} {d : Nat → Bool} {i : Nat} {R : World → Prop} {w w' : World} (v : Value) (ha : a' = A.put dst v) (hp : wordX Ws (setD d i) i v w') (hR : R w') (he : Goes w w') : NextX A dst Ws d i R w a' w' := ⟨v, ha, hp, hR, he⟩
theorem nextK {A a' : Act} {dst : Option Tmp} {Ws : List WordX} {d : Nat → Bool} {i : Nat} {x : Nat → Value} {R : World → Prop} {w w' : World} (v : Value) (ha : a' = A.put dst v) (hp : wordX Ws (setD d i) i v w') (hR : R w') (he : KeepX d i x w w' 0 Ws) : NextK A dst Ws d i x R w a' w' := ⟨v, ha, hp, hR, he⟩
end Go.Proofs.YtkdknfedieeenaaDoor
namespace Go.Proofs.YtkdknfedieeenaaDoor
open Go.RowKit
set_option linter.unusedVariables false
theorem oper_append_obm {P : Program} {o : Oper} {a : Act} {Q : Exit → Act → World → Prop} {K : Act → World → Prop} {w : World} (s x : Operand) (t tx : TypeId)
    (ho : o.op = .call { callee := .builtin .append, args := #[s, x], argTypes := #[t, tx] }) {sz : Nat}
    (e : TypeId) (i : TypeInfo) (z : Value) (bytes : Nat) (ht : P.underlying t = some (.slice e)) (hi : P.info? e = some i) (hz : i.zero = some z) (hsize : i.size = sz) (hby : i.bytes = bytes) (hzs : z.cells.size = sz)
    {B : Nat} {v : Value} {n : Nat} {l : List Value} {W : World} (hb : OBM sz B W v n l w) (hs : a.eval s = v) {vx : Value} {m : Nat} {news : List Value} (hx : a.eval x = vx) (hsrc : Src P sz tx vx m news w) (hnl : news.length = m * sz)
    (hlen : n + m ≤ maxLen) (hbytes : (n + m) * bytes ≤ 140737488355328)
    (h : ∀ v' w', OBM sz B W v' (n + m) (l ++ news) w' → w.heap.size ≤ w'.heap.size → (∀ k, k < w.heap.size → some k ≠ v.ownBlock → w'.heap[k]? = w.heap[k]?) → (v'.ownBlock = v.ownBlock ∨ v'.ownBlock = some w.heap.size) → K (a.put o.dst v') w') :
    Oper.wp P o a w K Q := by
  obtain ⟨v', w', hr, h1, h2, h3, h4⟩ := run_append_obm (P := P) t tx o.type e i z bytes ht hi hz hsize hby hzs hb vx m news hsrc hnl hlen hbytes
  unfold Oper.wp execOp
  simp only [ho, resolve, invoke, builtin, Sem.run_bind, Sem.run_pure, Result.andThen_ok, List.map_toArray, List.map_cons, List.map_nil, hs, hx, hr]
  exact h v' w' h1 h2 h3 h4
/-- A slice that reads as cells is what append can take. -/
theorem Sl.srcM {P : Program} {w : World} {C sz m c : Nat} {A : Option Addr} {news : List Value} {tx e' : TypeId} (hk : P.underlying tx = some (.slice e')) (hA : Sl w C sz A m news) (hA0 : A = none → m = 0) (h1 : ∀ u ∈ news, u.oneCell' = true) : Src P sz tx (.slice A m c) m news w := by
  cases A with
  | none =>
    have h0 := hA0 rfl
    subst h0
    have : news = [] := List.eq_nil_of_length_eq_zero (by rw [hA.1]; simp)
    subst this
    exact Src.ofNil w hk c
  | some ad => exact Src.ofSlice _ hk ad m c news hA.1 (fun j u hu => hA.cells_at ad rfl j u hu) h1
/-! ### append, and the elder slice -/
/-- 'append', whatever is appended, at elements of several cells. -/
theorem run_append_obk {P : Program} {sz B : Nat} {W w : World} {v : Value} {n : Nat} {l : List Value} (t tx ty e : TypeId) (i : TypeInfo) (z : Value) (bytes : Nat) (ht : P.underlying t = some (.slice e)) (hi : P.info? e = some i) (hz : i.zero = some z)
    (hsize : i.size = sz) (hby : i.bytes = bytes) (hzs : z.cells.size = sz) (h : OBM sz B W v n l w) (x : Value) (m : Nat) (news : List Value) (hs : Src P sz tx x m news w) (hnl : news.length = m * sz) (h63 : n + m ≤ maxLen) (hbytes : (n + m) * bytes ≤ 140737488355328) :
    ∃ v' w', (Builtin.append_ #[t, tx] ty #[v, x]).run P w = .ok v' w' ∧ OBM sz B W v' (n + m) (l ++ news) w' ∧ w.heap.size ≤ w'.heap.size ∧ (∀ k, k < w.heap.size → some k ≠ v.ownBlock → w'.heap[k]? = w.heap[k]?) ∧
      (v'.ownBlock = v.ownBlock ∨ v'.ownBlock = some w.heap.size) ∧ OBM sz B W v n l w' := by
  have hll : (l ++ news).length = (n + m) * sz := by rw [List.length_append, h.len, hnl, Nat.add_mul]
  have h63' : ((n + m : Nat) : Int) ≤ 9223372036854775807 := by unfold maxLen at h63; omega
  have grow : ∀ (base : Option Addr) (c : Nat), v = .slice base n c → c < n + m → (Builtin.firstCells i.size n (.slice base n c)).run P w.drew = .ok l.toArray w.drew →
      ∃ v' w', (Builtin.append_ #[t, tx] ty #[v, x]).run P w = .ok v' w' ∧ OBM sz B W v' (n + m) (l ++ news) w' ∧ w.heap.size ≤ w'.heap.size ∧ (∀ k, k < w.heap.size → some k ≠ v.ownBlock → w'.heap[k]? = w.heap[k]?) ∧
        (v'.ownBlock = v.ownBlock ∨ v'.ownBlock = some w.heap.size) ∧ OBM sz B W v n l w' := by
    intro base c hv hc hold
    have hfit : Builtin.nextslicecap (n + m) c * i.bytes ≤ 281474976710656 := growslice_fits hc (by rw [hby]; exact hbytes)
    have hr := run_append_grow_src (P := P) w t tx ty e i z ht hi hz base n c l hold x m news (by rw [hsize]; exact hs) hc h63' hfit
    have hge := grownCap_ge w (n + m) c e
    have hcm := grownCap_le_maxLen w (n + m) c e h63
    rw [← hv] at hr
    generalize grownCap w (n + m) c e = K at *
    have hsz : ((l ++ news).toArray ++ Builtin.zeroCells z.cells (K - (n + m))).size = K * sz := by
      rw [Array.size_append, List.size_toArray, hll, size_zeroCells, hzs]
      have e1 : K = (n + m) + (K - (n + m)) := by omega
      conv => rhs; rw [e1, Nat.add_mul]

    refine ⟨_, _, hr, ⟨(h.bel.drew).alloc h.base _, by have := h.base; simp; omega, hll, .inr ⟨w.heap.size, K, rfl, h.base, by simp, hge, hcm, fun j hj => ?_, fun j u hu => ?_⟩⟩, by simp, fun k hk _ => Below.heap_alloc w.drew _ k hk, .inr rfl, (h.drewN 1).alloc _⟩
    · have hg : (w.drew.alloc (.cells ((l ++ news).toArray ++ Builtin.zeroCells z.cells (K - (n + m))) e)).heap[w.heap.size]? = some (.cells ((l ++ news).toArray ++ Builtin.zeroCells z.cells (K - (n + m))) e (0, 0)) := heap_alloc_new w.drew _
      refine ⟨?_, frozen_of_row _ _ j _ e hg⟩
      rw [cell_of_row _ _ j _ e (0, 0) hg, Array.getElem?_eq_getElem (by rw [hsz]; exact hj)]; rfl
    · have hg : (w.drew.alloc (.cells ((l ++ news).toArray ++ Builtin.zeroCells z.cells (K - (n + m))) e)).heap[w.heap.size]? = some (.cells ((l ++ news).toArray ++ Builtin.zeroCells z.cells (K - (n + m))) e (0, 0)) := heap_alloc_new w.drew _
      have hj := (List.getElem?_eq_some_iff.1 hu).1
      rw [cell_of_row _ _ j _ e (0, 0) hg, Array.getElem?_append_left (by simpa using hj)]
      rw [List.getElem?_toArray]; exact hu
  rcases h.own with ⟨rfl, rfl⟩ | ⟨g, cap, rfl, h1, h2, h3, h4, h5, h6⟩
  · have hx : l = [] := List.eq_nil_of_length_eq_zero (by rw [h.len]; simp)
    subst hx
    by_cases hm : m = 0
    · subst hm
      have hn : news = [] := List.eq_nil_of_length_eq_zero (by rw [hnl]; simp)
      subst hn
      refine ⟨.slice none 0 0, w, ?_, ⟨h.bel, h.base, by simp, .inl ⟨rfl, rfl⟩⟩, Nat.le_refl _, fun _ _ _ => rfl, .inl rfl, h⟩
      have hc := hs.cells
      rw [show sz = i.size from hsize.symm] at hc
      rcases hs.kind with ⟨e', hk⟩ | hk <;> simp [Builtin.append_, run_underlying ht, run_underlying hk, sizeOf, typeInfo, hi, hs.len, hc]
    · exact grow none 0 rfl (by omega) (run_firstCells_none w.drew i.size 0 0 0)
  · by_cases hroom : n + m ≤ cap
    · have hroomsz : n * sz + news.length ≤ cap * sz := by rw [hnl, ← Nat.add_mul]; exact Nat.mul_le_mul_right sz hroom
      have hr := run_append_room_src (P := P) w t tx ty e i ht hi g 0 n cap x m news (by rw [hsize]; exact hs) hroom
        (fun j hj => by rw [hsize, Nat.zero_add]; exact (h5 _ (by omega)).1) (fun j hj => by rw [hsize, Nat.zero_add]; exact (h5 _ (by omega)).2)
      rw [hsize, Nat.zero_add] at hr
      obtain ⟨k1, k2⟩ := setCells_heap w g news (n * sz)
      have hin : ∀ j, j < news.length → (w.cell? ⟨g, n * sz + j, none⟩).isSome = true := fun j hj => (h5 _ (by omega)).1
      have hcell : ∀ j, j < cap * sz → (j < n * sz ∨ n * sz + news.length ≤ j → (w.setCells g (n * sz) news).cell? ⟨g, j, none⟩ = w.cell? ⟨g, j, none⟩) := fun j hj hout => World.cell?_setCells_out g news (n * sz) w ⟨g, j, none⟩ (fun _ _ => hout)
      have hkeep : OBM sz B W (.slice (some ⟨g, 0, none⟩) n cap) n l (w.setCells g (n * sz) news) := by
        refine ⟨below_setCells' h1 news (n * sz) h.bel, by rw [k1]; exact h.base, h.len, .inr ⟨g, cap, rfl, h1, by rw [k1]; exact h2, h3, h4, fun j hj => ⟨?_, by rw [World.frozen?_setCells]; exact (h5 j hj).2⟩, fun j u hu => ?_⟩⟩
        · by_cases hj1 : j < n * sz ∨ n * sz + news.length ≤ j
          · rw [hcell j hj hj1]; exact (h5 j hj).1
          · have := World.cell?_setCells_in g news (n * sz) w hin (j - n * sz) (by omega)
            rw [show n * sz + (j - n * sz) = j by omega] at this
            rw [this]; rfl
        · have hjl := (List.getElem?_eq_some_iff.1 hu).1
          rw [h.len] at hjl
          rw [hcell j (by omega) (.inl hjl)]
          exact h6 j u hu
      refine ⟨_, _, hr, ⟨below_setCells' h1 news (n * sz) h.bel, by rw [k1]; exact h.base, hll, .inr ⟨g, cap, rfl, h1, by rw [k1]; exact h2, hroom, h4, fun j hj => ?_, fun j u hu => ?_⟩⟩, by rw [k1]; exact Nat.le_refl _, fun k hk hne => k2 k (fun e => hne (by rw [e]; rfl)), .inl rfl, hkeep⟩
      · refine ⟨?_, by rw [World.frozen?_setCells]; exact (h5 j hj).2⟩
        by_cases hj1 : j < n * sz ∨ n * sz + news.length ≤ j
        · rw [hcell j hj hj1]; exact (h5 j hj).1
        · have := World.cell?_setCells_in g news (n * sz) w hin (j - n * sz) (by omega)
          rw [show n * sz + (j - n * sz) = j by omega] at this
          rw [this]; rfl
      · rw [List.getElem?_append] at hu
        split at hu
        · rename_i hjl
          rw [h.len] at hjl
          rw [hcell j (by omega) (.inl hjl)]
          exact h6 j u hu
        · rename_i hjl
          rw [h.len] at hu hjl
          obtain ⟨hj2, rfl⟩ := List.getElem?_eq_some_iff.1 hu
          have := World.cell?_setCells_in g news (n * sz) w hin (j - n * sz) hj2
          rwa [show n * sz + (j - n * sz) = j by omega] at this
    · refine grow _ cap rfl (by omega) (run_firstCells_some w.drew i.size n ⟨g, 0, none⟩ n cap l (by rw [hsize]; exact h.len) (fun j u hu => ?_))
      rw [Addr.add_lit, Nat.zero_add]
      exact h6 j u hu
theorem oper_append_obk {P : Program} {o : Oper} {a : Act} {Q : Exit → Act → World → Prop} {K : Act → World → Prop} {w : World} (s x : Operand) (t tx : TypeId)
    (ho : o.op = .call { callee := .builtin .append, args := #[s, x], argTypes := #[t, tx] }) {sz : Nat}
    (e : TypeId) (i : TypeInfo) (z : Value) (bytes : Nat) (ht : P.underlying t = some (.slice e)) (hi : P.info? e = some i) (hz : i.zero = some z) (hsize : i.size = sz) (hby : i.bytes = bytes) (hzs : z.cells.size = sz)
    {B : Nat} {v : Value} {n : Nat} {l : List Value} {W : World} (hb : OBM sz B W v n l w) (hs : a.eval s = v) {vx : Value} {m : Nat} {news : List Value} (hx : a.eval x = vx) (hsrc : Src P sz tx vx m news w) (hnl : news.length = m * sz)
    (hlen : n + m ≤ maxLen) (hbytes : (n + m) * bytes ≤ 140737488355328)
    (h : ∀ v' w', OBM sz B W v' (n + m) (l ++ news) w' → w.heap.size ≤ w'.heap.size → (∀ k, k < w.heap.size → some k ≠ v.ownBlock → w'.heap[k]? = w.heap[k]?) → (v'.ownBlock = v.ownBlock ∨ v'.ownBlock = some w.heap.size) → OBM sz B W v n l w' → K (a.put o.dst v') w') :
    Oper.wp P o a w K Q := by
  obtain ⟨v', w', hr, h1, h2, h3, h4, h5⟩ := run_append_obk (P := P) t tx o.type e i z bytes ht hi hz hsize hby hzs hb vx m news hsrc hnl hlen hbytes
  unfold Oper.wp execOp
  simp only [ho, resolve, invoke, builtin, Sem.run_bind, Sem.run_pure, Result.andThen_ok, List.map_toArray, List.map_cons, List.map_nil, hs, hx, hr]
  exact h v' w' h1 h2 h3 h4 h5
/-! ### Words -/
def ownW (sz B : Nat) (W : World) (n : Nat) (l : List Value) : Value → World → Prop := fun v w => OBM sz B W v n l w
theorem ownW_stays (sz B : Nat) (W : World) (n : Nat) (l : List Value) : ∀ v w w', ownW sz B W n l v w → Goes w w' → ownW sz B W n l v w' := fun _ _ _ h hb => OBM.keep h hb (Nat.le_refl _)
/-- A slice of one element over a block of these cells. -/
def litW (n : Nat) (vs : List Value) : Value → World → Prop := fun v w => ∃ g, v = .slice (some ⟨g, 0, none⟩) n n ∧ Cs w g vs
theorem litW_stays (n : Nat) (vs : List Value) : ∀ v w w', litW n vs v w → Goes w w' → litW n vs v w' := by
  rintro v w w' ⟨g, rfl, h⟩ hb
  exact ⟨g, rfl, h.below hb⟩
theorem litW_new (n : Nat) (w : World) (cs : Array Value) (t : TypeId) (vs : List Value) (hv : cs.toList = vs := by rfl) : litW n vs (.slice (some ⟨w.heap.size, 0, none⟩) n n) (w.alloc (.cells cs t)) := ⟨_, rfl, Cs.new w cs t vs hv⟩
/-- A place within a block of these cells. -/
def atW (j : Nat) (vs : List Value) : Value → World → Prop := fun v w => ∃ g, v = .pointer (some ⟨g, j, none⟩) ∧ Cs w g vs
theorem atW_stays (j : Nat) (vs : List Value) : ∀ v w w', atW j vs v w → Goes w w' → atW j vs v w' := by
  rintro v w w' ⟨g, rfl, h⟩ hb
  exact ⟨g, rfl, h.below hb⟩
/-- A box of these cells, which lies above B. -/
def boxW (B : Nat) (vs : List Value) : Value → World → Prop := fun v w => ∃ g, v = .pointer (some ⟨g, 0, none⟩) ∧ B ≤ g ∧ Cs w g vs
theorem boxW_stays (B : Nat) (vs : List Value) : ∀ v w w', boxW B vs v w → Goes w w' → boxW B vs v w' := by
  rintro v w w' ⟨g, rfl, hB, h⟩ hb
  exact ⟨g, rfl, hB, h.below hb⟩
theorem until_done {k K : Nat} {p : Value → World → Prop} {d : Nat → Bool} {v : Value} {w : World} (h : d k = true) : until_ k p (setD d K) v w := fun hk => by
  have := setD_le d K k h; rw [hk] at this; cases this
theorem until_self {K : Nat} {p : Value → World → Prop} {d : Nat → Bool} {v : Value} {w : World} : until_ K p (setD d K) v w := fun hk => by simp [setD] at hk
theorem until_of {k : Nat} {p : Value → World → Prop} {d : Nat → Bool} {v : Value} {w : World} (h : p v w) : until_ k p d v w := fun _ => h
end Go.Proofs.YtkdknfedieeenaaDoor
namespace Go.Proofs.YtkdknfedieeenaaDoor
open Go.RowKit
set_option linter.unusedVariables false
set_option linter.unusedSimpArgs false
set_option maxRecDepth 20000
end Go.Proofs.YtkdknfedieeenaaDoor
namespace Go.Proofs.YtkdknfedieeenaaDoor
open Go.RowKit
set_option linter.unusedVariables false
set_option linter.unusedSimpArgs false
set_option maxRecDepth 20000
def eqB (r r' : RecT) : Bool := r.1.toList == r'.1.toList && (r.2.1 == r'.2.1 && (r.2.2.1 == r'.2.2.1 && r.2.2.2.toList == r'.2.2.2.toList))
theorem eqB_iff (r r' : RecT) : eqB r r' = true ↔ r = r' := by
  constructor
  · intro h; exact rec_eq (by rw [show (r.1.toList == r'.1.toList && (r.2.1 == r'.2.1 && (r.2.2.1 == r'.2.2.1 && r.2.2.2.toList == r'.2.2.2.toList))) = true from h]; rfl)
  · rintro rfl; unfold eqB; simp
theorem eqB_false {r r' : RecT} (h : eqB r r' = false) : r ≠ r' := by
  intro e; rw [(eqB_iff r r').2 e] at h; cases h
theorem rec_eql (r r' : RecT) (w : World) : (binOp .eql 59 (recV r) (recV r')).run Tryd.prog w = .ok (.bool (eqB r r')) w := by
  obtain ⟨f0, f1, f2, f3, hf, ⟨t0, t1, t2, t3⟩, ⟨n0, n1, n2, n3⟩, ⟨o0, o1, o2, o3⟩, ⟨c0, c1, c2, c3⟩⟩ := rec_fields
  unfold recV eqB
  rw [run_eql_struct, run_equalIn_agg (P := Tryd.prog) w _ _ _ _ Tryd.underlying59 (by kernel_rfl), hf]
  simp [go_sem, Op.eqFields, isAgg, run_underlying t0, run_underlying t1, run_underlying t2, run_underlying t3, t0, t1, t2, t3, n0, n1, n2, n3, o0, o1, o2, o3]
  by_cases e0 : r.1.toList = r'.1.toList <;> by_cases e1 : r.2.1 = r'.2.1 <;> by_cases e2 : r.2.2.1 = r'.2.2.1 <;> by_cases e3 : r.2.2.2.toList = r'.2.2.2.toList <;> simp [e0, e1, e2, e3]
/-- The first place of a record among others; -1, if there is none. -/
def IdxR (rs : List RecT) (r : RecT) (i : Int) : Prop := (i = -1 ∧ r ∉ rs) ∨ ∃ k : Nat, i = k ∧ rs[k]? = some r ∧ r ∉ rs.take k
def zhasB (rs : List RecT) (r : RecT) : Bool := rs.any (eqB r)
theorem zhasB_iff (rs : List RecT) (r : RecT) : zhasB rs r = true ↔ r ∈ rs := by
  unfold zhasB
  rw [List.any_eq_true]
  constructor
  · rintro ⟨q, hq, he⟩; rw [(eqB_iff r q).1 he]; exact hq
  · intro h; exact ⟨r, h, (eqB_iff r r).2 rfl⟩
theorem zhasB_false {rs : List RecT} {r : RecT} : zhasB rs r = false ↔ r ∉ rs := by
  rw [← zhasB_iff]; simp
theorem IdxR.has {rs : List RecT} {r : RecT} {i : Int} (h : IdxR rs r i) : decide (0 ≤ i) = zhasB rs r := by
  rcases h with ⟨rfl, h⟩ | ⟨k, rfl, h, _⟩
  · rw [zhasB_false.2 h]; rfl
  · rw [(zhasB_iff _ _).2 (List.mem_of_getElem? h)]; simp
end Go.Proofs.YtkdknfedieeenaaDoor
namespace Go.Proofs.YtkdknfedieeenaaDoor
open Go.RowKit
set_option linter.unusedVariables false
set_option linter.unusedSimpArgs false
set_option maxRecDepth 20000
/-- A block of zeros that was just laid, of which nothing is used yet. -/
theorem OBM.zeros {sz : Nat} (w : World) (cs : Array Value) (t : TypeId) (K : Nat) (hcs : cs.size = K * sz) (hK : K ≤ maxLen) :
    OBM sz w.heap.size w (.slice (some ⟨w.heap.size, 0, none⟩) 0 K) 0 [] (w.drew.alloc (.cells cs t)) := by
  refine ⟨((Below.refl w.heap.size w).drew).alloc (Nat.le_refl _) _, by simp, by simp, .inr ⟨w.heap.size, K, rfl, Nat.le_refl _, by simp, Nat.zero_le _, hK, fun j hj => ?_, fun j u hu => by simp at hu⟩⟩
  have hg : (w.drew.alloc (.cells cs t)).heap[w.heap.size]? = some (.cells cs t (0, 0)) := heap_alloc_new w.drew _
  refine ⟨?_, frozen_of_row _ _ j _ t hg⟩
  rw [cell_of_row _ _ j _ t (0, 0) hg, Array.getElem?_eq_getElem (by rw [hcs]; exact hj)]; rfl
theorem rec_zero_cells : ((Value.agg #[.string ⟨#[]⟩, .int .u16 0, .int .u32 0, .string ⟨#[]⟩]).cells).size = 4 := rfl
/-- A row of records among others. -/
abbrev RowR := Option Addr × Nat × Nat × List RecT
def rowRV (r : RowR) : Value := .slice r.1 r.2.1 r.2.2.1
structure RowROk (w : World) (r : RowR) : Prop where
  sl : Sl w w.heap.size 4 r.1 r.2.1 (flatR r.2.2.2)
  none_ : r.1 = none → r.2.1 = 0
  len : r.2.2.2.length = r.2.1
theorem RowROk.below {w w' : World} {r : RowR} (h : RowROk w r) (hb : Below w.heap.size w w') : RowROk w' r := ⟨(h.sl.below hb).more hb.size, h.none_, h.len⟩
def allR (rows : List RowR) : List RecT := rows.flatMap (·.2.2.2)
theorem allR_snoc {rows : List RowR} {k : Nat} {r : RowR} (h : rows[k]? = some r) : allR (rows.take (k + 1)) = allR (rows.take k) ++ r.2.2.2 := by
  unfold allR; rw [List.take_add_one, h]; simp
theorem allR_le (rows : List RowR) (k : Nat) : (allR (rows.take k)).length ≤ (allR rows).length := by
  have h : allR rows = allR (rows.take k) ++ allR (rows.drop k) := by unfold allR; rw [← List.flatMap_append, List.take_append_drop]
  rw [h, List.length_append]; omega
theorem flatR_append (a b : List RecT) : flatR (a ++ b) = flatR a ++ flatR b := by unfold flatR; simp
end Go.Proofs.YtkdknfedieeenaaDoor
namespace Go.Proofs.YtkdknfedieeenaaDoor
open Go.RowKit
set_option linter.unusedVariables false
set_option linter.unusedSimpArgs false
set_option maxRecDepth 20000
attribute [local simp] putsF isV wordOf Deps Region.binds Region.wanted Act.put wantedX isB
def lowB (r q : RecT) : Bool := decide (cmpR q r < 0)
/-- Records with one more, where it stands. -/
def insR (rs : List RecT) (r : RecT) : List RecT := rs.takeWhile (lowB r) ++ r :: rs.dropWhile (lowB r)
theorem take_while {rs : List RecT} {r : RecT} {k : Nat} (h : ∀ q ∈ rs.take k, lowB r q = true) (he : ∀ q, rs[k]? = some q → lowB r q = false) : rs.takeWhile (lowB r) = rs.take k ∧ rs.dropWhile (lowB r) = rs.drop k := by
  induction rs generalizing k with
  | nil => simp
  | cons q rs ih =>
    cases k with
    | zero =>
      have := he q rfl
      simp [this]
    | succ k =>
      have hq := h q (by simp)
      have := ih (k := k) (fun p hp => h p (by simp [hp])) (fun p hp => he p (by simpa using hp))
      simp [hq, this]
theorem insR_at {rs : List RecT} {r : RecT} {k : Nat} (h : ∀ q ∈ rs.take k, lowB r q = true) (he : ∀ q, rs[k]? = some q → lowB r q = false) : insR rs r = rs.take k ++ r :: rs.drop k := by
  obtain ⟨h1, h2⟩ := take_while h he
  unfold insR; rw [h1, h2]
theorem insR_len (rs : List RecT) (r : RecT) : (insR rs r).length = rs.length + 1 := by
  have h : (rs.takeWhile (lowB r) ++ rs.dropWhile (lowB r)).length = rs.length := by rw [List.takeWhile_append_dropWhile]
  rw [List.length_append] at h
  unfold insR
  rw [List.length_append, List.length_cons]; omega
/-- A slice's beginning, and its rest, are rows. -/
theorem RowROk.take {w : World} {A : Option Addr} {n c : Nat} {rs : List RecT} (h : RowROk w (A, n, c, rs)) (k : Nat) (hk : k ≤ n) (c' : Nat) : RowROk w (A, k, c', rs.take k) := by
  have hl := h.len
  dsimp only at hl
  refine ⟨⟨by rw [flatR_len]; simp; omega, fun hk0 => ?_⟩, fun e => by have := h.none_ e; dsimp only at this ⊢; omega, by simp; omega⟩
  obtain ⟨b, off, e, hb, hc⟩ := h.sl.2 (by dsimp only at hk0 ⊢; omega)
  refine ⟨b, off, e, hb, fun j u hu => hc j u ?_⟩
  have hf : flatR rs = flatR (rs.take k) ++ flatR (rs.drop k) := by rw [← flatR_append, List.take_append_drop]
  rw [hf, List.getElem?_append_left (List.getElem?_eq_some_iff.1 hu).1]
  exact hu
theorem RowROk.drop {w : World} {b off : Nat} {n c : Nat} {rs : List RecT} (h : RowROk w (some ⟨b, off, none⟩, n, c, rs)) (k : Nat) (hk : k ≤ n) (c' : Nat) : RowROk w (some ⟨b, off + k * 4, none⟩, n - k, c', rs.drop k) := by
  have hl := h.len
  dsimp only at hl
  refine ⟨⟨by rw [flatR_len]; simp; omega, fun hk0 => ?_⟩, fun e => (by cases e), (by simp; omega)⟩
  obtain ⟨b', off', e, hb, hc⟩ := h.sl.2 (by dsimp only at hk0 ⊢; omega)
  injection e with e; injection e with e1 e2; subst e1 e2
  refine ⟨b, off + k * 4, rfl, hb, fun j u hu => ?_⟩
  have hf : flatR rs = flatR (rs.take k) ++ flatR (rs.drop k) := by rw [← flatR_append, List.take_append_drop]
  have hlen : (flatR (rs.take k)).length = k * 4 := by rw [flatR_len]; simp; omega
  have := hc (k * 4 + j) u (by rw [hf, List.getElem?_append_right (by omega), hlen]; simpa using hu)
  rwa [← Nat.add_assoc] at this
theorem RowROk.nothing (w : World) (A : Option Addr) (c : Nat) : RowROk w (A, 0, c, []) := ⟨Sl.nil _ _ _ _, fun _ => rfl, rfl⟩
theorem RowROk.one {w : World} {g : Nat} {r : RecT} (h : Cs w g (recCells r)) : RowROk w (some ⟨g, 0, none⟩, 1, 1, [r]) :=
  ⟨⟨rfl, fun _ => ⟨g, 0, rfl, h.lt, fun j u hu => by rw [Nat.zero_add]; exact h.get j u (by simpa [flatR] using hu)⟩⟩, fun e => (by cases e), rfl⟩
/-- Three rows that are some records, one behind the other. -/
def joinW (L : List RecT) : Value → World → Prop := fun v w => ∃ g, v = .slice (some ⟨g, 0, none⟩) 3 3 ∧ ∃ rows : List RowR, Sl w w.heap.size 1 (some ⟨g, 0, none⟩) 3 (rows.map rowRV) ∧ (∀ r ∈ rows, RowROk w r) ∧ allR rows = L
theorem joinW_stays (L : List RecT) : ∀ v w w', joinW L v w → Goes w w' → joinW L v w' := by
  rintro v w w' ⟨g, rfl, rows, hS, hok, hL⟩ hb
  exact ⟨g, rfl, rows, (hS.below hb).more hb.size, fun r hr => (hok r hr).below hb, hL⟩
end Go.Proofs.YtkdknfedieeenaaDoor
namespace Go.Proofs.YtkdknfedieeenaaDoor
open Go.RowKit
set_option linter.unusedVariables false
set_option linter.unusedSimpArgs false
set_option maxRecDepth 20000
attribute [local simp] putsF isV wordOf Deps Region.binds Region.wanted Act.put wantedX isB
def recA8 : RecT := (⟨#[1, 97]⟩, 1, 0, ⟨#[]⟩)
def recB8 : RecT := (⟨#[1, 97]⟩, 16, 0, ⟨#[]⟩)
theorem cmp_ab : cmpR recA8 recB8 = -1 := by
  unfold cmpR
  rw [show cmpS recA8.1 recB8.1 = 0 from cmpS_is.refl _]
  rfl
theorem cmp_ba : cmpR recB8 recA8 = 1 := by rw [cmpR_is.swap, cmp_ab]; rfl
theorem ins_ab : insR [recB8] recA8 = [recA8, recB8] := by
  unfold insR
  have : lowB recA8 recB8 = false := by unfold lowB; rw [cmp_ba]; rfl
  simp [this]
theorem ab_ne : recA8 ∉ [recB8] := by
  intro h
  have h : recA8 = recB8 := by simpa using h
  have := cmp_ab
  rw [h, cmpR_is.refl] at this
  cases this
end Go.Proofs.YtkdknfedieeenaaDoor
namespace Go.Proofs.YtkdknfedieeenaaDoor
open Go.RowKit
set_option linter.unusedVariables false
set_option linter.unusedSimpArgs false
set_option maxRecDepth 20000
/-- How many bytes records take. -/
def sizeR (rs : List RecT) : Nat := (rs.map fun r => 10 + r.1.size + r.2.2.2.size).sum
theorem sizeR_next {rs : List RecT} {k : Nat} {r : RecT} (h : rs[k]? = some r) : sizeR (rs.take (k + 1)) = sizeR (rs.take k) + (10 + r.1.size + r.2.2.2.size) := by
  unfold sizeR; rw [List.take_add_one, h]; simp
theorem sizeR_le (rs : List RecT) (k : Nat) : sizeR (rs.take k) ≤ sizeR rs := by
  have h : sizeR rs = sizeR (rs.take k) + sizeR (rs.drop k) := by
    unfold sizeR; rw [← List.sum_append, ← List.map_append, List.take_append_drop]
  omega
def nameB (s : ByteArray) (r : RecT) : Bool := r.1.toList == s.toList
def atR (rs : List RecT) (s : ByteArray) : List RecT := rs.filter (nameB s)
theorem atR_yes {rs : List RecT} {s : ByteArray} {k : Nat} {r : RecT} (hr : rs[k]? = some r) (hb : nameB s r = true) : atR (rs.take (k + 1)) s = atR (rs.take k) s ++ [r] := by
  unfold atR; rw [List.take_add_one, hr]; simp [List.filter_append, hb]
theorem atR_no {rs : List RecT} {s : ByteArray} {k : Nat} {r : RecT} (hr : rs[k]? = some r) (hb : nameB s r = false) : atR (rs.take (k + 1)) s = atR (rs.take k) s := by
  unfold atR; rw [List.take_add_one, hr]; simp [List.filter_append, hb]
theorem atR_le (rs : List RecT) (s : ByteArray) (k : Nat) : (atR (rs.take k) s).length ≤ rs.length := by
  unfold atR
  have h1 := List.length_filter_le (nameB s) (rs.take k)
  have h2 := List.length_take_le k rs
  simp at h1
  omega
theorem src_one' {w : World} {ts : TypeId} (hts : Tryd.prog.underlying ts = some (.slice 59)) (r : RecT) :
    Src Tryd.prog 4 ts (.slice (some ⟨w.heap.size, 0, none⟩) 1 1) 1 (recCells r) (w.alloc (.cells #[.string r.1, .int .u16 r.2.1, .int .u32 r.2.2.1, .string r.2.2.2] 59)) := by
  refine Src.ofSlice _ hts _ 1 1 _ rfl ?_ ?_
  · exact news_at w #[.string r.1, .int .u16 r.2.1, .int .u32 r.2.2.1, .string r.2.2.2] _
  · intro u hu
    unfold recCells at hu
    simp at hu
    rcases hu with rfl | rfl | rfl | rfl <;> rfl
set_option maxHeartbeats 1600000 in
theorem at_any (A : Option Addr) (n c : Nat) (rs : List RecT) (s : ByteArray) (w : World) (h : Recs w A rs) (hl : rs.length = n) (hn : n ≤ 1000000) :
    Calls Tryd.prog 33 #[.slice A n c, .string s] w fun e w' => ∃ v, e = .returned v ∧ OBM 4 w.heap.size w v (atR rs s).length (flatR (atR rs s)) w' := by
  obtain ⟨i0, hi, hz0, hz1, hz2⟩ := info_parts4 rec_info
  have H := Lib.hid h
  have HL := Lib.hid hl
  clear h hl
  go_enter Tryd.func33, Tryd.ntmps33
  go_wp2_with fail
  go_loopw [5, 10] (fun v i wr => ∃ k : Nat, k ≤ n ∧ i = .int .i64 k ∧ Hid (OBM 4 w.heap.size w v (atR (rs.take k) s).length (flatR (atR (rs.take k) s)) wr)) (fun _ i _ => n - (intOf i).toNat)
  case atStart => exact ⟨0, Nat.zero_le _, rfl, Lib.hid (by simpa [atR, flatR] using OBM.start (sz := 4) w)⟩
  case round =>
    obtain ⟨k, hk, rfl, HB⟩ := hrel
    by_cases hlt : k < n
    · have hlt' : (k : Int) < n := by omega
      obtain ⟨r, hr⟩ : ∃ q, rs[k]? = some q := ⟨_, List.getElem?_eq_getElem (by rw [HL.out]; exact hlt)⟩
      obtain ⟨b, off, rfl, hb, z0, z1, z2, z3⟩ := (H.out.below HB.out.bel) k _ hr
      have HR := Lib.hid hr
      clear hr
      cases en : (r.1.toList == s.toList) with
      | false =>
        have HN : Hid (nameB s r = false) := Lib.hid en
        go_wp2_with fail
        go_round
        case rel => exact ⟨k + 1, by omega, by go_num, Lib.hid (by rw [atR_no HR.out HN.out]; exact HB.out.alloc _)⟩
        case measure => simp [intOf]; omega
      | true =>
        have HN : Hid (nameB s r = true) := Lib.hid en
        have HLE := Lib.hid (atR_le rs s k)
        have ho := Lib.hid ((HB.out.alloc (.cells #[.string r.1, .int .u16 r.2.1, .int .u32 r.2.2.1, .string r.2.2.2] 59)).alloc (.cells #[.string r.1, .int .u16 r.2.1, .int .u32 r.2.2.1, .string r.2.2.2] 59))
        have hS := Lib.hid (src_one' (w := wr.alloc (.cells #[.string r.1, .int .u16 r.2.1, .int .u32 r.2.2.1, .string r.2.2.2] 59)) Tryd.underlying48 r)
        have hz : (wr.alloc (.cells #[.string r.1, .int .u16 r.2.1, .int .u32 r.2.2.1, .string r.2.2.2] 59)).heap.size = wr.heap.size + 1 := by simp
        rw [hz] at hS
        clear hz
        go_wp2_with (at_builtin; go_loud (refine wpList_append_obm rfl _ _ 48 48 rfl 59 i0 _ 40 Tryd.underlying48 hi hz0 hz1 hz2 rfl ho.out rfl rfl hS.out rfl (by have := HLE.out; have := HL.out; unfold maxLen; omega) (by have := HLE.out; have := HL.out; omega) ?_))
        intro v' w' q1 q2 q3 q4
        clear q2 q3 q4
        have Q1 := Lib.hid q1
        clear q1
        go_wp2_with fail
        go_round
        case rel => exact ⟨k + 1, by omega, by go_num, Lib.hid (by rw [atR_yes HR.out HN.out, flatR_snoc, List.length_append]; exact Q1.out)⟩
        case measure => simp [intOf]; omega
    · have hlt' : ¬ (k : Int) < n := by omega
      go_wp2_with fail
      go_ret
      have := HB.out
      rw [List.take_of_length_le (by rw [HL.out]; omega)] at this
      exact ⟨_, rfl, this⟩
end Go.Proofs.YtkdknfedieeenaaDoor
namespace Go.Proofs.YtkdknfedieeenaaDoor
open Go.RowKit
set_option linter.unusedVariables false
set_option maxRecDepth 20000

theorem mk_toList' (l : List UInt8) : (ByteArray.mk l.toArray).data.toList = l := by simp
def specL : List (ByteArray × Value) := [(⟨#[]⟩, .int .i64 4), (⟨#[1, 42]⟩, .int .i64 5), (⟨#[12, 114, 112, 122, 45, 112, 97, 115, 115, 116, 104, 114, 117]⟩, .int .i64 2), (⟨#[8, 114, 112, 122, 45, 100, 114, 111, 112]⟩, .int .i64 3), (⟨#[12, 114, 112, 122, 45, 116, 99, 112, 45, 111, 110, 108, 121]⟩, .int .i64 6)]
theorem specials_any (w : World) : Calls Tryd.prog 55 #[] w fun e w' => ∃ b, e = .returned (.map (some b)) ∧ SM w' b specL ∧ Below w.heap.size w w' := by
  have hmk : (Instr.makeMap 115 none).run Tryd.prog w = .ok (.map (some w.heap.size)) (w.alloc (.map #[] 0)) := rfl
  have ut := Tryd.underlying115
  have uk := Tryd.underlying29
  have h0 := SM.new w
  have b0 := (Below.refl w.heap.size w).alloc (Nat.le_refl _) (.map #[] 0)
  obtain ⟨w1, e1, h1, g1⟩ := h0.insert ut uk ⟨#[]⟩ (.int .i64 4) (by decide)
  have b1 := below_grown b0 g1 b0.size (Nat.le_refl _)
  obtain ⟨w2, e2, h2, g2⟩ := h1.insert ut uk ⟨#[1, 42]⟩ (.int .i64 5) (by decide)
  have b2 := below_grown b1 g2 b1.size (Nat.le_refl _)
  obtain ⟨w3, e3, h3, g3⟩ := h2.insert ut uk ⟨#[12, 114, 112, 122, 45, 112, 97, 115, 115, 116, 104, 114, 117]⟩ (.int .i64 2) (by decide)
  have b3 := below_grown b2 g3 b2.size (Nat.le_refl _)
  obtain ⟨w4, e4, h4, g4⟩ := h3.insert ut uk ⟨#[8, 114, 112, 122, 45, 100, 114, 111, 112]⟩ (.int .i64 3) (by decide)
  have b4 := below_grown b3 g4 b3.size (Nat.le_refl _)
  obtain ⟨w5, e5, h5, g5⟩ := h4.insert ut uk ⟨#[12, 114, 112, 122, 45, 116, 99, 112, 45, 111, 110, 108, 121]⟩ (.int .i64 6) (by decide)
  have b5 := below_grown b4 g5 b4.size (Nat.le_refl _)
  clear ut uk h0 h1 h2 h3 h4 g1 g2 g3 g4 g5 b0 b1 b2 b3 b4
  go_enter Tryd.func55, Tryd.ntmps55
  go_wp2_with fail
  go_ret
  exact ⟨_, rfl, h5, b5⟩
/-- What a target means: the kind, the target, wild or not. -/
def tgtOf (s : ByteArray) : Int × ByteArray × Bool :=
  match smGet specL s with
  | some (.int .i64 k) => (k, ⟨#[]⟩, false)
  | _ => match labelsOf s with
    | some (l :: m :: ls) => if l = [42] then (7, ⟨(wire (m :: ls)).toArray⟩, true) else (7, s, false)
    | _ => (7, s, false)
def actV (a : Int × ByteArray × Bool) : Value := .agg #[.int .i64 a.1, .string a.2.1, .bool a.2.2, .slice none 0 0]
theorem specL_get (s : ByteArray) : (smHas specL s = false ∧ smGet specL s = none) ∨ ∃ k : Int, smHas specL s = true ∧ smGet specL s = some (.int .i64 k) := by
  unfold smHas smGet specL
  cases h1 : (s.data.toList == (ByteArray.mk #[]).data.toList)
  · cases h2 : (s.data.toList == (ByteArray.mk #[1, 42]).data.toList)
    · cases h3 : (s.data.toList == (ByteArray.mk #[12, 114, 112, 122, 45, 112, 97, 115, 115, 116, 104, 114, 117]).data.toList)
      · cases h4 : (s.data.toList == (ByteArray.mk #[8, 114, 112, 122, 45, 100, 114, 111, 112]).data.toList)
        · cases h5 : (s.data.toList == (ByteArray.mk #[12, 114, 112, 122, 45, 116, 99, 112, 45, 111, 110, 108, 121]).data.toList)
          · left; simp only [List.any_cons, List.any_nil, List.find?_cons, List.find?_nil, h1, h2, h3, h4, h5, Bool.or_false, Option.map_none, and_self]
          · right; exact ⟨6, by simp only [List.any_cons, h1, h2, h3, h4, h5, Bool.false_or, Bool.true_or], by simp only [List.find?_cons, h1, h2, h3, h4, h5, Option.map_some]⟩
        · right; exact ⟨3, by simp only [List.any_cons, h1, h2, h3, h4, Bool.false_or, Bool.true_or], by simp only [List.find?_cons, h1, h2, h3, h4, Option.map_some]⟩
      · right; exact ⟨2, by simp only [List.any_cons, h1, h2, h3, Bool.false_or, Bool.true_or], by simp only [List.find?_cons, h1, h2, h3, Option.map_some]⟩
    · right; exact ⟨5, by simp only [List.any_cons, h1, h2, Bool.false_or, Bool.true_or], by simp only [List.find?_cons, h1, h2, Option.map_some]⟩
  · right; exact ⟨4, by simp only [List.any_cons, h1, Bool.true_or], by simp only [List.find?_cons, h1, Option.map_some]⟩
set_option maxHeartbeats 1600000 in
theorem ofTarget_any (s : ByteArray) (w : World) (hs : s.size ≤ 140737488355328) :
    Calls Tryd.prog 42 #[.string s] w fun e w' => e = .returned (actV (tgtOf s)) ∧ Below w.heap.size w w' := by
  obtain ⟨W, hW⟩ : ∃ W, W = w.alloc (.cells #[.int .i64 0, .string ⟨#[]⟩, .bool false, .slice none 0 0] 50) := ⟨_, rfl⟩
  have hC : Cs W w.heap.size [.int .i64 0, .string ⟨#[]⟩, .bool false, .slice none 0 0] := by rw [hW]; exact Cs.new w _ _ _
  have hbW : Below w.heap.size w W := by rw [hW]; exact (Below.refl _ _).alloc (Nat.le_refl _) _
  have SP := Lib.hid (specials_any W)
  have LB := Lib.hid (fun w => labels_any s w (by unfold maxLen; omega))
  have PR := Lib.hid (fun w => parent_any s w (by unfold maxLen; omega))
  go_enter Tryd.func42, Tryd.ntmps42
  go_wp2_with fail
  rw [← hW]
  clear hW
  refine SP.out.mono ?_
  rintro e w1 ⟨b, rfl, hsm, hb1'⟩
  have hC1 := hC.below hb1'
  have hb1 := below_trans hbW hbW.size hb1'
  have hlk := hsm.lookup (P := Tryd.prog) Tryd.underlying115 Tryd.underlying29 (z := .int .i64 0) (by rfl) s
  rcases specL_get s with ⟨hh, hg⟩ | ⟨k, hh, hg⟩
  · rw [hh, hg] at hlk
    simp only [Option.getD_none] at hlk
    have htg : tgtOf s = match labelsOf s with
      | some (l :: m :: ls) => if l = [42] then (7, ⟨(wire (m :: ls)).toArray⟩, true) else (7, s, false)
      | _ => (7, s, false) := by unfold tgtOf; rw [hg]
    have HG := Lib.hid htg
    clear hh hg hsm hC hbW hb1' SP htg
    go_wp2_with fail
    refine (LB.out _).mono ?_
    rintro e w2 ⟨v, rfl, hbuf⟩
    have hC2 := hC1.below hbuf.below
    have hb2 := below_trans hb1 hb1.size hbuf.below
    have hlen := hbuf.len
    obtain ⟨A', c', rfl, hv1, hv2, hv3⟩ := hbuf.slice
    have hSl := hbuf.sl
    clear hC1 hb1 hv3 hbuf LB
    cases hlo : labelsOf s with
    | none =>
      have hL : labelsL s = [] := by unfold labelsL; rw [hlo]; rfl
      have HT : Hid (tgtOf s = (7, s, false)) := Lib.hid (by rw [HG.out, hlo])
      rw [hL]
      clear hlo hL HG hSl hlen hv1 PR
      have c0 := hC2.get 0 _
      have c1 := hC2.get 1 _
      have c2 := hC2.get 2 _
      have c3 := hC2.get 3 _
      have f0 := hC2.froz 0
      have f1 := hC2.froz 1
      have f2 := hC2.froz 2
      have f3 := hC2.froz 3
      clear hC2
      go_wp2_with fail
      refine bodyPost_ret (v := .agg #[.int .i64 7, .string s, .bool false, .slice none 0 0]) (by simp [results, Tryd.results42, go_sem, c0, c1, c2, c3]) rfl ⟨by rw [HT.out]; rfl, ?_⟩
      iterate 4 (refine Below.setCell ?_ (by simp) _)
      exact hb2
    | some LS =>
      match LS with
      | [] =>
        have hL : labelsL s = [] := by unfold labelsL; rw [hlo]; rfl
        have HT : Hid (tgtOf s = (7, s, false)) := Lib.hid (by rw [HG.out, hlo])
        rw [hL]
        clear hlo hL HG hSl hlen hv1 PR
        have c0 := hC2.get 0 _
        have c1 := hC2.get 1 _
        have c2 := hC2.get 2 _
        have c3 := hC2.get 3 _
        have f0 := hC2.froz 0
        have f1 := hC2.froz 1
        have f2 := hC2.froz 2
        have f3 := hC2.froz 3
        clear hC2
        go_wp2_with fail
        refine bodyPost_ret (v := .agg #[.int .i64 7, .string s, .bool false, .slice none 0 0]) (by simp [results, Tryd.results42, go_sem, c0, c1, c2, c3]) rfl ⟨by rw [HT.out]; rfl, ?_⟩
        iterate 4 (refine Below.setCell ?_ (by simp) _)
        exact hb2
      | [l] =>
        have hL : labelsL s = [l] := by unfold labelsL; rw [hlo]; rfl
        have HT : Hid (tgtOf s = (7, s, false)) := Lib.hid (by rw [HG.out, hlo])
        rw [hL]
        clear hlo hL HG hSl hlen hv1 PR
        have c0 := hC2.get 0 _
        have c1 := hC2.get 1 _
        have c2 := hC2.get 2 _
        have c3 := hC2.get 3 _
        have f0 := hC2.froz 0
        have f1 := hC2.froz 1
        have f2 := hC2.froz 2
        have f3 := hC2.froz 3
        clear hC2
        go_wp2_with fail
        refine bodyPost_ret (v := .agg #[.int .i64 7, .string s, .bool false, .slice none 0 0]) (by simp [results, Tryd.results42, go_sem, c0, c1, c2, c3]) rfl ⟨by rw [HT.out]; rfl, ?_⟩
        iterate 4 (refine Below.setCell ?_ (by simp) _)
        exact hb2
      | l :: m :: ls =>
        have hL : labelsL s = l :: m :: ls := by unfold labelsL; rw [hlo]; rfl
        have hPO : parentOf s = some (wire (m :: ls)) := by unfold parentOf; rw [hlo]
        have hn : (1 : Int) < ((labelsL s).length : Int) := by rw [hL]; simp; omega
        obtain ⟨g, off, u, rfl, hg', hu, hcell⟩ := hSl.at_ (show 0 < (labelsL s).length by rw [hL]; simp)
        rw [hL] at hu
        simp only [List.map_cons, List.getElem?_cons_zero, Option.some.injEq] at hu
        subst hu
        have hn2 : (0 : Int) < ((labelsL s).length : Int) := by omega
        rw [hPO] at PR
        unfold sv at hcell PR
        simp only [Option.getD_some, Option.isSome_some] at PR
        obtain ⟨N, hN⟩ : ∃ N, (labelsL s).length = N := ⟨_, rfl⟩
        rw [hN] at hn hn2 ⊢
        rw [Nat.add_zero] at hcell
        by_cases hst : l = [42]
        · have HT : Hid (tgtOf s = (7, ⟨(wire (m :: ls)).toArray⟩, true)) := Lib.hid (by rw [HG.out, hlo]; simp only [hst, if_true])
          subst hst
          generalize ByteArray.mk (wire (m :: ls)).toArray = PT at *
          clear hlo hL HG hSl hlen hv1 hPO hN
          go_wp2_with fail
          refine (PR.out _).mono ?_
          rintro e w3 ⟨rfl, hb3'⟩
          have hC3 := hC2.below hb3'
          have hb3 := below_trans hb2 hb2.size hb3'
          have c0 := hC3.get 0 _
          have c1 := hC3.get 1 _
          have c2 := hC3.get 2 _
          have c3 := hC3.get 3 _
          have f0 := hC3.froz 0
          have f1 := hC3.froz 1
          have f2 := hC3.froz 2
          have f3 := hC3.froz 3
          clear hC3 hC2 hcell hb3'
          go_wp2_with fail
          refine bodyPost_ret (v := .agg #[.int .i64 7, .string PT, .bool true, .slice none 0 0]) (by simp [results, Tryd.results42, go_sem, c0, c1, c2, c3]) rfl ⟨by rw [HT.out]; rfl, ?_⟩
          iterate 4 (refine Below.setCell ?_ (by simp) _)
          exact hb3
        · have HT : Hid (tgtOf s = (7, s, false)) := Lib.hid (by rw [HG.out, hlo]; simp only [hst, if_false])
          obtain ⟨LB, hLB⟩ : ∃ x, x = ByteArray.mk l.toArray := ⟨_, rfl⟩
          have hne : (LB.toList == [42]) = false := by rw [str_is, hLB, mk_toList']; simpa using hst
          rw [← hLB] at hcell
          clear hLB
          clear hlo hL HG hSl hlen hv1 hPO hN hst PR
          have c0 := hC2.get 0 _
          have c1 := hC2.get 1 _
          have c2 := hC2.get 2 _
          have c3 := hC2.get 3 _
          have f0 := hC2.froz 0
          have f1 := hC2.froz 1
          have f2 := hC2.froz 2
          have f3 := hC2.froz 3
          clear hC2
          go_wp2_with fail
          refine bodyPost_ret (v := .agg #[.int .i64 7, .string s, .bool false, .slice none 0 0]) (by simp [results, Tryd.results42, go_sem, c0, c1, c2, c3]) rfl ⟨by rw [HT.out]; rfl, ?_⟩
          iterate 4 (refine Below.setCell ?_ (by simp) _)
          exact hb2
  · rw [hh, hg] at hlk
    have ht : tgtOf s = (k, ⟨#[]⟩, false) := by unfold tgtOf; rw [hg]
    simp only [Option.getD_some] at hlk
    have HT := Lib.hid ht
    have c0 := hC1.get 0 _
    have c1 := hC1.get 1 _
    have c2 := hC1.get 2 _
    have c3 := hC1.get 3 _
    have f0 := hC1.froz 0
    have f1 := hC1.froz 1
    have f2 := hC1.froz 2
    have f3 := hC1.froz 3
    clear ht hh hg hsm hC hC1 hbW hb1' SP LB PR
    go_wp2_with fail
    refine bodyPost_ret (v := .agg #[.int .i64 k, .string ⟨#[]⟩, .bool false, .slice none 0 0]) (by simp [results, Tryd.results42, go_sem, c0, c1, c2, c3]) rfl ⟨by rw [HT.out]; rfl, ?_⟩
    iterate 4 (refine Below.setCell ?_ (by simp) _)
    exact hb1
end Go.Proofs.YtkdknfedieeenaaDoor
namespace Go.Proofs.YtkdknfedieeenaaDoor
open Go.RowKit
set_option linter.unusedVariables false

/-- The bytes are a name's. -/
def mayL (l : List UInt8) : Prop := (nameLabels l).isSome = true
/-- A name, a byte 0, and what stands behind it. -/
def IsCut (l n t : List UInt8) : Prop := mayL n ∧ l = n ++ 0 :: t
theorem mayL_wire {n : List UInt8} (h : mayL n) : ∃ ls, n = wire ls ∧ (∀ x ∈ ls, okLabel x = true) ∧ n.length ≤ 254 := by
  unfold mayL at h
  obtain ⟨ls, hl⟩ := Option.isSome_iff_exists.1 h
  have := (nameLabels_iff _ _).1 hl
  exact ⟨ls, this.2.1, this.2.2, this.1⟩
/-- A place at which labels begin, or the name ends, if the bytes begin with one. -/
def At (l : List UInt8) (p : Nat) : Prop := ∀ ls t, (∀ x ∈ ls, okLabel x = true) → l = wire ls ++ 0 :: t → ∃ k, k ≤ ls.length ∧ p = (wire (ls.take k)).length
theorem At.start (l : List UInt8) : At l 0 := fun ls t _ _ => ⟨0, Nat.zero_le _, by simp [wire]⟩
theorem at_head {l : List UInt8} {ls : List (List UInt8)} {t : List UInt8} (hl : l = wire ls ++ 0 :: t) (k : Nat) (hk : k ≤ ls.length) {p : Nat} (hp : p = (wire (ls.take k)).length) :
    l[p]? = (wire (ls.drop k) ++ 0 :: t)[0]? := by
  have h1 : l = wire (ls.take k) ++ (wire (ls.drop k) ++ 0 :: t) := by
    rw [← List.append_assoc, ← wire_append, List.take_append_drop]; exact hl
  rw [h1, hp, List.getElem?_append_right (Nat.le_refl _), Nat.sub_self]
theorem okLabel_len {x : List UInt8} (h : okLabel x = true) : 1 ≤ x.length ∧ x.length ≤ 63 := by
  simp only [okLabel, Bool.and_eq_true, decide_eq_true_eq] at h
  exact h.1
theorem ofNat_small (n : Nat) (h : n < 256) : (UInt8.ofNat n).toNat = n := by simp; omega
theorem at_more {l : List UInt8} {ls : List (List UInt8)} {t : List UInt8} (hok : ∀ x ∈ ls, okLabel x = true) (hl : l = wire ls ++ 0 :: t) (k : Nat) (hk : k ≤ ls.length) {p : Nat} (hp : p = (wire (ls.take k)).length) (c : UInt8) (hc : l[p]? = some c) :
    (k = ls.length ∧ c = 0) ∨ ∃ x, ls[k]? = some x ∧ c.toNat = x.length ∧ 1 ≤ x.length := by
  rw [at_head hl k hk hp] at hc
  rcases Nat.lt_or_ge k ls.length with h | h
  · right
    refine ⟨ls[k], List.getElem?_eq_getElem h, ?_⟩
    rw [List.drop_eq_getElem_cons h, wire_cons] at hc
    simp only [List.cons_append, List.getElem?_cons_zero, Option.some.injEq] at hc
    have h2 := okLabel_len (hok _ (List.getElem_mem h))
    rw [← hc, ofNat_small _ (by omega)]
    exact ⟨rfl, h2.1⟩
  · left
    rw [List.drop_eq_nil_of_le h] at hc
    simp [wire] at hc
    exact ⟨by omega, hc.symm⟩
theorem At.next {l : List UInt8} {p : Nat} (h : At l p) (c : UInt8) (hc : l[p]? = some c) (h0 : c ≠ 0) : At l (p + 1 + c.toNat) := by
  intro ls t hok hl
  obtain ⟨k, hk, hp⟩ := h ls t hok hl
  rcases at_more hok hl k hk hp c hc with ⟨_, h1⟩ | ⟨x, hx, hcx, _⟩
  · exact absurd h1 h0
  · have hlt := (List.getElem?_eq_some_iff.1 hx).1
    refine ⟨k + 1, by omega, ?_⟩
    have hx2 : ls[k] = x := (List.getElem?_eq_some_iff.1 hx).2
    rw [List.take_succ_eq_append_getElem hlt, wire_append, hx2, List.length_append, ← hp, hcx]
    simp [wire]; omega
theorem At.stop {l : List UInt8} {p : Nat} (h : At l p) (hc : l[p]? = some 0) (n t : List UInt8) (hn : IsCut l n t) : n = l.take p ∧ t = l.drop (p + 1) := by
  obtain ⟨ls, rfl, hok, _⟩ := mayL_wire hn.1
  obtain ⟨k, hk, hp⟩ := h ls t hok hn.2
  rcases at_more hok hn.2 k hk hp 0 hc with ⟨h1, _⟩ | ⟨x, hx, hcx, h1⟩
  · have h2 : ls.take k = ls := by rw [h1, List.take_length]
    rw [h2] at hp
    rw [hn.2, hp]
    constructor
    · simp
    · rw [List.drop_append, List.drop_eq_nil_of_le (by omega)]; simp
  · simp at hcx; omega
theorem At.over {l : List UInt8} {p : Nat} (h : At l p) (hp : l.length ≤ p) (n t : List UInt8) (hn : IsCut l n t) : False := by
  obtain ⟨ls, rfl, hok, _⟩ := mayL_wire hn.1
  obtain ⟨k, hk, hpk⟩ := h ls t hok hn.2
  have h1 : (wire ls).length = (wire (ls.take k)).length + (wire (ls.drop k)).length := by rw [← List.length_append, ← wire_append, List.take_append_drop]
  have h2 : l.length = (wire ls).length + (t.length + 1) := by rw [hn.2]; simp
  omega
theorem cut_here {l : List UInt8} {p : Nat} (hc : l[p]? = some 0) (hm : mayL (l.take p)) : IsCut l (l.take p) (l.drop (p + 1)) := by
  refine ⟨hm, ?_⟩
  obtain ⟨hp, hz⟩ := List.getElem?_eq_some_iff.1 hc
  conv => lhs; rw [← List.take_append_drop p l, List.drop_eq_getElem_cons hp, hz]
theorem At.one {l n t n' t' : List UInt8} (h : IsCut l n t) (h' : IsCut l n' t') : n = n' ∧ t = t' := by
  obtain ⟨ls, rfl, hok, _⟩ := mayL_wire h.1
  obtain ⟨ls', rfl, hok', _⟩ := mayL_wire h'.1
  suffices ∀ (a b : List (List UInt8)), (∀ x ∈ a, okLabel x = true) → (∀ x ∈ b, okLabel x = true) → wire a ++ 0 :: t = wire b ++ 0 :: t' → wire a = wire b ∧ t = t' from this _ _ hok hok' (h.2.symm.trans h'.2)
  intro a
  induction a with
  | nil =>
    intro b _ hb he
    cases b with
    | nil => simp [wire] at he; exact ⟨rfl, he⟩
    | cons y b =>
      have h1 := okLabel_len (hb y (by simp))
      rw [wire_cons] at he
      simp [wire] at he
      have h2 := congrArg UInt8.toNat he.1
      simp at h2; omega
  | cons x a ih =>
    intro b ha hb he
    have h1 := okLabel_len (ha x (by simp))
    cases b with
    | nil =>
      rw [wire_cons] at he
      simp [wire] at he
      have h2 := congrArg UInt8.toNat he.1
      simp at h2; omega
    | cons y b =>
      have h2 := okLabel_len (hb y (by simp))
      rw [wire_cons, wire_cons] at he
      simp only [List.cons_append, List.cons.injEq, List.append_assoc] at he
      have h3 := congrArg UInt8.toNat he.1
      rw [ofNat_small _ (by omega), ofNat_small _ (by omega)] at h3
      have h4 := List.append_inj he.2 h3
      obtain ⟨h5, h6⟩ := ih b (fun z hz => ha z (by simp [hz])) (fun z hz => hb z (by simp [hz])) h4.2
      rw [wire_cons, wire_cons, h5, h4.1]
      exact ⟨rfl, h6⟩
/-- The data of an SOA: two names, and twenty bytes. -/
def IsSoa (l a b t : List UInt8) : Prop := IsCut l a (b ++ 0 :: t) ∧ mayL b ∧ t.length = 20
theorem IsSoa.one {l a b t a' b' t' : List UInt8} (h : IsSoa l a b t) (h' : IsSoa l a' b' t') : a = a' ∧ b = b' ∧ t = t' := by
  obtain ⟨h1, h2⟩ := At.one h.1 h'.1
  obtain ⟨h3, h4⟩ := At.one (l := b ++ 0 :: t) ⟨h.2.1, rfl⟩ ⟨h'.2.1, h2⟩
  exact ⟨h1, h3, h4⟩
end Go.Proofs.YtkdknfedieeenaaDoor
namespace Go.Proofs.YtkdknfedieeenaaDoor
open Go.RowKit
set_option linter.unusedVariables false
theorem nameZ_may (zs : List Int) (hz : ∀ z ∈ zs, 0 ≤ z ∧ z < 256) : mayL (nameZ zs) := by
  have h := few_labels (wordsZ_ok zs hz) (wordsZ_len zs)
  unfold mayL
  unfold labelsOf at h
  rw [show (ByteArray.mk (wire (wordsZ zs)).toArray).data.toList = wire (wordsZ zs) by simp] at h
  unfold nameZ
  rw [h]; rfl
theorem nameZ_len (zs : List Int) (hz : ∀ z ∈ zs, 0 ≤ z ∧ z < 256) : (nameZ zs).length ≤ 84 := by
  have := few_wire (wordsZ zs) (fun x hx => (wordsZ_ok zs hz x hx).2.2)
  have h2 := wordsZ_len zs
  unfold nameZ; omega
end Go.Proofs.YtkdknfedieeenaaDoor
namespace Go.Proofs.YtkdknfedieeenaaDoor
open Go.RowKit
set_option linter.unusedVariables false
set_option maxRecDepth 20000

/-- An action without records. -/
def act3 (k : Int) (s : ByteArray) (b : Bool) : Value := .agg #[.int .i64 k, .string s, .bool b, .slice none 0 0]
theorem clone_recs_nil (w : World) : Calls Tryd.prog 43 #[.slice none 0 0] w fun e w' => e = .returned (.slice none 0 0) ∧ w = w' := by
  have hq := fun w => Lib.run_eql_slice_nil (P := Tryd.prog) w 48 _ none 0 0 0 0 Tryd.underlying48
  go_enter Tryd.func43, Tryd.ntmps43
  go_wp2_with fail
  go_ret
  exact ⟨rfl, rfl⟩
def overK (k : Int) : Bool := decide (1 ≤ k ∧ k ≤ 6)
set_option maxHeartbeats 1600000 in
theorem over_any (k0 : Int) (s : ByteArray) (b : Bool) (k : Int) (w : World) : Calls Tryd.prog 34 #[act3 k0 s b, .int .i64 k] w fun e w' => e = .returned (if overK k then act3 k ⟨#[]⟩ false else act3 k0 s b) ∧ Below w.heap.size w w' := by
  have CL := Lib.hid (fun w => clone_recs_nil w)
  have h : k = 1 ∨ k = 2 ∨ k = 3 ∨ k = 4 ∨ k = 5 ∨ k = 6 ∨ (k < 1 ∨ 6 < k) := by omega
  unfold act3
  rcases h with rfl | rfl | rfl | rfl | rfl | rfl | h
  iterate 6
    (· rw [show ∀ x y : Value, (if overK _ = true then x else y) = x from fun _ _ => rfl]
       go_enter Tryd.func34, Tryd.ntmps34
       go_wp2_with fail
       refine bodyPost_ret (v := .agg #[.int .i64 _, .string ⟨#[]⟩, .bool false, .slice none 0 0]) (by simp [results, Tryd.results34, go_sem]) rfl ⟨rfl, ?_⟩
       exact ((Below.refl _ _).alloc (Nat.le_refl _) _).alloc (by simp) _)
  · have ho : overK k = false := by unfold overK; simp; omega
    rw [ho]
    have h1 : (k == 1) = false := by simp; omega
    have h2 : (k == 2) = false := by simp; omega
    have h3 : (k == 3) = false := by simp; omega
    have h4 : (k == 4) = false := by simp; omega
    have h5 : (k == 5) = false := by simp; omega
    have h6 : (k == 6) = false := by simp; omega
    clear h ho
    go_enter Tryd.func34, Tryd.ntmps34
    go_wp2_with fail
    refine (CL.out _).mono ?_
    rintro e w1 ⟨rfl, rfl⟩
    go_wp2_with fail
    refine bodyPost_ret (v := .agg #[.int .i64 k0, .string s, .bool b, .slice none 0 0]) (by simp [results, Tryd.results34, go_sem]) rfl ⟨rfl, ?_⟩
    repeat (first | exact ((Below.refl _ _).alloc (Nat.le_refl _) _).alloc (by simp) _ | refine Below.setCell ?_ (by simp) _)
set_option maxHeartbeats 1600000 in
theorem of_cname (g c : Nat) (nm d : ByteArray) (ttl : Int) (w : World) (hC : Cs w g [.string nm, .int .u16 5, .int .u32 ttl, .string d]) (hd : d.size ≤ 140737488355328) :
    Calls Tryd.prog 32 #[.slice (some ⟨g, 0, none⟩) 1 c] w fun e w' => e = .returned (.tuple #[actV (tgtOf d), .bool true]) ∧ Below w.heap.size w w' := by
  have OT := Lib.hid (fun w => ofTarget_any d w hd)
  have hD := Cs.new w #[.int .i64 0, .string ⟨#[]⟩, .bool false, .slice none 0 0] 50 [.int .i64 0, .string ⟨#[]⟩, .bool false, .slice none 0 0]
  have hlt := hC.lt
  have c1 := hC.get 1 _
  have c3 := hC.get 3 _
  obtain ⟨k, s, b, hv⟩ : ∃ k s b, actV (tgtOf d) = .agg #[.int .i64 k, .string s, .bool b, .slice none 0 0] := ⟨_, _, _, rfl⟩
  rw [hv] at OT
  have HV := Lib.hid hv
  clear hv hC
  go_enter Tryd.func32, Tryd.ntmps32
  go_wp2_with fail
  refine (OT.out _).mono ?_
  rintro e w1 ⟨rfl, hb1'⟩
  have hD1 := hD.below hb1'
  have hb1 := below_alloc _ (Below.refl _ _) (Nat.le_refl _) hb1'
  have d0 := hD1.get 0 _
  have d1 := hD1.get 1 _
  have d2 := hD1.get 2 _
  have d3 := hD1.get 3 _
  have f0 := hD1.froz 0
  have f1 := hD1.froz 1
  have f2 := hD1.froz 2
  have f3 := hD1.froz 3
  clear hD hD1 hb1' c1 c3 hlt
  go_wp2_with fail
  refine bodyPost_ret (v := .tuple #[.agg #[.int .i64 k, .string s, .bool b, .slice none 0 0], .bool true]) (by simp [results, Tryd.results32, go_sem, d0, d1, d2, d3]) rfl ⟨by rw [HV.out], ?_⟩
  iterate 4 (refine Below.setCell ?_ (by simp) _)
  exact hb1
end Go.Proofs.YtkdknfedieeenaaDoor
namespace Go.Proofs.YtkdknfedieeenaaDoor
open Go.RowKit
set_option linter.unusedVariables false
set_option maxRecDepth 20000

theorem actV_act3 (k : Int) (s : ByteArray) (b : Bool) : actV (k, s, b) = act3 k s b := rfl
end Go.Proofs.YtkdknfedieeenaaDoor
namespace Go.Proofs.YtkdknfedieeenaaDoor
open Go.RowKit
set_option linter.unusedVariables false
set_option maxRecDepth 20000

/-- P14.1's reading of a CNAME's target. -/
def ofL (s : ByteArray) (ls : List (List UInt8)) : Int × ByteArray × Bool :=
  match ls with
  | [] => (4, ⟨#[]⟩, false)
  | [l] => if l = [42] then (5, ⟨#[]⟩, false) else if l = [114, 112, 122, 45, 112, 97, 115, 115, 116, 104, 114, 117] then (2, ⟨#[]⟩, false) else if l = [114, 112, 122, 45, 100, 114, 111, 112] then (3, ⟨#[]⟩, false)
    else if l = [114, 112, 122, 45, 116, 99, 112, 45, 111, 110, 108, 121] then (6, ⟨#[]⟩, false) else (7, s, false)
  | l :: m :: ls => if l = [42] then (7, ⟨(wire (m :: ls)).toArray⟩, true) else (7, s, false)
theorem lbl_other (l : List UInt8) (k : List UInt8) (h : l ≠ k) : ((ByteArray.mk l.toArray).toList == k) = false := by rw [str_is, mk_toList']; simpa using h
theorem lbl_same (l : List UInt8) : ((ByteArray.mk l.toArray).toList == l) = true := by rw [str_is, mk_toList']; simp
theorem okLabel_fold {x : List UInt8} (h : okLabel x = true) : x.map fold8 = x := by
  simp only [okLabel, Bool.and_eq_true, List.all_eq_true] at h
  have : x.map fold8 = x.map id := List.map_congr_left fun c hc => by
    have := h.2 c hc
    unfold fold8
    rw [if_neg (by simpa using this)]; rfl
  rw [this, List.map_id]
theorem ok_make {ls : List (List UInt8)} (h : ∀ x ∈ ls, okLabel x = true) (hl : (wire ls).length ≤ 254) : makeL ls = some (wire ls) := by
  have hlow : lowL ls = ls := by
    unfold lowL
    have : ls.map (·.map fold8) = ls.map id := List.map_congr_left fun x hx => okLabel_fold (h x hx)
    rw [this, List.map_id]
  unfold makeL
  rw [hlow, if_pos ⟨List.all_eq_true.2 fun x hx => by have := okLabel_len (h x hx); unfold okLen; simpa using this, hl⟩]
theorem ok_make_any {ls : List (List UInt8)} (h : ∀ x ∈ ls, okLabel x = true) (hl : (wire ls).length ≤ 254) (A : Option Addr) (n c : Nat) (w : World) (hA : Sl w w.heap.size 1 A n (ls.map sv)) (hn : n ≤ maxLen) :
    Calls Tryd.prog 11 #[.slice A n c] w fun e w' => e = .returned (.tuple #[sv (wire ls), .bool true]) ∧ Below w.heap.size w w' := by
  have hv : ls.map sv = (ls.map fun l => (⟨l.toArray⟩ : ByteArray)).map Value.string := by simp [sv, Function.comp_def]
  rw [hv] at hA
  have hb : bytesOf (ls.map fun l => (⟨l.toArray⟩ : ByteArray)) = ls := by unfold bytesOf; simp [Function.comp_def]
  have hm : makeOf (ls.map fun l => (⟨l.toArray⟩ : ByteArray)) = some (wire ls) := by unfold makeOf; rw [hb]; exact ok_make h hl
  refine (make_any A n c _ w hA (by
    intro t ht
    obtain ⟨l, hl', rfl⟩ := List.mem_map.1 ht
    have := okLabel_len (h l hl')
    rw [mk_size]; unfold maxLen; omega) hn).mono ?_
  rintro e w' ⟨rfl, hb'⟩
  refine ⟨?_, hb'⟩
  unfold nameOf
  rw [hm]; rfl
end Go.Proofs.YtkdknfedieeenaaDoor
namespace Go.Proofs.YtkdknfedieeenaaDoor
open Go.RowKit
set_option linter.unusedVariables false
set_option linter.unusedSimpArgs false
set_option maxRecDepth 20000
/-- An action: what it does, its target, wild or not, its records. -/
abbrev ActionT := Int × ByteArray × Bool × List RecT
def actEq (a a' : ActionT) : Bool := decide (a.1 = a'.1) && (decide (a.2.1 = a'.2.1) && (decide (a.2.2.1 = a'.2.2.1) && decide (a.2.2.2 = a'.2.2.2)))
theorem actEq_iff (a a' : ActionT) : actEq a a' = true ↔ a = a' := by
  obtain ⟨k, s, b, rs⟩ := a
  obtain ⟨k', s', b', rs'⟩ := a'
  unfold actEq
  simp [Prod.ext_iff]
theorem actEq_self (a : ActionT) : actEq a a = true := (actEq_iff a a).2 rfl
theorem actEq_ne {a a' : ActionT} (h : a ≠ a') : actEq a a' = false := by
  cases e : actEq a a' with
  | false => rfl
  | true => exact absurd ((actEq_iff _ _).1 e) h
def actionV (k : Int) (s : ByteArray) (b : Bool) (A : Option Addr) (n c : Nat) : Value := .agg #[.int .i64 k, .string s, .bool b, .slice A n c]
theorem str_eq_of {s t : ByteArray} (h : (s.toList == t.toList) = true) : s = t := by
  have := eq_of_beq h; rw [ByteArray.toList_eq, ByteArray.toList_eq] at this; exact ByteArray.ext (Array.ext' this)
theorem str_ne_of {s t : ByteArray} (h : (s.toList == t.toList) = false) : s ≠ t := by rintro rfl; simp at h
end Go.Proofs.YtkdknfedieeenaaDoor
namespace Go.Proofs.YtkdknfedieeenaaDoor
open Go.RowKit
set_option linter.unusedVariables false
set_option linter.unusedSimpArgs false
set_option maxRecDepth 20000
/-- A type that no local data have. -/
def badT (r : RecT) : Bool := r.2.1 == 6 || (r.2.1 == 2 || r.2.1 == 5)
def zeroA : Value := .agg #[.int .i64 0, .string ⟨#[]⟩, .bool false, .slice none 0 0]
/-- What is known of the records when Of is called. -/
structure Rows4 (w : World) (A : Option Addr) (c : Nat) (rs : List RecT) : Prop where
  sl : Sl w w.heap.size 4 A rs.length (flatR rs)
  none_ : A = none → rs.length = 0 ∧ c = 0
  few : rs.length ≤ 1000
theorem Rows4.recs {w : World} {A : Option Addr} {c : Nat} {rs : List RecT} (h : Rows4 w A c rs) : Recs w A rs := h.sl.recs (Nat.le_refl _) rfl
theorem Rows4.below {w w' : World} {A : Option Addr} {c : Nat} {rs : List RecT} (h : Rows4 w A c rs) (hb : Below w.heap.size w w') : Rows4 w' A c rs := ⟨(h.sl.below hb).more hb.size, h.none_, h.few⟩
theorem of_none (c : Nat) (A : Option Addr) (w : World) : Calls Tryd.prog 32 #[.slice A 0 c] w fun e w' => e = .returned (.tuple #[zeroA, .bool false]) ∧ Below w.heap.size w w' := by
  go_enter Tryd.func32, Tryd.ntmps32
  go_wp2_with fail
  refine bodyPost_ret (v := .tuple #[.agg #[.int .i64 0, .string ⟨#[]⟩, .bool false, .slice none 0 0], .bool false]) (by simp [results, Tryd.results32, go_sem]) rfl ⟨by unfold zeroA; rfl, ?_⟩
  exact (Below.refl _ _).alloc (Nat.le_refl _) _
/-- What Of tells of records that are some, and no CNAME alone. -/
def OfMore (w : World) (rs : List RecT) (e : Ending) (w' : World) : Prop := (rs.any badT = true ∧ e = .returned (.tuple #[zeroA, .bool false]) ∧ Below w.heap.size w w') ∨
      (rs.any badT = false ∧ ∃ v, e = .returned (.tuple #[.agg #[.int .i64 8, .string ⟨#[]⟩, .bool false, v], .bool true]) ∧ OBM 4 w.heap.size w v rs.length (flatR rs) w')
set_option maxHeartbeats 3200000 in
theorem of_more (A : Option Addr) (c : Nat) (rs : List RecT) (w : World) (h : Rows4 w A c rs) (hne : rs ≠ []) (h1 : ∀ r, rs = [r] → ¬ r.2.1 = 5) :
    Calls Tryd.prog 32 #[.slice A rs.length c] w (OfMore w rs) := by
  have hpos : 0 < rs.length := List.length_pos_iff.2 hne
  have hposi : (0 : Int) < rs.length := by omega
  have hfew := h.few
  have hfi : (rs.length : Int) ≤ 1000 := by omega
  obtain ⟨W, hW⟩ : ∃ W, W = w.alloc (.cells #[.int .i64 0, .string ⟨#[]⟩, .bool false, .slice none 0 0] 50) := ⟨_, rfl⟩
  have hD : Cs W w.heap.size [.int .i64 0, .string ⟨#[]⟩, .bool false, .slice none 0 0] := by rw [hW]; exact Cs.new w _ _ _
  have hbW : Below w.heap.size w W := by rw [hW]; exact (Below.refl _ _).alloc (Nat.le_refl _) _
  obtain ⟨g, hg⟩ : ∃ g, g = w.heap.size := ⟨_, rfl⟩
  have CL := Lib.hid (fun w (h : Rows4 w A c rs) => clone_recs A rs.length c (flatR rs) w w.heap.size h.sl (flatR_one rs) h.none_ (by omega))
  have H := Lib.hid h
  have H1 := Lib.hid h1
  have HW := Lib.hid hW
  have HD := Lib.hid hD
  have HBW := Lib.hid hbW
  have HG := Lib.hid hg
  clear h h1 hW hD hbW hg hne
  obtain ⟨r0, hr0⟩ : ∃ r, rs[0]? = some r := ⟨_, List.getElem?_eq_getElem hpos⟩
  obtain ⟨b, off, rfl, hb, z0, z1, z2, z3⟩ := (H.out).recs 0 _ hr0
  simp only [Nat.zero_mul, Nat.add_zero] at z0 z1 z2 z3
  have HR0 := Lib.hid hr0
  obtain ⟨N, hN⟩ : ∃ N, rs.length = N := ⟨_, rfl⟩
  have HT : Hid (N = 1 → ¬ r0.2.1 = 5) := Lib.hid (by
    intro h1
    have : rs = [r0] := by
      match rs, hr0, hN with
      | [a], h, _ => simp at h; rw [h]
      | [], h, _ => simp at h
      | a :: b :: l, h, h2 => simp at h2; omega
    exact H1.out r0 this)
  rw [hN] at CL hpos hposi hfew hfi ⊢
  have HN := Lib.hid hN
  clear hr0 hN H1
  have hl0 : ((N : Int) == 0) = false := by simp; omega
  go_enter Tryd.func32, Tryd.ntmps32
  by_cases hl1 : N = 1
  all_goals
    first
    | (subst hl1
       have ht := HT.out rfl
       have ht5 : (r0.2.1 == 5) = false := by simpa using ht
       clear ht
       obtain ⟨N, hNN⟩ : ∃ N : Nat, N = 1 := ⟨1, rfl⟩
       have HNN := Lib.hid hNN
       clear hNN
       go_wp2_with fail)
    | (have hli : ((N : Int) == 1) = false := (by simp; omega)
       have HNN : Hid (N = N) := Lib.hid rfl
       go_wp2_with fail)
  all_goals
    rw [← HW.out]
    have HZ := Lib.hid z1
    clear z0 z1 z2 z3 hb
    go_loopw [27] (fun i wr => ∃ k : Nat, k ≤ N ∧ i = .int .i64 k ∧ Hid (∀ r ∈ rs.take k, badT r = false) ∧ Hid (Below W.heap.size W wr)) (fun i _ => N - (intOf i).toNat)
    case atStart => exact ⟨0, Nat.zero_le _, rfl, Lib.hid (by simp), Lib.hid (Below.refl _ _)⟩
    case round =>
      obtain ⟨k, hk, rfl, HK, HB⟩ := hrel
      have HBw := Lib.hid (below_trans HBW.out HBW.out.size HB.out)
      by_cases hlt : k < N
      · have hlt' : (k : Int) < N := by omega
        try (have hlt1 : (k : Int) < 1 := by have := HNN.out; omega)
        obtain ⟨r, hr⟩ : ∃ r, rs[k]? = some r := ⟨_, List.getElem?_eq_getElem (by have a1 := HN.out; have a2 := HNN.out; omega)⟩
        obtain ⟨b', off', he, hb, z0, z1, z2, z3⟩ := (H.out.below HBw.out).recs k _ hr
        injection he with he
        injection he with he1 he2
        subst he1 he2
        have HR := Lib.hid hr
        clear hr
        have hD := HD.out.below HB.out
        have d0 := hD.get 0 _
        have d1 := hD.get 1 _
        have d2 := hD.get 2 _
        have d3 := hD.get 3 _
        have f0 := hD.froz 0
        have f1 := hD.froz 1
        have f2 := hD.froz 2
        have f3 := hD.froz 3
        have hg := hD.lt
        clear hD
        cases e6 : (r.2.1 == 6) with
        | true =>
          have HBad := Lib.hid (show badT r = true by unfold badT; rw [e6]; rfl)
          go_wp2_with fail
          refine bodyPost_ret (v := .tuple #[.agg #[.int .i64 0, .string ⟨#[]⟩, .bool false, .slice none 0 0], .bool false]) (by simp [results, Tryd.results32, go_sem, d0, d1, d2, d3, hg]) rfl (.inl ⟨List.any_eq_true.2 ⟨r, List.mem_of_getElem? HR.out, HBad.out⟩, by unfold zeroA; rfl, ?_⟩)
          refine Below.alloc ?_ (by simpa using HBw.out.size) _
          iterate 4 (refine Below.setCell ?_ (by simp) _)
          exact HBw.out
        | false =>
          cases e2 : (r.2.1 == 2) with
          | true =>
            have HBad := Lib.hid (show badT r = true by unfold badT; rw [e6, e2]; rfl)
            go_wp2_with fail
            refine bodyPost_ret (v := .tuple #[.agg #[.int .i64 0, .string ⟨#[]⟩, .bool false, .slice none 0 0], .bool false]) (by simp [results, Tryd.results32, go_sem, d0, d1, d2, d3, hg]) rfl (.inl ⟨List.any_eq_true.2 ⟨r, List.mem_of_getElem? HR.out, HBad.out⟩, by unfold zeroA; rfl, ?_⟩)
            refine Below.alloc ?_ (by simpa using HBw.out.size) _
            iterate 4 (refine Below.setCell ?_ (by simp) _)
            exact HBw.out
          | false =>
            cases e5 : (r.2.1 == 5) with
            | true =>
              have HBad := Lib.hid (show badT r = true by unfold badT; rw [e6, e2, e5]; rfl)
              go_wp2_with fail
              refine bodyPost_ret (v := .tuple #[.agg #[.int .i64 0, .string ⟨#[]⟩, .bool false, .slice none 0 0], .bool false]) (by simp [results, Tryd.results32, go_sem, d0, d1, d2, d3, hg]) rfl (.inl ⟨List.any_eq_true.2 ⟨r, List.mem_of_getElem? HR.out, HBad.out⟩, by unfold zeroA; rfl, ?_⟩)
              refine Below.alloc ?_ (by simpa using HBw.out.size) _
              iterate 4 (refine Below.setCell ?_ (by simp) _)
              exact HBw.out
            | false =>
              have HBad := Lib.hid (show badT r = false by unfold badT; rw [e6, e2, e5]; rfl)
              go_wp2_with fail
              go_round
              case rel => exact ⟨k + 1, by omega, by go_num, Lib.hid (by rw [List.take_add_one, HR.out]; intro q hq; exact (List.mem_append.1 hq).elim (fun hq => HK.out q hq) (fun hq => by simp at hq; rw [hq]; exact HBad.out)), Lib.hid (HB.out.alloc HB.out.size _)⟩
              case measure => simp [intOf]; omega
      · have hlt' : ¬ (k : Int) < N := by omega
        have hlt1 : ¬ (k : Int) < 1 := by have := HNN.out; omega
        go_wp2_with fail
        refine (CL.out _ (H.out.below HBw.out)).mono ?_
        rintro e w2 ⟨v, rfl, ho⟩
        have hbel := ho.bel
        have hno : Hid (rs.any badT = false) := Lib.hid (by
          have h := HK.out
          rw [List.take_of_length_le (by have a1 := HN.out; have a2 := HNN.out; omega)] at h
          cases e : rs.any badT with
          | false => rfl
          | true =>
            obtain ⟨q, hq, hqb⟩ := List.any_eq_true.1 e
            rw [h q hq] at hqb; cases hqb)
        have hD := (HD.out.below HB.out).below hbel
        have d0 := hD.get 0 _
        have d1 := hD.get 1 _
        have d2 := hD.get 2 _
        have d3 := hD.get 3 _
        have f0 := hD.froz 0
        have f1 := hD.froz 1
        have f2 := hD.froz 2
        have f3 := hD.froz 3
        have hg := hD.lt
        have HNE : Hid (∀ q, v.ownBlock = some q → q ≠ w.heap.size) := Lib.hid (by
          intro q hq
          have h1 := (ho.lt q hq).1
          have h2 := (HD.out.below HB.out).lt
          omega)
        obtain ⟨A', c', rfl, hA3⟩ := ho.slice3
        have HO := Lib.hid (ho.out HBw.out.size HBw.out)
        clear hD hbel hA3 ho
        go_wp2_with fail
        refine bodyPost_ret (v := .tuple #[.agg #[.int .i64 8, .string ⟨#[]⟩, .bool false, .slice A' N c'], .bool true]) (by simp [results, Tryd.results32, go_sem, d0, d1, d2, d3, hg, HNN.out]) rfl (.inr ⟨hno.out, _, rfl, ?_⟩)
        rw [HN.out]
        have hNN := HNN.out
        try rw [hNN]
        refine HO.out.block ?_ (by first | exact Nat.le_refl _ | simp) (fun q hq => ?_)
        · iterate 4 (refine Below.setCell ?_ (by simp) _)
          exact HO.out.bel
        · have hne : q ≠ w.heap.size := HNE.out q hq
          rw [Below.heap_setCell _ _ _ _ hne, Below.heap_setCell _ _ _ _ hne, Below.heap_setCell _ _ _ _ hne, Below.heap_setCell _ _ _ _ hne]

end Go.Proofs.YtkdknfedieeenaaDoor
namespace Go.Proofs.YtkdknfedieeenaaDoor
open Go.RowKit
set_option linter.unusedVariables false
set_option maxRecDepth 20000
theorem nmB_labels (l : List UInt8) : ∃ LS, labelsOf (nmB l) = some LS ∧ (nmB l).size ≤ 254 := by
  refine ⟨wordsZ (intsB l), ?_, ?_⟩
  · unfold nmB nameZ
    exact few_labels (wordsZ_ok _ (intsB_ok l)) (wordsZ_len _)
  · unfold nmB
    have := nameZ_le (intsB l) (intsB_ok l)
    simpa [ByteArray.size] using this
theorem dataOf_cname (q : Nat) (X s : ByteArray) (h : ((dataOf q X s).1 : Int) = 5) : (dataOf q X s).2 = X := by
  unfold dataOf at h ⊢
  by_cases c0 : q = 0 ∨ q = 1
  · rw [if_pos c0] at h; simp at h
  rw [if_neg c0] at h ⊢
  by_cases c2 : q = 2
  · rw [if_pos c2]
  rw [if_neg c2] at h ⊢
  by_cases c3 : q = 3
  · rw [if_pos c3]
  rw [if_neg c3] at h ⊢
  by_cases c4 : q = 4
  · rw [if_pos c4] at h; simp at h
  rw [if_neg c4] at h ⊢
  by_cases c5 : q = 5
  · rw [if_pos c5] at h; simp at h
  rw [if_neg c5] at h ⊢
  by_cases c6 : q = 6
  · rw [if_pos c6] at h; simp at h
  rw [if_neg c6] at h; simp at h
theorem dataOf_le (q : Nat) (X s : ByteArray) (hX : X.size ≤ 254) (hs : s.size ≤ 30) : (dataOf q X s).2.size ≤ 600 := by
  have k1 : (ByteArray.mk #[0]).size = 1 := rfl
  have k2 : (ByteArray.mk #[UInt8.ofNat s.size]).size = 1 := rfl
  unfold dataOf
  by_cases c0 : q = 0 ∨ q = 1
  · rw [if_pos c0]; simp only [ByteArray.size_extract]; omega
  rw [if_neg c0]
  by_cases c2 : q = 2
  · rw [if_pos c2]; simp only; omega
  rw [if_neg c2]
  by_cases c3 : q = 3
  · rw [if_pos c3]; simp only; omega
  rw [if_neg c3]
  by_cases c4 : q = 4
  · rw [if_pos c4]; simp only [ByteArray.size_append, ByteArray.size_extract, k1]; omega
  rw [if_neg c4]
  by_cases c5 : q = 5
  · rw [if_pos c5]; simp only [ByteArray.size_append, ByteArray.size_extract, k2]; omega
  rw [if_neg c5]
  by_cases c6 : q = 6
  · rw [if_pos c6]; simp only [ByteArray.size_extract]; omega
  rw [if_neg c6]; simp only [ByteArray.size_extract]; omega
theorem txtB_le (s : ByteArray) : (txtB s).size ≤ 30 := by unfold txtB; rw [ByteArray.size_extract]; omega
theorem recOf_data (a : ActT) : (recOf a).2.2.2.size ≤ 600 := by
  obtain ⟨_, -, h⟩ := nmB_labels a.2.2.2.1.2.2.2
  exact dataOf_le _ _ _ h (txtB_le _)
theorem rec_cname (a : ActT) (h : (recOf a).2.1 = 5) : ∃ LS, labelsOf (recOf a).2.2.2 = some LS ∧ (recOf a).2.2.2.size ≤ 254 := by
  have h1 := dataOf_cname _ _ _ h
  have : (recOf a).2.2.2 = nmB a.2.2.2.1.2.2.2 := h1
  rw [this]
  exact nmB_labels _
theorem recOf_name (a : ActT) : (recOf a).1.size ≤ 254 := (nmB_labels a.1.2.2.2).choose_spec.2
end Go.Proofs.YtkdknfedieeenaaDoor
namespace Go.Proofs.YtkdknfedieeenaaDoor
open Go.RowKit
set_option linter.unusedVariables false
set_option maxRecDepth 20000
theorem spec_label (s : ByteArray) (l : List UInt8) (h : s = ⟨(wire [l]).toArray⟩) (LS : List (List UInt8)) (hlo : labelsOf s = some LS) (hl : labelsOf ⟨(wire [l]).toArray⟩ = some [l]) : LS = [l] := by
  rw [h, hl] at hlo; injection hlo with hlo; exact hlo.symm
theorem tgt_ofL (s : ByteArray) (LS : List (List UInt8)) (hlo : labelsOf s = some LS) : tgtOf s = ofL s LS := by
  have hw := (nameLabels_iff _ _).1 hlo
  by_cases e1 : s = ⟨#[]⟩
  · have : LS = [] := by rw [e1] at hlo; have h0 : labelsOf ⟨#[]⟩ = some [] := by decide
                         rw [h0] at hlo; injection hlo with hlo; exact hlo.symm
    subst this e1; decide
  by_cases e2 : s = ⟨#[1, 42]⟩
  · have : LS = [[42]] := by rw [e2] at hlo; have h0 : labelsOf ⟨#[1, 42]⟩ = some [[42]] := by decide
                             rw [h0] at hlo; injection hlo with hlo; exact hlo.symm
    subst this e2; decide +kernel
  by_cases e3 : s = ⟨#[12, 114, 112, 122, 45, 112, 97, 115, 115, 116, 104, 114, 117]⟩
  · have : LS = [[114, 112, 122, 45, 112, 97, 115, 115, 116, 104, 114, 117]] := by
      rw [e3] at hlo
      have h0 : labelsOf ⟨#[12, 114, 112, 122, 45, 112, 97, 115, 115, 116, 104, 114, 117]⟩ = some [[114, 112, 122, 45, 112, 97, 115, 115, 116, 104, 114, 117]] := by decide +kernel
      rw [h0] at hlo; injection hlo with hlo; exact hlo.symm
    subst this e3; decide +kernel
  by_cases e4 : s = ⟨#[8, 114, 112, 122, 45, 100, 114, 111, 112]⟩
  · have : LS = [[114, 112, 122, 45, 100, 114, 111, 112]] := by
      rw [e4] at hlo
      have h0 : labelsOf ⟨#[8, 114, 112, 122, 45, 100, 114, 111, 112]⟩ = some [[114, 112, 122, 45, 100, 114, 111, 112]] := by decide +kernel
      rw [h0] at hlo; injection hlo with hlo; exact hlo.symm
    subst this e4; decide +kernel
  by_cases e5 : s = ⟨#[12, 114, 112, 122, 45, 116, 99, 112, 45, 111, 110, 108, 121]⟩
  · have : LS = [[114, 112, 122, 45, 116, 99, 112, 45, 111, 110, 108, 121]] := by
      rw [e5] at hlo
      have h0 : labelsOf ⟨#[12, 114, 112, 122, 45, 116, 99, 112, 45, 111, 110, 108, 121]⟩ = some [[114, 112, 122, 45, 116, 99, 112, 45, 111, 110, 108, 121]] := by decide +kernel
      rw [h0] at hlo; injection hlo with hlo; exact hlo.symm
    subst this e5; decide +kernel
  have ne : ∀ t : ByteArray, s ≠ t → (s.data.toList == t.data.toList) = false := by
    intro t h
    rw [beq_eq_false_iff_ne]
    intro e
    exact h (ByteArray.ext (Array.ext' e))
  have hg : smGet specL s = none := by
    unfold smGet specL
    simp only [List.find?_cons, List.find?_nil, ne _ e1, ne _ e2, ne _ e3, ne _ e4, ne _ e5, Option.map_none]
  have ws : ∀ l, LS = [l] → s = ⟨(wire [l]).toArray⟩ := by
    rintro l rfl
    exact ByteArray.ext (Array.ext' (by simpa using hw.2.1))
  unfold tgtOf
  rw [hg, hlo]
  match LS, ws, hw, hlo with
  | [], _, hw, _ =>
    exact absurd (ByteArray.ext (Array.ext' (by simpa [wire] using hw.2.1))) e1
  | [l], ws, _, _ =>
    have hs := ws l rfl
    have n1 : l ≠ [42] := by rintro rfl; exact e2 hs
    have n2 : l ≠ [114, 112, 122, 45, 112, 97, 115, 115, 116, 104, 114, 117] := by rintro rfl; exact e3 hs
    have n3 : l ≠ [114, 112, 122, 45, 100, 114, 111, 112] := by rintro rfl; exact e4 hs
    have n4 : l ≠ [114, 112, 122, 45, 116, 99, 112, 45, 111, 110, 108, 121] := by rintro rfl; exact e5 hs
    simp only [ofL, n1, n2, n3, n4, if_false]
  | l :: m :: ls, _, _, _ => simp only [ofL]
end Go.Proofs.YtkdknfedieeenaaDoor
namespace Go.Proofs.YtkdknfedieeenaaDoor
open Go.RowKit
set_option linter.unusedVariables false
set_option maxRecDepth 20000
set_option maxHeartbeats 1600000 in
theorem of_cname2 (g off c : Nat) (d : ByteArray) (w : World) (hlt : g < w.heap.size) (c1 : w.cell? ⟨g, off + 1, none⟩ = some (.int .u16 5)) (c3 : w.cell? ⟨g, off + 3, none⟩ = some (.string d)) (hd : d.size ≤ 140737488355328) :
    Calls Tryd.prog 32 #[.slice (some ⟨g, off, none⟩) 1 c] w fun e w' => e = .returned (.tuple #[actV (tgtOf d), .bool true]) ∧ Below w.heap.size w w' := by
  have OT := Lib.hid (fun w => ofTarget_any d w hd)
  have hD := Cs.new w #[.int .i64 0, .string ⟨#[]⟩, .bool false, .slice none 0 0] 50 [.int .i64 0, .string ⟨#[]⟩, .bool false, .slice none 0 0]
  obtain ⟨k, s, b, hv⟩ : ∃ k s b, actV (tgtOf d) = .agg #[.int .i64 k, .string s, .bool b, .slice none 0 0] := ⟨_, _, _, rfl⟩
  rw [hv] at OT
  have HV := Lib.hid hv
  clear hv
  go_enter Tryd.func32, Tryd.ntmps32
  go_wp2_with fail
  refine (OT.out _).mono ?_
  rintro e w1 ⟨rfl, hb1'⟩
  have hD1 := hD.below hb1'
  have hb1 := below_alloc _ (Below.refl _ _) (Nat.le_refl _) hb1'
  have d0 := hD1.get 0 _
  have d1 := hD1.get 1 _
  have d2 := hD1.get 2 _
  have d3 := hD1.get 3 _
  have f0 := hD1.froz 0
  have f1 := hD1.froz 1
  have f2 := hD1.froz 2
  have f3 := hD1.froz 3
  clear hD hD1 hb1' c1 c3 hlt
  go_wp2_with fail
  refine bodyPost_ret (v := .tuple #[.agg #[.int .i64 k, .string s, .bool b, .slice none 0 0], .bool true]) (by simp [results, Tryd.results32, go_sem, d0, d1, d2, d3]) rfl ⟨by rw [HV.out], ?_⟩
  iterate 4 (refine Below.setCell ?_ (by simp) _)
  exact hb1
/-- What Of tells. -/
def OfAll (w : World) (rs : List RecT) (e : Ending) (w' : World) : Prop :=
  ∃ (k : Int) (s : ByteArray) (b : Bool) (A : Option Addr) (n c : Nat) (is : Bool), e = .returned (.tuple #[.agg #[.int .i64 k, .string s, .bool b, .slice A n c], .bool is]) ∧ Below w.heap.size w w' ∧
    ((is = false ∧ k = 0 ∧ s = ⟨#[]⟩ ∧ b = false ∧ A = none ∧ n = 0 ∧ c = 0 ∧ (rs = [] ∨ (rs.any badT = true ∧ ∀ r, rs = [r] → ¬ r.2.1 = 5))) ∨
    (∃ r, rs = [r] ∧ r.2.1 = 5 ∧ is = true ∧ A = none ∧ n = 0 ∧ c = 0 ∧ tgtOf r.2.2.2 = (k, s, b)) ∨
    (rs ≠ [] ∧ rs.any badT = false ∧ is = true ∧ k = 8 ∧ s = ⟨#[]⟩ ∧ b = false ∧ n = rs.length ∧ Recs w' A rs))
theorem of_all (A : Option Addr) (c : Nat) (rs : List RecT) (w : World) (h : Rows4 w A c rs) (hd : ∀ r ∈ rs, r.2.2.2.size ≤ 140737488355328) :
    Calls Tryd.prog 32 #[.slice A rs.length c] w (OfAll w rs) := by
  by_cases h0 : rs = []
  · subst h0
    refine (of_none c A w).mono ?_
    unfold zeroA
    rintro e w' ⟨rfl, hb⟩
    exact ⟨0, ⟨#[]⟩, false, none, 0, 0, false, rfl, hb, .inl ⟨rfl, rfl, rfl, rfl, rfl, rfl, rfl, .inl rfl⟩⟩
  by_cases h5 : ∃ r, rs = [r] ∧ r.2.1 = 5
  · obtain ⟨r, rfl, hr⟩ := h5
    obtain ⟨b, off, rfl, hlt, -, c1, -, c3⟩ := h.recs 0 r rfl
    rw [hr] at c1
    simp only [Nat.zero_mul, Nat.add_zero] at c1 c3
    refine (of_cname2 b off c r.2.2.2 w hlt c1 c3 (hd r (by simp))).mono ?_
    rintro e w' ⟨rfl, hb⟩
    obtain ⟨k, s, b', hv⟩ : ∃ k s b, tgtOf r.2.2.2 = (k, s, b) := ⟨_, _, _, rfl⟩
    rw [hv]
    exact ⟨k, s, b', none, 0, 0, true, rfl, hb, .inr (.inl ⟨r, rfl, hr, rfl, rfl, rfl, rfl, hv⟩)⟩
  · have h1 : ∀ r, rs = [r] → ¬ r.2.1 = 5 := fun r e h => h5 ⟨r, e, h⟩
    refine (of_more A c rs w h h0 h1).mono ?_
    rintro e w' (⟨hb, rfl, hbel⟩ | ⟨hb, v, rfl, ho⟩)
    · unfold zeroA
      exact ⟨0, ⟨#[]⟩, false, none, 0, 0, false, rfl, hbel, .inl ⟨rfl, rfl, rfl, rfl, rfl, rfl, rfl, .inr ⟨hb, h1⟩⟩⟩
    · obtain ⟨A', c', rfl, -, -, -⟩ := ho.slice
      exact ⟨8, ⟨#[]⟩, false, A', _, c', true, rfl, ho.bel, .inr (.inr ⟨h0, hb, rfl, rfl, rfl, rfl, rfl, ho.recs rfl⟩)⟩
end Go.Proofs.YtkdknfedieeenaaDoor
namespace Go.Proofs.YtkdknfedieeenaaDoor
open Go.RowKit
set_option linter.unusedVariables false
section
variable {P : Program} {ops : Array Oper} {Q : Exit → Act → World → Prop}
/-- Operations one behind the other. -/
def tailWp (P : Program) (Q : Exit → Act → World → Prop) : List Oper → Act → World → Prop
  | [], a, w => Q .normal a w
  | o :: os, a, w => Oper.wp P o a w (fun a' w' => ∃ v, a' = a.put o.dst v ∧ tailWp P Q os a' w') Q
/-- From N on each operation waits for all ahead of it. -/
def tailOk (ops : Array Oper) (N : Nat) : Bool :=
  ((List.range N).all fun i => reachX ops 20 i N) && ((List.range ops.size).all fun j => decide (j ≤ N) || reachX ops 20 (j - 1) j) && ((ops.toList.drop N).all fun o => o.guard.isNone) && decide (N < ops.size)
/-- As Next; an operation that is named fresh gives a block that is new. -/
def NextL (A : Act) (d : Option Tmp) (p : Value → World → Prop) (R : World → Prop) (L : List Nat) (i : Nat) (w : World) (a' : Act) (w' : World) : Prop :=
  ∃ v, a' = A.put d v ∧ p v w' ∧ R w' ∧ Goes w w' ∧ (L.contains i = true → v = .pointer (some ⟨w.heap.size, 0, none⟩) ∧ w.heap.size < w'.heap.size)
theorem nextL {A a' : Act} {d : Option Tmp} {p : Value → World → Prop} {R : World → Prop} {L : List Nat} {i : Nat} {w w' : World} (v : Value) (ha : a' = A.put d v) (hp : p v w') (hR : R w') (he : Goes w w') (hL : L.contains i = false := by rfl) : NextL A d p R L i w a' w' :=
  ⟨v, ha, hp, hR, he, fun h => by rw [hL] at h; cases h⟩
theorem nextL_new {A a' : Act} {d : Option Tmp} {p : Value → World → Prop} {R : World → Prop} {L : List Nat} {i : Nat} {w : World} (o : Obj) (ha : a' = A.put d (.pointer (some ⟨w.heap.size, 0, none⟩))) (hp : p (.pointer (some ⟨w.heap.size, 0, none⟩)) (w.alloc o)) (hR : R (w.alloc o)) : NextL A d p R L i w a' (w.alloc o) :=
  ⟨_, ha, hp, hR, (Below.refl _ _).alloc (Nat.le_refl _) _, fun _ => ⟨rfl, by simp⟩⟩
def OpStepL (P : Program) (ops : Array Oper) (Q : Exit → Act → World → Prop) (Ws : List (Value → World → Prop)) (R : World → Prop) (L : List Nat) (FF : (Nat → Value) → Act) (i : Nat) (o : Oper) : Prop :=
  ∀ (x : Nat → Value) (w : World), R w → Deps (wordOf Ws) x w o.after.toList → (wantedX o x = true → Oper.wp P o (FF x) w (NextL (FF x) o.dst (wordOf Ws i) R L i w) Q) ∧ (wantedX o x = false → wordOf Ws i undef w ∧ L.contains i = false)
def OpStepsL (P : Program) (ops : Array Oper) (Q : Exit → Act → World → Prop) (Ws : List (Value → World → Prop)) (R : World → Prop) (L : List Nat) (FF : (Nat → Value) → Act) (skip : Nat → Bool) : Nat → List Oper → Prop
  | _, [] => True
  | i, o :: os => (skip i = false → OpStepL P ops Q Ws R L FF i o) ∧ OpStepsL P ops Q Ws R L FF skip (i + 1) os
theorem OpStepsL.get {Ws : List (Value → World → Prop)} {R : World → Prop} {L : List Nat} {FF : (Nat → Value) → Act} {skip : Nat → Bool} : ∀ {l : List Oper} {k : Nat}, OpStepsL P ops Q Ws R L FF skip k l → ∀ i o, l[i]? = some o → skip (k + i) = false → OpStepL P ops Q Ws R L FF (k + i) o
  | [], _, _, i, o, h, _ => by simp at h
  | p :: l, k, hs, 0, o, h, hk => by simp at h; subst h; exact hs.1 hk
  | p :: l, k, hs, i + 1, o, h, hk => by
    have := OpStepsL.get hs.2 i o (by simpa using h) (by rwa [show k + 1 + i = k + (i + 1) by omega])
    rwa [show k + 1 + i = k + (i + 1) by omega] at this
/-- The blocks that are named fresh are there, and no two of them the same. -/
def Apart (L : List Nat) (d : Nat → Bool) (x : Nat → Value) (w : World) : Prop :=
  (∀ i ∈ L, d i = true → ∃ g, x i = .pointer (some ⟨g, 0, none⟩) ∧ g < w.heap.size) ∧ ∀ i ∈ L, ∀ j ∈ L, i ≠ j → d i = true → d j = true → x i ≠ x j
theorem Apart.next {L : List Nat} {d : Nat → Bool} {x : Nat → Value} {w w' : World} {i : Nat} {v : Value} (h : Apart L d x w) (hd : d i = false) (hs : w.heap.size ≤ w'.heap.size) (hv : L.contains i = true → v = .pointer (some ⟨w.heap.size, 0, none⟩) ∧ w.heap.size < w'.heap.size) :
    Apart L (setD d i) (fun j => if j = i then v else x j) w' := by
  refine ⟨fun j hj hdj => ?_, fun j hj k hk hjk hdj hdk => ?_⟩
  · by_cases hji : j = i
    · subst hji
      obtain ⟨h1, h2⟩ := hv (by simpa using hj)
      exact ⟨_, by simpa using h1, h2⟩
    · rw [setD_ne d hji] at hdj
      obtain ⟨g, h1, h2⟩ := h.1 j hj hdj
      exact ⟨g, by simpa [hji] using h1, by omega⟩
  · by_cases hji : j = i
    · subst hji
      have hkj : k ≠ j := fun e => hjk e.symm
      rw [setD_ne d hkj] at hdk
      obtain ⟨h1, h2⟩ := hv (by simpa using hj)
      obtain ⟨g, h3, h4⟩ := h.1 k hk hdk
      simp only [if_true, hkj, if_false]
      rw [h1, h3]
      intro e
      injection e with e; injection e with e; injection e with e
      omega
    · by_cases hki : k = i
      · subst hki
        rw [setD_ne d hjk] at hdj
        obtain ⟨h1, h2⟩ := hv (by simpa using hk)
        obtain ⟨g, h3, h4⟩ := h.1 j hj hdj
        simp only [if_true, hjk, if_false]
        rw [h1, h3]
        intro e
        injection e with e; injection e with e; injection e with e
        omega
      · rw [setD_ne d hji] at hdj
        rw [setD_ne d hki] at hdk
        simp only [hji, hki, if_false]
        exact h.2 j hj k hk hjk hdj hdk
theorem wp_region_tail {id : Nat} {base : Act} {w0 : World} (hm : P.follows .mixedOrders = true) {FF : (Nat → Value) → Act} (hFF : ∀ x, putsF x 0 (ops.toList.map (·.dst)) base = FF x) (R : World → Prop) (Ws : List (Value → World → Prop)) (N : Nat) (L : List Nat)
    (hn : noTwice (ops.toList.map (·.dst)) = true) (hg : guardsIn ops base.tmps.size = true) (hwf : wellFormed ops = true) (hlen : Ws.length = N) (htl : tailOk ops N = true) (hLN : (L.all fun i => decide (i < N)) = true)
    (stays : AllStay Ws) (start : R w0.drew)
    (steps : OpStepsL P ops Q Ws R L FF (fun i => decide (N ≤ i)) 0 ops.toList)
    (fin : ∀ (x : Nat → Value) (w : World), R w → AllWords Ws x w 0 Ws → (∀ i ∈ L, ∀ j ∈ L, i ≠ j → x i ≠ x j) → tailWp P Q (ops.toList.drop N) (FF x) w) :
    (Code.region id ops true).wp P Q base w0 := by
  unfold tailOk at htl
  simp only [Bool.and_eq_true, List.all_eq_true, List.mem_range, Bool.or_eq_true, decide_eq_true_eq] at htl
  obtain ⟨⟨⟨t1, t2⟩, t3⟩, t4⟩ := htl
  have hword : ∀ (i : Nat), ∀ v w w', wordOf Ws i v w → Goes w w' → wordOf Ws i v w' := by
    intro i v w w' hw he
    unfold wordOf at hw ⊢
    cases hp : Ws[i]? with
    | none => trivial
    | some p =>
      rw [hp] at hw
      exact stays.mem p (List.mem_of_getElem? hp) _ _ _ hw he
  refine wp_region_joint hm (fun d x w => ClosedX ops d ∧ (((∀ j, N ≤ j → j < ops.size → d j = false) ∧ R w ∧ Apart L d x w ∧ ∀ i, i < N → d i = true → wordOf Ws i (x i) w) ∨
    (∃ m, N < m ∧ m ≤ ops.size ∧ (∀ i, i < m → d i = true) ∧ (∀ i, m ≤ i → i < ops.size → d i = false) ∧ tailWp P Q (ops.toList.drop m) (FF x) w))) hn hwf ?_ ?_ ?_
  · exact fun x => ⟨fun j o _ h => (by cases h), .inl ⟨fun _ _ _ => rfl, start, ⟨fun _ _ h => (by cases h), fun _ _ _ _ _ h => (by cases h)⟩, by simp⟩⟩
  · rintro i hi d x w ⟨hcl, hJ⟩ hd hdeps
    have hoi : ops[i]? = some ops[i] := Array.getElem?_eq_getElem hi
    have hmem : ops[i] ∈ ops.toList := by simp
    have hsrc : SrcX ops d ops[i] := hdeps
    have hwant : Region.wanted ops[i] (yielded ops (putsF x 0 (ops.toList.map (·.dst)) base).tmps) = wantedX ops[i] x := wanted_eq hn hg ops[i] hmem x
    have hset : (fun j => if j = i then true else d j) = setD d i := rfl
    have hcl2 : ClosedX ops (setD d i) := by
      intro j o hj hdj e he hb
      by_cases hji : j = i
      · subst hji
        rw [hoi] at hj
        obtain rfl := Option.some.inj hj
        exact setD_le d _ _ (hdeps e he hb)
      · rw [setD_ne d hji] at hdj
        exact setD_le d _ _ (hcl j o hj hdj e he hb)
    have hprev : N < i → d (i - 1) = true := by
      intro hNi
      rcases t2 i hi with h | h
      · omega
      · rcases Nat.eq_or_lt_of_le (Nat.sub_le i 1) with h1 | h1
        · omega
        · exact hsrc.reach (K := i) hcl hoi 19 (i - 1) (by omega) h
    have hput : ∀ v, FF (fun j => if j = i then v else x j) = (FF x).put (ops[i]).dst v := by
      intro v
      have := putsF_set x (ops.toList.map (·.dst)) 0 i base (ops[i]).dst v hn (by simp [hi])
      rw [Nat.zero_add] at this
      rw [← hFF, ← hFF, this]
    have hdrop : ops.toList.drop i = ops[i] :: ops.toList.drop (i + 1) := by
      rw [List.drop_eq_getElem_cons (by simpa using hi)]
      simp
    -- an operation of the tail
    have run : N ≤ i → (∀ j, j < i → d j = true) → (∀ j, i ≤ j → j < ops.size → d j = false) → tailWp P Q (ops.toList.drop i) (FF x) w →
        if Region.wanted ops[i] (yielded ops (putsF x 0 (ops.toList.map (·.dst)) base).tmps) = true
        then Oper.wp P ops[i] (putsF x 0 (ops.toList.map (·.dst)) base) w (fun a' w' => ∃ v, a' = (putsF x 0 (ops.toList.map (·.dst)) base).put (ops[i]).dst v ∧ (ClosedX ops (fun j => if j = i then true else d j) ∧ (((∀ j, N ≤ j → j < ops.size → (fun j => if j = i then true else d j) j = false) ∧ R w' ∧ Apart L (fun j => if j = i then true else d j) (fun j => if j = i then v else x j) w' ∧ ∀ k, k < N → (fun j => if j = i then true else d j) k = true → wordOf Ws k ((fun j => if j = i then v else x j) k) w') ∨
          (∃ m, N < m ∧ m ≤ ops.size ∧ (∀ k, k < m → (fun j => if j = i then true else d j) k = true) ∧ (∀ k, m ≤ k → k < ops.size → (fun j => if j = i then true else d j) k = false) ∧ tailWp P Q (ops.toList.drop m) (FF (fun j => if j = i then v else x j)) w')))) Q
        else (ClosedX ops (fun j => if j = i then true else d j) ∧ (((∀ j, N ≤ j → j < ops.size → (fun j => if j = i then true else d j) j = false) ∧ R w ∧ Apart L (fun j => if j = i then true else d j) (fun j => if j = i then undef else x j) w ∧ ∀ k, k < N → (fun j => if j = i then true else d j) k = true → wordOf Ws k ((fun j => if j = i then undef else x j) k) w) ∨
          (∃ m, N < m ∧ m ≤ ops.size ∧ (∀ k, k < m → (fun j => if j = i then true else d j) k = true) ∧ (∀ k, m ≤ k → k < ops.size → (fun j => if j = i then true else d j) k = false) ∧ tailWp P Q (ops.toList.drop m) (FF (fun j => if j = i then undef else x j)) w))) := by
      intro hNi hbefore hbehind htw
      have hgn : (ops[i]).guard = none := by
        have := t3 ops[i] (by
          rw [List.mem_iff_getElem?]
          exact ⟨i - N, by rw [List.getElem?_drop, show N + (i - N) = i by omega]; simp [hi]⟩)
        simpa using this
      have hwt : Region.wanted ops[i] (yielded ops (putsF x 0 (ops.toList.map (·.dst)) base).tmps) = true := by unfold Region.wanted; rw [hgn]
      rw [if_pos hwt, hFF x]
      rw [hdrop] at htw
      unfold tailWp at htw
      refine Oper.wp_mono ?_ htw
      rintro a' w' ⟨v, rfl, ht⟩
      refine ⟨v, rfl, hcl2, .inr ⟨i + 1, by omega, by omega, fun k hk => ?_, fun k hk hks => ?_, ?_⟩⟩
      · by_cases hki : k = i
        · simp [hki]
        · simp [hki, hbefore k (by omega)]
      · simp [show k ≠ i by omega, hbehind k (by omega) hks]
      · rw [hput v]; exact ht
    rcases hJ with ⟨hno, hR, hAp, hw⟩ | ⟨m, hNm, hms, hyes, hno, htw⟩
    · rcases Nat.lt_or_ge i N with hiN | hiN
      · have hs := OpStepsL.get steps i ops[i] (by simp [hi]) (by simp; omega)
        rw [Nat.zero_add] at hs
        have hD : Deps (wordOf Ws) x w (ops[i]).after.toList := Deps.of (fun e he hb => by
          have hdon := hdeps e he hb
          have hlt : e.on < i := by
            unfold wellFormed at hwf
            rw [List.all_eq_true] at hwf
            have := hwf (ops[i], i) (by rw [List.mem_zipIdx_iff_getElem?]; simp [hi])
            simp only [Array.all_eq_true'] at this
            have := this e (by simpa using he)
            simpa [hb] using this
          exact hw _ (by omega) hdon)
        have := hs x w hR hD
        have put : ∀ v w', wordOf Ws i v w' → Goes w w' → ∀ j, j < N → setD d i j = true → wordOf Ws j (if j = i then v else x j) w' := by
          intro v w' hv he j hj hdj
          by_cases hji : j = i
          · subst hji; simpa using hv
          · rw [setD_ne d hji] at hdj
            rw [if_neg hji]
            exact hword j _ _ _ (hw j hj hdj) he
        have keep : ∀ j, N ≤ j → j < ops.size → setD d i j = false := fun j hj hjs => by rw [setD_ne d (by omega)]; exact hno j hj hjs
        rw [hwant, hFF x]
        split
        · rename_i hwt
          refine Oper.wp_mono ?_ (this.1 hwt)
          rintro a' w' ⟨v, rfl, hv, hR', he, hLv⟩
          exact ⟨v, rfl, hcl2, .inl ⟨keep, hR', hAp.next hd he.size hLv, put v w' hv he⟩⟩
        · rename_i hwt
          obtain ⟨h1, h2⟩ := this.2 (by simpa using hwt)
          exact ⟨hcl2, .inl ⟨keep, hR, hAp.next hd (Nat.le_refl _) (fun h => by rw [h2] at h; cases h), put undef w h1 (Below.refl _ _)⟩⟩
      · have hiN' : i = N := by
          rcases Nat.eq_or_lt_of_le hiN with h | h
          · exact h.symm
          · have := hprev h
            rw [hno (i - 1) (by omega) (by omega)] at this; cases this
        subst hiN'
        have hall : ∀ j, j < i → d j = true := fun j hj => hsrc.reach (K := i) hcl hoi 19 j (by omega) (t1 j hj)
        refine run (Nat.le_refl _) hall (fun j hj hjs => hno j hj hjs) (fin x w hR (allWords_of Ws 0 (fun j _ => by simp) (fun j hj => hw j (by omega) (hall j (by omega)))) (fun p hp q hq hpq => hAp.2 p hp q hq hpq (hall p (by rw [List.all_eq_true] at hLN; simpa using hLN p hp)) (hall q (by rw [List.all_eq_true] at hLN; simpa using hLN q hq))))
    · have him : i = m := by
        rcases Nat.lt_or_ge i m with h | h
        · rw [hyes i h] at hd; cases hd
        · rcases Nat.eq_or_lt_of_le h with h | h
          · exact h.symm
          · have := hprev (by omega)
            rw [hno (i - 1) (by omega) (by omega)] at this; cases this
      subst him
      exact run (by omega) hyes hno htw
  · rintro d x w hall ⟨hcl, hJ⟩
    rw [hFF x]
    rcases hJ with ⟨hno, -, -⟩ | ⟨m, hNm, hms, hyes, hno, htw⟩
    · have := hno N (Nat.le_refl _) t4
      rw [hall N t4] at this; cases this
    · have : m = ops.size := by
        rcases Nat.eq_or_lt_of_le hms with h | h
        · exact h
        · have := hno m (Nat.le_refl _) h
          rw [hall m h] at this; cases this
      subst this
      rw [List.drop_of_length_le (by simp)] at htw
      exact htw
end
end Go.Proofs.YtkdknfedieeenaaDoor
