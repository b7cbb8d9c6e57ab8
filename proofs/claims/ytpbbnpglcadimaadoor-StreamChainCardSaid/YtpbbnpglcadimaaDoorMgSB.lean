/- Texts that walks stand on, one behind the other. -/
import Derived.Test.YtpbbnpglcadimaaDoorReg6
import Derived.Test.YtpbbnpglcadimaaDoorMgSA
import Derived.Test.YtpbbnpglcadimaaDoorObw
import Derived.Outline
import Derived.Test.YtpbbnpglcadimaaDoorNameW
import Derived.Test.YtpbbnpglcadimaaDoorCuts
namespace Go.Proofs.YtpbbnpglcadimaaDoor
open Go.RowKit
set_option linter.unusedVariables false
section
variable {P : Program} {ops : Array Oper} {Q : Exit → Act → World → Prop}
/-- A region that draws its order, by one word on all that has been done: which operations, what their slots hold, and the world. -/
theorem wp_region_jointH {id : Nat} {base : Act} {w0 : World} (hm : P.follows .mixedOrders = true) (J : (Nat → Bool) → (Nat → Value) → World → Prop)
    (hn : noTwice (ops.toList.map (·.dst)) = true) (hwf : wellFormed ops = true)
    (start : J (fun _ => false) (held base (ops.toList.map (·.dst))) w0.drew)
    (steps : ∀ i (hi : i < ops.size) (d : Nat → Bool) (x : Nat → Value) (w : World), J d x w → d i = false → (∀ e ∈ (ops[i]).after.toList, Region.binds .any e = true → d e.on = true) →
      if Region.wanted ops[i] (yielded ops (putsF x 0 (ops.toList.map (·.dst)) base).tmps) = true
      then Oper.wp P ops[i] (putsF x 0 (ops.toList.map (·.dst)) base) w (fun a' w' => ∃ v, a' = (putsF x 0 (ops.toList.map (·.dst)) base).put (ops[i]).dst v ∧ J (fun j => if j = i then true else d j) (fun j => if j = i then v else x j) w') Q
      else J (fun j => if j = i then true else d j) (fun j => if j = i then undef else x j) w)
    (fin : ∀ (d : Nat → Bool) (x : Nat → Value) (w : World), (∀ i, i < ops.size → d i = true) → J d x w → Q .normal (putsF x 0 (ops.toList.map (·.dst)) base) w) :
    (Code.region id ops true).wp P Q base w0 := by
  -- if nothing is ready all has come up
  have hall : ∀ listed : Array Bool, listed.size = ops.size → Region.ready .any ops listed = [] → ∀ i, i < ops.size → listed.getD i false = true := by
    intro listed hs hr i
    induction i using Nat.strongRecOn with
    | _ i ih =>
      intro hi
      cases hli : listed.getD i false with
      | true => rfl
      | false =>
        exfalso
        have hmem : i ∈ Region.ready .any ops listed := by
          unfold Region.ready
          rw [List.mem_filter]
          refine ⟨by simpa using hi, ?_⟩
          have hd : listed.getD i true = false := by
            simp [Array.getD, hs, hi] at hli ⊢; exact hli
          rw [hd]
          simp only [Bool.not_false, Bool.true_and, Array.getElem?_eq_getElem hi, Option.map_some, Option.getD_some]
          rw [Array.all_eq_true']
          intro e he
          by_cases hb : Region.binds .any e = true
          · have hlt : e.on < i := by
              unfold wellFormed at hwf
              rw [List.all_eq_true] at hwf
              have := hwf (ops[i], i) (by rw [List.mem_zipIdx_iff_getElem?]; simp [hi])
              simp only [Array.all_eq_true'] at this
              have := this e he
              simpa [hb] using this
            simp [hb, ih e.on hlt (by omega)]
          · simp [hb]
        rw [hr] at hmem
        cases hmem
  have main : ∀ (fuel : Nat) (listed : Array Bool) (x : Nat → Value) (w : World), listed.size = ops.size → (List.range ops.size).countP (fun i => !listed.getD i false) ≤ fuel →
      J (fun i => listed.getD i false) x w → wpAny P .any ops Q fuel listed (putsF x 0 (ops.toList.map (·.dst)) base) w := by
    intro fuel
    have hfin : ∀ (listed : Array Bool) (x : Nat → Value) (w : World), listed.size = ops.size → J (fun i => listed.getD i false) x w → Region.ready .any ops listed = [] → Q .normal (putsF x 0 (ops.toList.map (·.dst)) base) w := by
      intro listed x w hs hJ hr
      exact fin _ x w (fun i hi => hall listed hs hr i hi) hJ
    induction fuel with
    | zero =>
      intro listed x w hs hc hJ
      have hr : Region.ready .any ops listed = [] := by
        unfold Region.ready
        rw [List.filter_eq_nil_iff]
        intro i hi
        have h0 := Nat.le_zero.1 hc
        rw [List.countP_eq_zero] at h0
        have := h0 i hi
        have hi' : i < ops.size := by simpa using hi
        simp [Array.getD, hs, hi'] at this ⊢
        simp [this]
      exact ⟨hr, hfin listed x w hs hJ hr⟩
    | succ fuel ih =>
      intro listed x w hs hc hJ
      refine ⟨hfin listed x w hs hJ, fun i hi => ?_⟩
      unfold Region.ready at hi
      rw [List.mem_filter] at hi
      obtain ⟨hir, hi2⟩ := hi
      have hio : i < ops.size := by simpa using hir
      simp only [Bool.and_eq_true, Bool.not_eq_true', Array.getElem?_eq_getElem hio, Option.map_some, Option.getD_some] at hi2
      obtain ⟨hli, haft⟩ := hi2
      have hli' : listed[i]'(by omega) = false := by simpa [Array.getD, hs, hio] using hli
      have hop := steps i hio (fun i => listed.getD i false) x w hJ (by simp [Array.getD, hs, hio, hli']) (fun e he hb => by
        rw [Array.all_eq_true'] at haft
        have := haft e (by simpa using he)
        simpa [hb] using this)
      have hds : (ops.toList.map (·.dst))[i]? = some (ops[i]).dst := by simp [hio]
      have next : ∀ v w', J (fun j => if j = i then true else listed.getD j false) (fun j => if j = i then v else x j) w' → wpAny P .any ops Q fuel (listed.setIfInBounds i true) ((putsF x 0 (ops.toList.map (·.dst)) base).put (ops[i]).dst v) w' := by
        intro v w' hJ'
        have hset := putsF_set x (ops.toList.map (·.dst)) 0 i base (ops[i]).dst v hn hds
        rw [Nat.zero_add] at hset
        rw [← hset]
        have hJ2 : J (fun j => (listed.setIfInBounds i true).getD j false) (fun j => if j = i then v else x j) w' := by
          have : (fun j => (listed.setIfInBounds i true).getD j false) = (fun j => if j = i then true else listed.getD j false) := by
            funext j; exact getD_set listed i j (by omega)
          rw [this]; exact hJ'
        refine ih _ _ w' (by simpa using hs) ?_ hJ2
        have hlt : (List.range ops.size).countP (fun j => !(listed.setIfInBounds i true).getD j false) < (List.range ops.size).countP (fun j => !listed.getD j false) := by
          have hsub : ∀ (l : List Nat), (∀ j ∈ l, j < ops.size) → l.Nodup → i ∈ l → l.countP (fun j => !(listed.setIfInBounds i true).getD j false) < l.countP (fun j => !listed.getD j false) := by
            intro l
            induction l with
            | nil => intro _ _ h; cases h
            | cons y l ihl =>
              intro hlt' hnd hmem
              have hy : y < ops.size := hlt' y (by simp)
              have heq : ∀ j, j < ops.size → (listed.setIfInBounds i true).getD j false = if j = i then true else listed.getD j false := fun j _ => getD_set listed i j (by omega)
              by_cases hyi : y = i
              · subst hyi
                have hsame : l.countP (fun j => !(listed.setIfInBounds y true).getD j false) = l.countP (fun j => !listed.getD j false) := by
                  apply List.countP_congr
                  intro j hj
                  have hne : j ≠ y := fun e => by subst e; exact (List.nodup_cons.1 hnd).1 hj
                  rw [heq j (hlt' j (by simp [hj])), if_neg hne]
                rw [List.countP_cons, List.countP_cons, hsame, heq y hy, if_pos rfl]
                have : listed.getD y false = false := by simp [Array.getD, hs, hy, hli']
                simp [this]
              · have hm' : i ∈ l := by
                  rcases List.mem_cons.1 hmem with h | h
                  · exact absurd h.symm hyi
                  · exact h
                have := ihl (fun j hj => hlt' j (by simp [hj])) (List.nodup_cons.1 hnd).2 hm'
                rw [List.countP_cons, List.countP_cons, heq y hy, if_neg hyi]
                omega
          exact hsub _ (fun j hj => by simpa using hj) List.nodup_range (by simpa using hio)
        omega
      unfold wpOp
      simp only [Array.getElem?_eq_getElem hio]
      split
      · rename_i hw
        rw [if_pos hw] at hop
        exact .inl (Oper.wp_mono (fun a' w' ⟨v, e, hv⟩ => by rw [e]; exact next v w' hv) hop)
      · rename_i hw
        rw [if_neg hw] at hop
        exact next undef w hop
  refine wp_region_any hm ?_
  have h0 := putsF_held (ops.toList.map (·.dst)) 0 base (held base (ops.toList.map (·.dst))) (fun i => by simp) hn
  rw [← h0]
  refine main ops.size _ _ _ (by simp) ?_ ?_
  · refine Nat.le_trans (List.countP_le_length ..) (by simp)
  · have : (fun i => (Array.replicate ops.size false).getD i false) = fun _ => false := by
      funext i
      simp only [Array.getD, Array.size_replicate]
      split
      · simp
      · rfl
    rw [this]; exact start
def NextXR (A : Act) (dst : Option Tmp) (Ws : List WordX) (d : Nat → Bool) (i : Nat) (x : Nat → Value) (R : (Nat → Bool) → (Nat → Value) → World → Prop) (w : World) (a' : Act) (w' : World) : Prop := ∃ v, a' = A.put dst v ∧ wordX Ws (setD d i) i v w' ∧ R (setD d i) (fun j => if j = i then v else x j) w' ∧ Goes w w'
def NextKR (A : Act) (dst : Option Tmp) (Ws : List WordX) (d : Nat → Bool) (i : Nat) (x : Nat → Value) (R : (Nat → Bool) → (Nat → Value) → World → Prop) (w : World) (a' : Act) (w' : World) : Prop := ∃ v, a' = A.put dst v ∧ wordX Ws (setD d i) i v w' ∧ R (setD d i) (fun j => if j = i then v else x j) w' ∧ KeepX d i x w w' 0 Ws
/-- An operation behind which all that was said holds still of itself. -/
def OpStepXR (P : Program) (ops : Array Oper) (Q : Exit → Act → World → Prop) (Ws : List WordX) (R : (Nat → Bool) → (Nat → Value) → World → Prop) (FF : (Nat → Value) → Act) (i : Nat) (o : Oper) : Prop :=
  ∀ (d : Nat → Bool) (x : Nat → Value) (w : World), R d x w → d i = false → SrcX ops d o → Deps (wordX Ws d) x w o.after.toList →
    (wantedX o x = true → Oper.wp P o (FF x) w (NextXR (FF x) o.dst Ws d i x R w) Q) ∧ (wantedX o x = false → wordX Ws (setD d i) i undef w ∧ R (setD d i) (fun j => if j = i then undef else x j) w)
/-- An operation of which all that was said must be shown again. -/
def OpSpecXR (P : Program) (ops : Array Oper) (Q : Exit → Act → World → Prop) (Ws : List WordX) (R : (Nat → Bool) → (Nat → Value) → World → Prop) (FF : (Nat → Value) → Act) (i : Nat) (o : Oper) : Prop :=
  ∀ (d : Nat → Bool) (x : Nat → Value) (w : World), R d x w → d i = false → ClosedX ops d → SrcX ops d o → DoneX d x w 0 Ws →
    (wantedX o x = true → Oper.wp P o (FF x) w (NextKR (FF x) o.dst Ws d i x R w) Q) ∧ (wantedX o x = false → wordX Ws (setD d i) i undef w ∧ R (setD d i) (fun j => if j = i then undef else x j) w)
def OpStepsXR (P : Program) (ops : Array Oper) (Q : Exit → Act → World → Prop) (Ws : List WordX) (R : (Nat → Bool) → (Nat → Value) → World → Prop) (FF : (Nat → Value) → Act) (sp : List Nat) : Nat → List Oper → Prop
  | _, [] => True
  | i, o :: os => (sp.contains i = false → OpStepXR P ops Q Ws R FF i o) ∧ OpStepsXR P ops Q Ws R FF sp (i + 1) os
def OpSpecsXR (P : Program) (ops : Array Oper) (Q : Exit → Act → World → Prop) (Ws : List WordX) (R : (Nat → Bool) → (Nat → Value) → World → Prop) (FF : (Nat → Value) → Act) (sp : List Nat) : Nat → List Oper → Prop
  | _, [] => True
  | i, o :: os => (sp.contains i = true → OpSpecXR P ops Q Ws R FF i o) ∧ OpSpecsXR P ops Q Ws R FF sp (i + 1) os
theorem OpStepsXR.get {Ws : List WordX} {R : (Nat → Bool) → (Nat → Value) → World → Prop} {FF : (Nat → Value) → Act} {sp : List Nat} : ∀ {l : List Oper} {k : Nat}, OpStepsXR P ops Q Ws R FF sp k l → ∀ i o, l[i]? = some o → sp.contains (k + i) = false → OpStepXR P ops Q Ws R FF (k + i) o
  | [], _, _, i, o, h, _ => by simp at h
  | p :: l, k, hs, 0, o, h, hk => by simp at h; subst h; exact hs.1 hk
  | p :: l, k, hs, i + 1, o, h, hk => by
    have := OpStepsXR.get hs.2 i o (by simpa using h) (by rwa [show k + 1 + i = k + (i + 1) by omega])
    rwa [show k + 1 + i = k + (i + 1) by omega] at this
theorem OpSpecsXR.get {Ws : List WordX} {R : (Nat → Bool) → (Nat → Value) → World → Prop} {FF : (Nat → Value) → Act} {sp : List Nat} : ∀ {l : List Oper} {k : Nat}, OpSpecsXR P ops Q Ws R FF sp k l → ∀ i o, l[i]? = some o → sp.contains (k + i) = true → OpSpecXR P ops Q Ws R FF (k + i) o
  | [], _, _, i, o, h, _ => by simp at h
  | p :: l, k, hs, 0, o, h, hk => by simp at h; subst h; exact hs.1 hk
  | p :: l, k, hs, i + 1, o, h, hk => by
    have := OpSpecsXR.get hs.2 i o (by simpa using h) (by rwa [show k + 1 + i = k + (i + 1) by omega])
    rwa [show k + 1 + i = k + (i + 1) by omega] at this
theorem wp_region_expR {id : Nat} {base : Act} {w0 : World} (hm : P.follows .mixedOrders = true) {FF : (Nat → Value) → Act} (hFF : ∀ x, putsF x 0 (ops.toList.map (·.dst)) base = FF x) (R : (Nat → Bool) → (Nat → Value) → World → Prop) (Ws : List WordX) (sp : List Nat)
    (hn : noTwice (ops.toList.map (·.dst)) = true) (hg : guardsIn ops base.tmps.size = true) (hwf : wellFormed ops = true) (hlen : Ws.length = ops.size)
    (stays : AllStaysX Ws) (start : R (fun _ => false) (held base (ops.toList.map (·.dst))) w0.drew)
    (steps : OpStepsXR P ops Q Ws R FF sp 0 ops.toList) (specs : OpSpecsXR P ops Q Ws R FF sp 0 ops.toList)
    (fin : ∀ (x : Nat → Value) (w : World) (d : Nat → Bool), (∀ i, i < ops.size → d i = true) → R d x w → AllX x w 0 Ws → Q .normal (FF x) w) :
    (Code.region id ops true).wp P Q base w0 := by
  have hword : ∀ (i : Nat) d d' v w w', wordX Ws d i v w → leD d d' → Goes w w' → wordX Ws d' i v w' := by
    intro i d d' v w w' hw hd he
    unfold wordX at hw ⊢
    cases hp : Ws[i]? with
    | none => trivial
    | some p =>
      rw [hp] at hw
      exact stays.mem p (List.mem_of_getElem? hp) _ _ _ _ _ hd he hw
  refine wp_region_jointH hm (fun d x w => R d x w ∧ (∀ i, i < ops.size → d i = true → wordX Ws d i (x i) w) ∧ ClosedX ops d) hn hwf ?_ ?_ ?_
  · exact ⟨start, by simp, fun j o _ h => by cases h⟩
  · rintro i hi d x w ⟨hR, hw, hcl⟩ hd hdeps
    have hoi : ops[i]? = some ops[i] := Array.getElem?_eq_getElem hi
    have hmem : ops[i] ∈ ops.toList := by simp
    have hlt : ∀ e ∈ (ops[i]).after.toList, Region.binds .any e = true → e.on < ops.size := by
      intro e he hb
      unfold wellFormed at hwf
      rw [List.all_eq_true] at hwf
      have := hwf (ops[i], i) (by rw [List.mem_zipIdx_iff_getElem?]; simp [hi])
      simp only [Array.all_eq_true'] at this
      have := this e (by simpa using he)
      have : e.on < i := by simpa [hb] using this
      omega
    have hwant : Region.wanted ops[i] (yielded ops (putsF x 0 (ops.toList.map (·.dst)) base).tmps) = wantedX ops[i] x := wanted_eq hn hg ops[i] hmem x
    have hset : (fun j => if j = i then true else d j) = setD d i := rfl
    have put : ∀ v w', wordX Ws (setD d i) i v w' → (∀ j, j < ops.size → j ≠ i → d j = true → wordX Ws (setD d i) j (x j) w') → ∀ j, j < ops.size → setD d i j = true → wordX Ws (setD d i) j (if j = i then v else x j) w' := by
      intro v w' hv ho j hj hdj
      by_cases hji : j = i
      · subst hji; simpa using hv
      · rw [setD_ne d hji] at hdj
        rw [if_neg hji]
        exact ho j hj hji hdj
    have hcl2 : ClosedX ops (setD d i) := by
      intro j o hj hdj e he hb
      by_cases hji : j = i
      · subst hji
        rw [hoi] at hj
        obtain rfl := Option.some.inj hj
        exact setD_le d _ _ (hdeps e he hb)
      · rw [setD_ne d hji] at hdj
        exact setD_le d _ _ (hcl j o hj hdj e he hb)
    rw [hwant, hFF x, hset]
    cases hsp : sp.contains i with
    | false =>
      have hs := OpStepsXR.get steps i ops[i] (by simp [hi]) (by rw [Nat.zero_add]; exact hsp)
      rw [Nat.zero_add] at hs
      have hs := hs d x w hR hd hdeps (Deps.of (fun e he hb => hw _ (hlt e he hb) (hdeps e he hb)))
      split
      · rename_i hwt
        refine Oper.wp_mono ?_ (hs.1 hwt)
        rintro a' w' ⟨v, rfl, hv, hR', he⟩
        exact ⟨v, rfl, hR', put v w' hv (fun j hj hji hdj => hword j d _ _ w w' (hw j hj hdj) (setD_le d i) he), hcl2⟩
      · rename_i hwt
        exact ⟨(hs.2 (by simpa using hwt)).2, put undef w (hs.2 (by simpa using hwt)).1 (fun j hj hji hdj => hword j d _ _ w w (hw j hj hdj) (setD_le d i) (Below.refl _ _)), hcl2⟩
    | true =>
      have hs := OpSpecsXR.get specs i ops[i] (by simp [hi]) (by rw [Nat.zero_add]; exact hsp)
      rw [Nat.zero_add] at hs
      have hs := hs d x w hR hd hcl hdeps (doneX_of Ws 0 (fun j _ => by simp) (fun j hj hdj => hw j (by omega) hdj))
      split
      · rename_i hwt
        refine Oper.wp_mono ?_ (hs.1 hwt)
        rintro a' w' ⟨v, rfl, hv, hR', he⟩
        refine ⟨v, rfl, hR', put v w' hv (fun j hj hji hdj => ?_), hcl2⟩
        have h0 := hw j hj hdj
        unfold wordX at h0 ⊢
        cases hp : Ws[j]? with
        | none => trivial
        | some p =>
          rw [hp] at h0
          have := he.get (Ws := Ws) j p hp
          rw [Nat.zero_add] at this
          exact this hji hdj h0
      · rename_i hwt
        exact ⟨(hs.2 (by simpa using hwt)).2, put undef w (hs.2 (by simpa using hwt)).1 (fun j hj hji hdj => hword j d _ _ w w (hw j hj hdj) (setD_le d i) (Below.refl _ _)), hcl2⟩
  · rintro d x w hall ⟨hR, hw, -⟩
    rw [hFF x]
    exact fin x w d hall hR (allX_of (d := d) stays Ws 0 (fun j _ => by simp) (fun j hj => hw j (by omega) (hall j (by omega))))
end
theorem setD_false {d : Nat → Bool} {i k : Nat} (h : setD d i k = false) : d k = false := by
  cases e : d k with
  | false => rfl
  | true => have := setD_le d i k e; rw [h] at this; cases this
theorem held_next {d : Nat → Bool} {x : Nat → Value} {i k : Nat} {v u : Value} (h : d k = false → x k = u) (hk : k ≠ i) : setD d i k = false → (if k = i then v else x k) = u := fun hf => by rw [if_neg hk]; exact h (setD_false hf)
theorem held_self {d : Nat → Bool} {x : Nat → Value} {i : Nat} {v u : Value} : setD d i i = false → (if i = i then v else x i) = u := fun hf => by rw [setD_self] at hf; cases hf
theorem nextXR {A a' : Act} {dst : Option Tmp} {Ws : List WordX} {d : Nat → Bool} {i : Nat} {x : Nat → Value} {R : (Nat → Bool) → (Nat → Value) → World → Prop} {w w' : World} (v : Value) (ha : a' = A.put dst v) (hp : wordX Ws (setD d i) i v w') (hR : R (setD d i) (fun j => if j = i then v else x j) w') (he : Goes w w') : NextXR A dst Ws d i x R w a' w' := ⟨v, ha, hp, hR, he⟩
theorem nextKR {A a' : Act} {dst : Option Tmp} {Ws : List WordX} {d : Nat → Bool} {i : Nat} {x : Nat → Value} {R : (Nat → Bool) → (Nat → Value) → World → Prop} {w w' : World} (v : Value) (ha : a' = A.put dst v) (hp : wordX Ws (setD d i) i v w') (hR : R (setD d i) (fun j => if j = i then v else x j) w') (he : KeepX d i x w w' 0 Ws) : NextKR A dst Ws d i x R w a' w' := ⟨v, ha, hp, hR, he⟩
end Go.Proofs.YtpbbnpglcadimaaDoor
namespace Go.Proofs.YtpbbnpglcadimaaDoor
open Go.RowKit
set_option linter.unusedVariables false
set_option linter.unusedSimpArgs false
set_option maxRecDepth 20000
attribute [local simp] putsF isV wordOf Deps Region.binds Region.wanted Act.put wantedX isB
theorem results_cellD {fn : Func} {p u v : Tmp} {ty : TypeId} (h : fn.results = #[.cell p ty, .tmp u, .tmp v]) (tmps : Array Value) (P : Program) (w : World) (b o : Nat) (cs : List Value) (d : TypeDesc) (hp : tmps.getD p undef = .pointer (some ⟨b, o, none⟩)) (hc : w.rangeAt b o cs)
    (hu : P.underlying ty = some d) (hd : d.isRow = true) (hi : (P.info? ty).map (·.size) = some cs.length) : (results fn tmps).run P w = .ok (.tuple #[.agg cs.toArray, tmps.getD u undef, tmps.getD v undef]) w := by
  have hp2 : tmps[p]?.getD undef = .pointer (some ⟨b, o, none⟩) := by rw [← hp, Array.getD_eq_getD_getElem?]
  simp only [results, h]
  simp [Sem.run_bind, Result.andThen, hp2, asAddr, run_loadVar_mid w b o ty cs d hc hu hd hi]
/-- The delta that begins at a place: an error, or the place of its second SOA and the one behind it. -/
def deltaR (sf : RecT → Nat) (fr : Nat) (rs : List RecT) (i : Nat) : Nat ⊕ (Nat × Nat) :=
  match rs[i]? with
  | none => .inl 4
  | some r => if soaB r = true then (if sf r = fr then (if rs.length - 1 ≤ nextS rs (i + 1) then .inl 4 else .inr (nextS rs (i + 1), min (nextS rs (nextS rs (i + 1) + 1)) (rs.length - 1))) else .inl 5) else .inl 4
/-- A delta's cells. -/
def delC (f t : RecT) (v1 v2 : Value) : List Value := [.string f.1, .int .u16 f.2.1, .int .u32 f.2.2.1, .string f.2.2.2, .string t.1, .int .u16 t.2.1, .int .u32 t.2.2.1, .string t.2.2.2, v1, v2]
def delZ : List Value := [.string ⟨#[]⟩, .int .u16 0, .int .u32 0, .string ⟨#[]⟩, .string ⟨#[]⟩, .int .u16 0, .int .u32 0, .string ⟨#[]⟩, .slice none 0 0, .slice none 0 0]
theorem nextS_le (rs : List RecT) (i : Nat) (h : i ≤ rs.length) : nextS rs i ≤ rs.length := by
  unfold nextS
  have := (List.takeWhile_sublist (l := rs.drop i) (fun r => !soaB r)).length_le
  rw [List.length_drop] at this
  omega
theorem nextS_ge (rs : List RecT) (i : Nat) : i ≤ nextS rs i := by unfold nextS; omega
theorem wrap_facts9 (T T1 : Nat) (h : T1 = T + 1) (hT : T ≤ 1001) : wrap64 ((T : Int) + 1) = (T1 : Int) ∧ IntKind.i64.wrap ((T : Int) + 1) = (T1 : Int) := by
  refine ⟨by unfold wrap64; omega, by rw [IntKind.wrap_i64]; omega⟩
theorem min_facts9 (U L T1 : Nat) (h1 : T1 ≤ U) (h2 : T1 ≤ L) : ∃ b, b = min U L ∧ T1 ≤ b ∧ b ≤ L ∧ ((U ≤ L ∧ b = U) ∨ (L < U ∧ b = L)) := ⟨_, rfl, by omega, by omega, by omega⟩
theorem del_facts (n c i I1 T T1 L bh : Nat) (h1 : I1 = i + 1) (h2 : T1 = T + 1) (h3 : L = n - 1) (h4 : T1 ≤ L) (h5 : T1 ≤ bh) (h6 : bh ≤ L) (h7 : I1 ≤ T) (h8 : n ≤ c) (h9 : n ≤ 1000) :
    (i : Int) < n ∧ i < n ∧ (T : Int) < n ∧ T < n ∧ (I1 : Int) ≤ T ∧ I1 ≤ T ∧ (T : Int) ≤ c ∧ T ≤ c ∧ ¬ c = I1 ∧ ((T1 : Int) ≤ bh ∧ T1 ≤ bh) ∧ ((bh : Int) ≤ c ∧ bh ≤ c) ∧ ¬ c = T1 ∧ min (T - I1) (n - I1) = T - I1 ∧ min (bh - T1) (n - T1) = bh - T1 ∧ (T - I1 ≤ 1000000000 ∧ bh - T1 ≤ 1000000000) := by omega
theorem blk_obm {sz B : Nat} {W w : World} {v : Value} {n : Nat} {l : List Value} (h : OBM sz B W v n l w) : ∀ k, blkV v = some k → B ≤ k ∧ k < w.heap.size := by
  intro k hk
  refine h.lt k ?_
  rcases h.own with ⟨rfl, -⟩ | ⟨g, cap, rfl, -⟩
  · cases hk
  · exact hk
/-- What holds of the two copies, the box and the value that is put into it, while a delta is built. -/
structure RD (W : World) (mk : Value → Value → Value) (fin : Value → Value → Value → World → Prop) (d : Nat → Bool) (x : Nat → Value) (w : World) : Prop where
  bel : d 22 = false → Below W.heap.size W w
  lt13 : d 22 = false → d 13 = true → ∀ k, blkV (x 13) = some k → k < w.heap.size
  lt19 : d 22 = false → d 19 = true → ∀ k, blkV (x 19) = some k → k < w.heap.size
  lt21 : d 22 = false → d 21 = true → ∀ k, blkV (x 21) = some k → k < w.heap.size
  n13 : d 13 = true → d 21 = true → ∀ k, blkV (x 13) = some k → blkV (x 21) ≠ some k
  n19 : d 19 = true → d 21 = true → ∀ k, blkV (x 19) = some k → blkV (x 21) ≠ some k
  b20 : d 20 = true → d 13 = true ∧ d 19 = true ∧ x 20 = mk (x 13) (x 19)
  all : d 22 = true → ∀ i, i < 22 → d i = true
  f22 : d 22 = true → fin (x 13) (x 19) (x 21) w
theorem own_blk {v : Value} {k : Nat} (h : v.ownBlock = some k) : blkV v = some k := by
  cases v with
  | slice A n c => cases A with
    | none => simp [Value.ownBlock] at h
    | some a => simpa [Value.ownBlock, blkV] using h
  | _ => simp [Value.ownBlock] at h
section
variable {W w w' : World} {mk : Value → Value → Value} {fin : Value → Value → Value → World → Prop} {d : Nat → Bool} {x : Nat → Value}
theorem RD.no22 (h : RD W mk fin d x w) {i : Nat} (hd : d i = false) (hi : i < 22) : d 22 = false := by
  cases e : d 22 with
  | false => rfl
  | true => have := h.all e i hi; rw [hd] at this; cases this
theorem RD.next (h : RD W mk fin d x w) {i : Nat} (hd : d i = false) (he : Goes w w') (v : Value) (hi : i < 13 ∨ (13 < i ∧ i < 19) := by decide) : RD W mk fin (setD d i) (fun j => if j = i then v else x j) w' := by
  have h22 := h.no22 hd (by omega)
  have e : ∀ k, 13 = k ∨ 19 = k ∨ 20 = k ∨ 21 = k ∨ 22 = k → setD d i k = d k ∧ (if k = i then v else x k) = x k := fun k hk => ⟨setD_ne d (by omega), if_neg (by omega)⟩
  have s := he.size
  obtain ⟨p13, q13⟩ := e 13 (by omega)
  obtain ⟨p19, q19⟩ := e 19 (by omega)
  obtain ⟨p20, q20⟩ := e 20 (by omega)
  obtain ⟨p21, q21⟩ := e 21 (by omega)
  obtain ⟨p22, -⟩ := e 22 (by omega)
  constructor
  · exact fun _ => below_trans (h.bel h22) (h.bel h22).size he
  · rw [p13, q13]; exact fun _ hh k hk => Nat.lt_of_lt_of_le (h.lt13 h22 hh k hk) s
  · rw [p19, q19]; exact fun _ hh k hk => Nat.lt_of_lt_of_le (h.lt19 h22 hh k hk) s
  · rw [p21, q21]; exact fun _ hh k hk => Nat.lt_of_lt_of_le (h.lt21 h22 hh k hk) s
  · rw [p13, p21, q13, q21]; exact h.n13
  · rw [p19, p21, q19, q21]; exact h.n19
  · rw [p13, p19, p20, q13, q19, q20]; exact h.b20
  · rw [p22, h22]; intro h; cases h
  · rw [p22, h22]; intro h; cases h
theorem RD.own13 (h : RD W mk fin d x w) (hd : d 13 = false) (he : Goes w w') (v : Value) (hv : ∀ k, blkV v = some k → w.heap.size ≤ k ∧ k < w'.heap.size) : RD W mk fin (setD d 13) (fun j => if j = 13 then v else x j) w' := by
  have h22 := h.no22 hd (by omega)
  have s := he.size
  have e22 : setD d 13 22 = false := by rw [setD_ne d (by omega)]; exact h22
  constructor
  · exact fun _ => below_trans (h.bel h22) (h.bel h22).size he
  · exact fun _ _ k hk => (hv k hk).2
  · rw [setD_ne d (by omega)]; exact fun _ hh k hk => Nat.lt_of_lt_of_le (h.lt19 h22 hh k hk) s
  · rw [setD_ne d (i := 13) (j := 21) (by omega)]; exact fun _ hh k hk => Nat.lt_of_lt_of_le (h.lt21 h22 hh k hk) s
  · rw [setD_ne d (i := 13) (j := 21) (by omega)]; exact fun _ hh k hk e => by have := h.lt21 h22 hh k e; have := (hv k hk).1; omega
  · rw [setD_ne d (i := 13) (j := 21) (by omega), setD_ne d (i := 13) (j := 19) (by omega)]; exact h.n19
  · rw [setD_ne d (i := 13) (j := 20) (by omega)]; intro hh; have := (h.b20 hh).1; rw [hd] at this; cases this
  · rw [e22]; intro h; cases h
  · rw [e22]; intro h; cases h
theorem RD.own19 (h : RD W mk fin d x w) (hd : d 19 = false) (he : Goes w w') (v : Value) (hv : ∀ k, blkV v = some k → w.heap.size ≤ k ∧ k < w'.heap.size) : RD W mk fin (setD d 19) (fun j => if j = 19 then v else x j) w' := by
  have h22 := h.no22 hd (by omega)
  have s := he.size
  have e22 : setD d 19 22 = false := by rw [setD_ne d (by omega)]; exact h22
  constructor
  · exact fun _ => below_trans (h.bel h22) (h.bel h22).size he
  · rw [setD_ne d (by omega)]; exact fun _ hh k hk => Nat.lt_of_lt_of_le (h.lt13 h22 hh k hk) s
  · exact fun _ _ k hk => (hv k hk).2
  · rw [setD_ne d (i := 19) (j := 21) (by omega)]; exact fun _ hh k hk => Nat.lt_of_lt_of_le (h.lt21 h22 hh k hk) s
  · rw [setD_ne d (i := 19) (j := 21) (by omega), setD_ne d (i := 19) (j := 13) (by omega)]; exact h.n13
  · rw [setD_ne d (i := 19) (j := 21) (by omega)]; exact fun _ hh k hk e => by have := h.lt21 h22 hh k e; have := (hv k hk).1; omega
  · rw [setD_ne d (i := 19) (j := 20) (by omega)]; intro hh; have := (h.b20 hh).2.1; rw [hd] at this; cases this
  · rw [e22]; intro h; cases h
  · rw [e22]; intro h; cases h
theorem RD.box21 (h : RD W mk fin d x w) (hd : d 21 = false) (he : Goes w w') (v : Value) (hv : ∀ k, blkV v = some k → w.heap.size ≤ k ∧ k < w'.heap.size) : RD W mk fin (setD d 21) (fun j => if j = 21 then v else x j) w' := by
  have h22 := h.no22 hd (by omega)
  have s := he.size
  have e22 : setD d 21 22 = false := by rw [setD_ne d (by omega)]; exact h22
  constructor
  · exact fun _ => below_trans (h.bel h22) (h.bel h22).size he
  · rw [setD_ne d (by omega)]; exact fun _ hh k hk => Nat.lt_of_lt_of_le (h.lt13 h22 hh k hk) s
  · rw [setD_ne d (i := 21) (j := 19) (by omega)]; exact fun _ hh k hk => Nat.lt_of_lt_of_le (h.lt19 h22 hh k hk) s
  · exact fun _ _ k hk => (hv k hk).2
  · rw [setD_ne d (i := 21) (j := 13) (by omega)]; exact fun hh _ k hk e => by have := h.lt13 h22 hh k hk; have := (hv k e).1; omega
  · rw [setD_ne d (i := 21) (j := 19) (by omega)]; exact fun hh _ k hk e => by have := h.lt19 h22 hh k hk; have := (hv k e).1; omega
  · rw [setD_ne d (i := 21) (j := 20) (by omega), setD_ne d (i := 21) (j := 13) (by omega), setD_ne d (i := 21) (j := 19) (by omega)]; exact h.b20
  · rw [e22]; intro h; cases h
  · rw [e22]; intro h; cases h
theorem RD.build20 (h : RD W mk fin d x w) (hd : d 20 = false) (h13 : d 13 = true) (h19 : d 19 = true) (v : Value) (hv : v = mk (x 13) (x 19)) : RD W mk fin (setD d 20) (fun j => if j = 20 then v else x j) w := by
  have h22 := h.no22 hd (by omega)
  have e22 : setD d 20 22 = false := by rw [setD_ne d (by omega)]; exact h22
  constructor
  · exact fun _ => h.bel h22
  · exact fun _ _ => h.lt13 h22 h13
  · exact fun _ _ => h.lt19 h22 h19
  · rw [setD_ne d (i := 20) (j := 21) (by omega)]; exact fun _ hh => h.lt21 h22 hh
  · rw [setD_ne d (i := 20) (j := 21) (by omega)]; exact fun _ hh => h.n13 h13 hh
  · rw [setD_ne d (i := 20) (j := 21) (by omega)]; exact fun _ hh => h.n19 h19 hh
  · exact fun _ => ⟨by rw [setD_ne d (by omega)]; exact h13, by rw [setD_ne d (by omega)]; exact h19, hv⟩
  · rw [e22]; intro h; cases h
  · rw [e22]; intro h; cases h
theorem RD.store22 (h : RD W mk fin d x w) (hall : ∀ i, i < 22 → d i = true) (v : Value) (hf : fin (x 13) (x 19) (x 21) w') : RD W mk fin (setD d 22) (fun j => if j = 22 then v else x j) w' := by
  have e22 : setD d 22 22 = false → False := by rw [setD_self]; intro h; cases h
  constructor
  · exact fun h => (e22 h).elim
  · exact fun h => (e22 h).elim
  · exact fun h => (e22 h).elim
  · exact fun h => (e22 h).elim
  · exact fun _ _ => h.n13 (hall 13 (by omega)) (hall 21 (by omega))
  · exact fun _ _ => h.n19 (hall 19 (by omega)) (hall 21 (by omega))
  · exact fun _ => ⟨by rw [setD_ne d (by omega)]; exact hall 13 (by omega), by rw [setD_ne d (by omega)]; exact hall 19 (by omega), (h.b20 (hall 20 (by omega))).2.2⟩
  · exact fun _ i hi => by rw [setD_ne d (by omega)]; exact hall i hi
  · exact fun _ => hf
end
/-- delta's answer. -/
def DeltaA (sf : RecT → Nat) (fr : Nat) (rs : List RecT) (i : Nat) (w : World) (e : Ending) (w' : World) : Prop :=
  (∃ er : Nat, deltaR sf fr rs i = .inl er ∧ e = .returned (.tuple #[.agg delZ.toArray, .int .i64 0, .iface 36 (.int .i64 er)]) ∧ Below w.heap.size w w') ∨
  (∃ tq bh f t v1 v2, deltaR sf fr rs i = .inr (tq, bh) ∧ rs[i]? = some f ∧ rs[tq]? = some t ∧ e = .returned (.tuple #[.agg (delC f t v1 v2).toArray, .int .i64 (bh : Nat), .nilIface]) ∧
    OBM 4 w.heap.size w v1 (tq - (i + 1)) (flatR ((rs.drop (i + 1)).take (tq - (i + 1)))) w' ∧ OBM 4 w.heap.size w v2 (bh - (tq + 1)) (flatR ((rs.drop (tq + 1)).take (bh - (tq + 1)))) w')
set_option maxHeartbeats 800000 in
theorem delta_any (sf : RecT → Nat) (fr bb off n c i : Nat) (rs : List RecT) (w : World) (h : Recs w (some ⟨bb, off, none⟩) rs) (hl : rs.length = n) (hn : n ≤ 1000) (hi : i + 1 < n) (hc : n ≤ c) (hc2 : c ≤ maxLen)
    (hs : ∀ r ∈ rs, soaB r = true → ∀ w, Calls Tryd.prog 22 #[recV r] w fun e w' => e = .returned (.int .u32 (sf r : Nat)) ∧ Below w.heap.size w w') :
    Calls Tryd.prog 45 #[.int .u32 (fr : Nat), .slice (some ⟨bb, off, none⟩) n c, .int .i64 (i : Nat)] w (DeltaA sf fr rs i w) := by
  obtain ⟨AR, hAR⟩ : ∃ R, R = DeltaA sf fr rs i w := ⟨_, rfl⟩
  rw [← hAR]
  have HFAIL : Hid (∀ er : Nat, deltaR sf fr rs i = .inl er → ∀ w', Below w.heap.size w w' → AR (.returned (.tuple #[.agg delZ.toArray, .int .i64 0, .iface 36 (.int .i64 er)])) w') := Lib.hid (fun er hf w' hb => by rw [hAR]; exact .inl ⟨er, hf, rfl, hb⟩)
  have HGOOD : Hid (∀ tq bh f t v1 v2 w', deltaR sf fr rs i = .inr (tq, bh) → rs[i]? = some f → rs[tq]? = some t → OBM 4 w.heap.size w v1 (tq - (i + 1)) (flatR ((rs.drop (i + 1)).take (tq - (i + 1)))) w' → OBM 4 w.heap.size w v2 (bh - (tq + 1)) (flatR ((rs.drop (tq + 1)).take (bh - (tq + 1)))) w' →
      AR (.returned (.tuple #[.agg (delC f t v1 v2).toArray, .int .i64 (bh : Nat), .nilIface])) w') := Lib.hid (fun tq bh f t v1 v2 w' h1 h2 h3 h4 h5 => by rw [hAR]; exact .inr ⟨tq, bh, f, t, v1, v2, h1, h2, h3, rfl, h4, h5⟩)
  obtain ⟨r, hr⟩ : ∃ r, rs[i]? = some r := ⟨_, List.getElem?_eq_getElem (by omega)⟩
  have HDR : Hid (deltaR sf fr rs i = if soaB r = true then (if sf r = fr then (if n - 1 ≤ nextS rs (i + 1) then .inl 4 else .inr (nextS rs (i + 1), min (nextS rs (nextS rs (i + 1) + 1)) (n - 1))) else .inl 5) else .inl 4) := Lib.hid (by unfold deltaR; rw [hr]; simp only [hl])
  have HR := Lib.hid hr
  have IS := Lib.hid (fun w => isSoa_any r w)
  have SE := Lib.hid (hs r (List.mem_of_getElem? hr))
  obtain ⟨b1, o1, hA1, hb1, hr1⟩ := h.range hr
  injection hA1 with hA1; injection hA1 with q1 q2; subst q1 q2
  have HRG : Hid (∀ wx, Below w.heap.size w wx → wx.rangeAt bb (off + i * 4) (recCells r)) := Lib.hid (fun wx hb j v hv => (hb.cell (p := ⟨bb, off + i * 4 + j, none⟩) hb1).trans (hr1 j v hv))
  have HALL := Lib.hid h
  have HL := Lib.hid hl
  obtain ⟨r0, r1, r2, r3⟩ := r
  unfold recV at IS SE
  unfold recCells at HRG
  simp only at IS SE HRG
  have hin : (i : Int) < n := by omega
  have hin' : i < n := by omega
  have hi0 : (0 : Int) ≤ (i : Int) := by omega
  obtain ⟨I1, hI1⟩ : ∃ I1, I1 = i + 1 := ⟨_, rfl⟩
  have w1 : wrap64 ((i : Int) + 1) = (I1 : Int) := by unfold wrap64; omega
  have w1' : IntKind.i64.wrap ((i : Int) + 1) = (I1 : Int) := by rw [IntKind.wrap_i64]; omega
  rw [← hI1] at HDR HGOOD
  have HI1 := Lib.hid hI1
  clear hI1
  obtain ⟨L, hL⟩ : ∃ L, L = n - 1 := ⟨_, rfl⟩
  have w2 : wrap64 ((n : Int) - 1) = (L : Int) := by unfold wrap64; omega
  have w2' : IntKind.i64.wrap ((n : Int) - 1) = (L : Int) := by rw [IntKind.wrap_i64]; omega
  have HLL := Lib.hid hL
  have hZ := Cs.new w #[.string ⟨#[]⟩, .int .u16 0, .int .u32 0, .string ⟨#[]⟩, .string ⟨#[]⟩, .int .u16 0, .int .u32 0, .string ⟨#[]⟩, .slice none 0 0, .slice none 0 0] 43 delZ
  have hbZ := (Below.refl w.heap.size w).alloc (Nat.le_refl _) (.cells #[.string ⟨#[]⟩, .int .u16 0, .int .u32 0, .string ⟨#[]⟩, .string ⟨#[]⟩, .int .u16 0, .int .u32 0, .string ⟨#[]⟩, .slice none 0 0, .slice none 0 0] 43)
  have H0 := Lib.hid (And.intro hZ hbZ)
  clear h hl hs hAR hr hb1 hr1 hL hZ hbZ
  go_enter Tryd.func45, Tryd.ntmps45
  go_upto_region 1 with fail
  obtain ⟨hZ, hbZ⟩ := H0.out
  generalize w.alloc (.cells #[.string ⟨#[]⟩, .int .u16 0, .int .u32 0, .string ⟨#[]⟩, .string ⟨#[]⟩, .int .u16 0, .int .u32 0, .string ⟨#[]⟩, .slice none 0 0, .slice none 0 0] 43) = wa at *
  obtain ⟨g, hg⟩ : ∃ g, g = w.heap.size := ⟨_, rfl⟩
  rw [← hg] at hZ ⊢
  have HZ := Lib.hid hZ
  have HG := Lib.hid hg
  have HBA := Lib.hid hbZ
  have HRGa := Lib.hid (HRG.out wa hbZ)
  clear hZ hbZ hg H0
  -- how a way out with an error ends
  have OUT : Hid (∀ wx, Below wa.heap.size wa wx → Below w.heap.size w wx ∧ Cs wx g delZ) := Lib.hid (fun wx hb => ⟨below_trans HBA.out HBA.out.size hb, HZ.out.below hb⟩)
  go_wp2_with (first | refine wpList_load_midH rfl 41 _ rfl bb (off + i * 4) rfl _ _ HRGa.out Tryd.underlying41 rfl (by kernel_rfl) ?_)
  refine (IS.out _).mono ?_
  rintro e wb ⟨rfl, hbb⟩
  have HBB := Lib.hid hbb
  clear hbb
  cases es : soaB (r0, r1, r2, r3) with
  | false =>
    have hdr : deltaR sf fr rs i = .inl 4 := by rw [HDR.out, es]; rfl
    have HFR := Lib.hid hdr
    obtain ⟨hbx, hcx⟩ := OUT.out _ HBB.out
    have HTH := Lib.hid (hcx.there 10 rfl)
    have HM := Lib.hid (hcx.mid delZ rfl)
    have HBM := Lib.hid (below_setCells' (B := w.heap.size) (g := g) (by rw [HG.out]; exact Nat.le_refl _) delZ 0 hbx)
    clear hdr hbx hcx es
    go_wp2_with (first | refine wpList_store_mid rfl 43 _ _ rfl g 0 delZ.toArray rfl rfl HTH.out (by kernel_rfl) (by simp [delZ, Value.oneCell']) ?_)
    refine bodyPost_ret (v := .tuple #[.agg delZ.toArray, .int .i64 0, .iface 36 (.int .i64 (4 : Nat))]) (results_cellD Tryd.results45 _ _ _ g 0 _ _ rfl HM.out.range Tryd.underlying43 rfl (by kernel_rfl)) rfl ?_
    exact HFAIL.out 4 HFR.out _ HBM.out
  | true =>
    have HES := Lib.hid es
    have HRGb := Lib.hid (HRG.out wb (below_trans HBA.out HBA.out.size HBB.out))
    have SEC := Lib.hid (SE.out es)
    clear es SE
    go_upto_region 3 with fail
    go_wp2_with (first | refine wpList_load_midH rfl 41 _ rfl bb (off + i * 4) rfl _ _ HRGb.out Tryd.underlying41 rfl (by kernel_rfl) ?_)
    refine (SEC.out _).mono ?_
    rintro e wc ⟨rfl, hbc⟩
    have HBC := Lib.hid (below_trans HBB.out HBB.out.size hbc)
    clear hbc SEC
    obtain ⟨S, hS⟩ : ∃ S, S = sf (r0, r1, r2, r3) := ⟨_, rfl⟩
    rw [← hS]
    have HSS := Lib.hid hS
    clear hS
    by_cases hsf : S = fr
    · subst hsf
      have hq : ((S : Int) == (S : Int)) = true := by simp
      have hq2 : ((S : Int) != (S : Int)) = false := by simp
      have hI1 := HI1.out
      have HN1 := Lib.hid (fun (wx : World) (hb : Below w.heap.size w wx) => nextSoa_any (some ⟨bb, off, none⟩) n c rs I1 wx (HALL.out.below hb) HL.out (by omega) (by omega))
      obtain ⟨T, hT⟩ : ∃ T, T = nextS rs I1 := ⟨_, rfl⟩
      have hT1 : I1 ≤ T := by rw [hT]; exact nextS_ge _ _
      have hT2 : T ≤ n := by rw [hT]; have := nextS_le rs I1 (by rw [HL.out]; omega); rw [HL.out] at this; exact this
      rw [← hT] at HN1
      obtain ⟨T1, hT3⟩ : ∃ T1, T1 = T + 1 := ⟨_, rfl⟩
      have HDR2 : Hid (deltaR sf S rs i = if n - 1 ≤ T then .inl 4 else .inr (T, min (nextS rs T1) (n - 1))) := Lib.hid (by rw [HDR.out, HES.out, if_pos rfl, ← HSS.out, if_pos rfl, ← hT, ← hT3])
      have HN2 := Lib.hid (fun (wx : World) (hb : Below w.heap.size w wx) => nextSoa_any (some ⟨bb, off, none⟩) n c rs T1 wx (HALL.out.below hb) HL.out (by omega) (by omega))
      obtain ⟨hbx, hcx⟩ := OUT.out _ HBC.out
      have HBX := Lib.hid hbx
      have HCX := Lib.hid hcx
      have HT3 := Lib.hid hT3
      clear hT hbx hcx HDR HSS hI1 hT3
      go_wp2_with fail
      refine (HN1.out _ HBX.out).mono ?_
      rintro e wd ⟨rfl, hbd⟩
      have HBD := Lib.hid (below_trans HBX.out HBX.out.size hbd)
      have HCD := Lib.hid (HCX.out.below hbd)
      clear hbd HN1
      by_cases hTL : L ≤ T
      · have hTLi : (L : Int) ≤ T := by omega
        have hdr : deltaR sf S rs i = .inl 4 := by rw [HDR2.out, if_pos (by have := HLL.out; omega)]
        have HFR := Lib.hid hdr
        have HTH := Lib.hid (HCD.out.there 10 rfl)
        have HM := Lib.hid (HCD.out.mid delZ rfl)
        have HBM := Lib.hid (below_setCells' (B := w.heap.size) (g := g) (by rw [HG.out]; exact Nat.le_refl _) delZ 0 HBD.out)
        clear hdr
        go_wp2_with (first | refine wpList_store_mid rfl 43 _ _ rfl g 0 delZ.toArray rfl rfl HTH.out (by kernel_rfl) (by simp [delZ, Value.oneCell']) ?_)
        refine bodyPost_ret (v := .tuple #[.agg delZ.toArray, .int .i64 0, .iface 36 (.int .i64 (4 : Nat))]) (results_cellD Tryd.results45 _ _ _ g 0 _ _ rfl HM.out.range Tryd.underlying43 rfl (by kernel_rfl)) rfl ?_
        exact HFAIL.out 4 HFR.out _ HBM.out
      · have hTLi : ¬ (L : Int) ≤ T := by omega
        have hLn := HLL.out
        have hT3 := HT3.out
        have hLn := HLL.out
        have hTL2 : T1 ≤ L := by rw [hT3]; exact Nat.lt_of_not_le hTL
        obtain ⟨w3, w3'⟩ := wrap_facts9 T T1 hT3 (by rw [hT3] at hTL2; exact Nat.le_trans (Nat.le_trans (Nat.le_succ T) hTL2) (by rw [hLn]; exact Nat.le_trans (Nat.sub_le n 1) (Nat.le_trans hn (by decide))))
        obtain ⟨U, hU⟩ : ∃ U, U = nextS rs T1 := ⟨_, rfl⟩
        have hU1 : T1 ≤ U := by rw [hU]; exact nextS_ge _ _
        rw [← hU] at HN2 HDR2
        obtain ⟨bh, hbh, hbh1, hbh2, hmn⟩ := min_facts9 U L T1 hU1 hTL2
        have HGO : Hid (deltaR sf S rs i = .inr (T, bh)) := Lib.hid (by rw [HDR2.out, ← hLn, if_neg hTL, hbh])
        have HMN := Lib.hid hmn
        have HF := Lib.hid (And.intro hTL2 (And.intro hbh1 (And.intro hbh2 hT1)))
        clear hU hbh HDR2 hT3 hLn hmn hTL2 hU1 hbh1 hbh2
        go_upto_region 9 with fail
        go_wp2_with fail
        refine (HN2.out _ HBD.out).mono ?_
        rintro e we ⟨rfl, hbe⟩
        have HBE := Lib.hid (below_trans HBD.out HBD.out.size hbe)
        have HCE := Lib.hid (HCD.out.below hbe)
        clear hbe HN2
        have hmA : (if (L : Int) < (U : Int) then (L : Int) else (U : Int)) = (bh : Int) := by
          rcases HMN.out with ⟨h1, h2⟩ | ⟨h1, h2⟩
          · rw [if_neg (by omega), h2]
          · rw [if_pos (by omega), h2]
        have hmB : (if n - 1 < U then ((n - 1 : Nat) : Int) else (U : Int)) = (bh : Int) := by
          rw [← HLL.out]
          rcases HMN.out with ⟨h1, h2⟩ | ⟨h1, h2⟩
          · rw [if_neg (by omega), h2]
          · rw [if_pos h1, h2]
        go_upto_region 10 with fail
        clear hmA hmB
        obtain ⟨t, ht⟩ : ∃ r, rs[T]? = some r := ⟨_, List.getElem?_eq_getElem (by rw [HL.out]; have := HF.out.1; have := HLL.out; have := HT3.out; omega)⟩
        have HT := Lib.hid ht
        obtain ⟨b1, o1, hA1, hb1, hr1⟩ := HALL.out.range ht
        injection hA1 with hA1; injection hA1 with q1 q2; subst q1 q2
        have HRT : Hid (∀ wx, Below w.heap.size w wx → wx.rangeAt bb (off + T * 4) (recCells t)) := Lib.hid (fun wx hb j v hv => (hb.cell (p := ⟨bb, off + T * 4 + j, none⟩) hb1).trans (hr1 j v hv))
        obtain ⟨l1, hl1⟩ : ∃ l, l = (rs.drop I1).take (T - I1) := ⟨_, rfl⟩
        obtain ⟨l2, hl2⟩ : ∃ l, l = (rs.drop T1).take (bh - T1) := ⟨_, rfl⟩
        obtain ⟨j1, j2, j3, j4, j5, j6, j7, j8, j9, ja, jb, jc, jd, je, jf⟩ := del_facts n c i I1 T T1 L bh HI1.out HT3.out HLL.out HF.out.1 HF.out.2.1 HF.out.2.2.1 HF.out.2.2.2 hc hn
        have K1 : Hid (∀ wx, Below w.heap.size w wx → Calls Tryd.prog 44 #[.slice (some ⟨bb, off + I1 * 4, none⟩) (T - I1) (c - I1)] wx fun e w' => ∃ v, e = .returned v ∧ OBM 4 wx.heap.size wx v (T - I1) (flatR l1) w') := Lib.hid (fun wx hb => by
          have h1 := ((HALL.out.below hb).part I1 (T - I1)).sl
          rw [← hl1, show l1.length = T - I1 by rw [hl1, List.length_take, List.length_drop, HL.out]; exact jd] at h1
          exact clone_recs _ _ _ _ _ _ h1 (flatR_one _) (fun e => by cases e) jf.1)
        have K2 : Hid (∀ wx, Below w.heap.size w wx → Calls Tryd.prog 44 #[.slice (some ⟨bb, off + T1 * 4, none⟩) (bh - T1) (c - T1)] wx fun e w' => ∃ v, e = .returned v ∧ OBM 4 wx.heap.size wx v (bh - T1) (flatR l2) w') := Lib.hid (fun wx hb => by
          have h1 := ((HALL.out.below hb).part T1 (bh - T1)).sl
          rw [← hl2, show l2.length = bh - T1 by rw [hl2, List.length_take, List.length_drop, HL.out]; exact je] at h1
          exact clone_recs _ _ _ _ _ _ h1 (flatR_one _) (fun e => by cases e) jf.2)
        have HFIN := Lib.hid (fun v1 v2 w' => HGOOD.out T bh (r0, r1, r2, r3) t v1 v2 w' HGO.out HR.out ht)
        rw [← hl1, ← HT3.out, ← hl2] at HFIN
        obtain ⟨t0, t1, t2, t3⟩ := t
        unfold recCells at HRT
        unfold delC at HFIN
        simp only at HRT HFIN
        obtain ⟨VF, hVF⟩ : ∃ v : Value, v = .agg #[.string r0, .int .u16 r1, .int .u32 r2, .string r3] := ⟨_, rfl⟩
        obtain ⟨VT, hVT⟩ : ∃ v : Value, v = .agg #[.string t0, .int .u16 t1, .int .u32 t2, .string t3] := ⟨_, rfl⟩
        have HVF := Lib.hid hVF
        have HVT := Lib.hid hVT
        have HBEs := Lib.hid HBE.out.size
        clear hl1 hl2 ht hb1 hr1 jd je jf hVF hVT HGOOD HGO
        refine wp_region_expR data_follows (fun x => by simp [putsF, Act.put]; rfl) (RD we (fun v1 v2 => .agg #[.string r0, .int .u16 r1, .int .u32 r2, .string r3, .string t0, .int .u16 t1, .int .u32 t2, .string t3, v1, v2])
            (fun v1 v2 vq v => Below we.heap.size we v ∧ OBM 4 we.heap.size we v1 (T - I1) (flatR l1) v ∧ OBM 4 we.heap.size we v2 (bh - T1) (flatR l2) v ∧ ∃ q, vq = .pointer (some ⟨q, 0, none⟩) ∧ we.heap.size ≤ q ∧ Cs v q [.string r0, .int .u16 r1, .int .u32 r2, .string r3, .string t0, .int .u16 t1, .int .u32 t2, .string t3, v1, v2]))
          [isX (.slice (some ⟨bb, off, none⟩) n c), isX (.int .i64 (i : Nat)), isX (.pointer (some ⟨bb, off + i * 4, none⟩)), isX VF, isX (.slice (some ⟨bb, off, none⟩) n c), isX (.int .i64 (T : Nat)), isX (.pointer (some ⟨bb, off + T * 4, none⟩)), isX VT,
           isX (.slice (some ⟨bb, off, none⟩) n c), isX (.int .i64 (i : Nat)), isX (.int .i64 (I1 : Nat)), isX (.int .i64 (T : Nat)), isX (.slice (some ⟨bb, off + I1 * 4, none⟩) (T - I1) (c - I1)), until_ 22 (ownW 4 we.heap.size we (T - I1) (flatR l1)),
           isX (.slice (some ⟨bb, off, none⟩) n c), isX (.int .i64 (T : Nat)), isX (.int .i64 (T1 : Nat)), isX (.int .i64 (bh : Nat)), isX (.slice (some ⟨bb, off + T1 * 4, none⟩) (bh - T1) (c - T1)), until_ 22 (ownW 4 we.heap.size we (bh - T1) (flatR l2)),
           always (fun _ _ => True), until_ 22 (boxW we.heap.size delZ), always (fun _ _ => True)]
          [22] (by kernel_rfl) (by kernel_rfl) (by kernel_rfl) rfl ?_ ?_ ?_ ?_ ?_
        · repeat (first | exact trivial | refine ⟨by first | exact isX_stays _ | exact until_stays (ownW_stays _ _ _ _ _) | exact until_stays (boxW_stays _ _) | exact always_stays (fun _ _ _ _ _ => trivial), ?_⟩)
        · exact ⟨fun _ => (Below.refl _ _).drew, fun _ h => (by cases h), fun _ h => (by cases h), fun _ h => (by cases h), fun h => (by cases h), fun h => (by cases h), fun h => (by cases h), fun h => (by cases h), fun h => (by cases h)⟩
        · refine ⟨?_, ?_, ?_, ?_, ?_, ?_, ?_, ?_, ?_, ?_, ?_, ?_, ?_, ?_, ?_, ?_, ?_, ?_, ?_, ?_, ?_, ?_, skipped rfl, trivial⟩
          all_goals
            intro _ d x wx hR hdi hsrc hd
            refine ⟨fun _ => ?_, fun hX => by simp at hX⟩
            have hRb := hR.bel (hR.no22 hdi (by decide))
            simp [wordX, isX] at hd ⊢
          · go_simp; exact nextXR _ rfl rfl (hR.next hdi (Below.refl _ _) _) (Below.refl _ _)
          · go_simp; exact nextXR _ rfl rfl (hR.next hdi (Below.refl _ _) _) (Below.refl _ _)
          · obtain ⟨hd0, hd1⟩ := hd; go_simp; exact nextXR _ rfl rfl (hR.next hdi (Below.refl _ _) _) (Below.refl _ _)
          · refine wp_load_mid 41 _ rfl bb (off + i * 4) (by simp [go_sem, hd]) _ _ (HRG.out wx (below_trans HBE.out HBE.out.size hRb)) Tryd.underlying41 rfl (by kernel_rfl) ?_
            exact nextXR _ rfl HVF.out.symm (hR.next hdi (Below.refl _ _) _) (Below.refl _ _)
          · go_simp; exact nextXR _ rfl rfl (hR.next hdi (Below.refl _ _) _) (Below.refl _ _)
          · go_simp; exact nextXR _ rfl rfl (hR.next hdi (Below.refl _ _) _) (Below.refl _ _)
          · obtain ⟨hd0, hd1⟩ := hd; go_simp; exact nextXR _ rfl rfl (hR.next hdi (Below.refl _ _) _) (Below.refl _ _)
          · refine wp_load_mid 41 _ rfl bb (off + T * 4) (by simp [go_sem, hd]) _ _ (HRT.out wx (below_trans HBE.out HBE.out.size hRb)) Tryd.underlying41 rfl (by kernel_rfl) ?_
            exact nextXR _ rfl HVT.out.symm (hR.next hdi (Below.refl _ _) _) (Below.refl _ _)
          · go_simp; exact nextXR _ rfl rfl (hR.next hdi (Below.refl _ _) _) (Below.refl _ _)
          · go_simp; exact nextXR _ rfl rfl (hR.next hdi (Below.refl _ _) _) (Below.refl _ _)
          · go_simp; exact nextXR _ rfl rfl (hR.next hdi (Below.refl _ _) _) (Below.refl _ _)
          · go_simp; exact nextXR _ rfl rfl (hR.next hdi (Below.refl _ _) _) (Below.refl _ _)
          · first
              | (obtain ⟨hd0, hd1, hd2⟩ := hd; go_simp; exact nextXR _ rfl rfl (hR.next hdi (Below.refl _ _) _) (Below.refl _ _))
              | (obtain ⟨hd0, hd1⟩ := hd; go_simp; exact nextXR _ rfl rfl (hR.next hdi (Below.refl _ _) _) (Below.refl _ _))
          · first | simp [hd] | simp [hd.1] | skip
            go_simp
            go_at_call 44
            refine (K1.out wx (below_trans HBE.out HBE.out.size hRb)).mono ?_
            rintro r wy ⟨v, rfl, ho⟩
            exact nextXR v rfl (until_of (ho.out hRb.size hRb)) (hR.own13 hdi ho.bel v (blk_obm ho)) ho.bel
          · go_simp; exact nextXR _ rfl rfl (hR.next hdi (Below.refl _ _) _) (Below.refl _ _)
          · go_simp; exact nextXR _ rfl rfl (hR.next hdi (Below.refl _ _) _) (Below.refl _ _)
          · go_simp; exact nextXR _ rfl rfl (hR.next hdi (Below.refl _ _) _) (Below.refl _ _)
          · go_simp; exact nextXR _ rfl rfl (hR.next hdi (Below.refl _ _) _) (Below.refl _ _)
          · first
              | (obtain ⟨hd0, hd1, hd2⟩ := hd; go_simp; exact nextXR _ rfl rfl (hR.next hdi (Below.refl _ _) _) (Below.refl _ _))
              | (obtain ⟨hd0, hd1⟩ := hd; go_simp; exact nextXR _ rfl rfl (hR.next hdi (Below.refl _ _) _) (Below.refl _ _))
          · first | simp [hd] | simp [hd.1] | skip
            go_simp
            go_at_call 44
            refine (K2.out wx (below_trans HBE.out HBE.out.size hRb)).mono ?_
            rintro r wy ⟨v, rfl, ho⟩
            exact nextXR v rfl (until_of (ho.out hRb.size hRb)) (hR.own19 hdi ho.bel v (blk_obm ho)) ho.bel
          · have d13 : d 13 = true := hsrc ⟨13, .data⟩ (by simp) rfl
            have d19 : d 19 = true := hsrc ⟨19, .data⟩ (by simp) rfl
            obtain ⟨h3, h7, h13, h19⟩ := hd
            have o13 : OBM 4 we.heap.size we (x 13) (T - I1) (flatR l1) wx := h13 (hR.no22 hdi (by decide))
            have o19 : OBM 4 we.heap.size we (x 19) (bh - T1) (flatR l2) wx := h19 (hR.no22 hdi (by decide))
            obtain ⟨A1, c1, e13, -⟩ := o13.slice
            obtain ⟨A2, c2, e19, -⟩ := o19.slice
            rw [HVF.out] at h3
            rw [HVT.out] at h7
            clear h13 h19 o13 o19
            simp only [h3, h7, e13, e19]
            go_simp
            refine nextXR _ rfl ?_ (hR.build20 hdi d13 d19 _ ?_) (Below.refl _ _)
            · exact trivial
            · rw [e13, e19]
          · go_simp; exact nextXR _ rfl (until_of ⟨_, rfl, hRb.size, Cs.new _ _ _ _⟩) (hR.box21 hdi ((Below.refl _ _).alloc (Nat.le_refl _) _) _ (fun k hk => by injection hk with hk; subst hk; simp)) ((Below.refl _ _).alloc (Nat.le_refl _) _)
        · refine ⟨unskipped rfl, unskipped rfl, unskipped rfl, unskipped rfl, unskipped rfl, unskipped rfl, unskipped rfl, unskipped rfl, unskipped rfl, unskipped rfl, unskipped rfl, unskipped rfl, unskipped rfl, unskipped rfl, unskipped rfl, unskipped rfl, unskipped rfl, unskipped rfl, unskipped rfl, unskipped rfl, unskipped rfl, unskipped rfl, ?_, trivial⟩
          intro _ d x wx hR hdi hcl hsrc hd
          refine ⟨fun _ => ?_, fun hX => by simp at hX⟩
          have hall : ∀ i, i < 22 → d i = true := fun i hi => by
            refine SrcX.reach (K := 22) hcl hsrc rfl 20 i (by omega) ?_
            revert i
            decide +kernel
          have hRb := hR.bel hdi
          simp only [DoneX] at hd
          obtain ⟨-, -, -, -, -, -, -, -, -, -, -, -, -, h13, -, -, -, -, -, h19, -, h21, -⟩ := hd
          have o13 : OBM 4 we.heap.size we (x 13) (T - I1) (flatR l1) wx := h13 (hall 13 (by decide)) hdi
          have o19 : OBM 4 we.heap.size we (x 19) (bh - T1) (flatR l2) wx := h19 (hall 19 (by decide)) hdi
          obtain ⟨q, x21, hq, hcq⟩ : boxW we.heap.size delZ (x 21) wx := h21 (hall 21 (by decide)) hdi
          have x20 := (hR.b20 (hall 20 (by decide))).2.2
          have n13 := hR.n13 (hall 13 (by decide)) (hall 21 (by decide))
          have n19 := hR.n19 (hall 19 (by decide)) (hall 21 (by decide))
          obtain ⟨A1, c1, e13, -⟩ := o13.slice
          obtain ⟨A2, c2, e19, -⟩ := o19.slice
          have hst := setCells_heap wx q [.string r0, .int .u16 r1, .int .u32 r2, .string r3, .string t0, .int .u16 t1, .int .u32 t2, .string t3, x 13, x 19] 0
          have hbs := below_setCells' hq [.string r0, .int .u16 r1, .int .u32 r2, .string r3, .string t0, .int .u16 t1, .int .u32 t2, .string t3, x 13, x 19] 0 hRb
          have hX := hR.store22 hall undef (w' := wx.setCells q 0 [.string r0, .int .u16 r1, .int .u32 r2, .string r3, .string t0, .int .u16 t1, .int .u32 t2, .string t3, x 13, x 19]) ⟨hbs,
            o13.block hbs (by rw [hst.1]; exact Nat.le_refl _) (fun k hk => hst.2 k (fun e => n13 k (own_blk hk) (by rw [x21, e]; rfl))),
            o19.block hbs (by rw [hst.1]; exact Nat.le_refl _) (fun k hk => hst.2 k (fun e => n19 k (own_blk hk) (by rw [x21, e]; rfl))),
            q, x21, hq, hcq.mid _ rfl⟩
          dsimp only
          refine wp_store_mid 43 _ _ rfl q 0 #[.string r0, .int .u16 r1, .int .u32 r2, .string r3, .string t0, .int .u16 t1, .int .u32 t2, .string t3, x 13, x 19] x21 x20 (hcq.there 10 rfl) (by kernel_rfl) (by rw [e13, e19]; simp [Value.oneCell']) ?_
          refine nextKR _ rfl trivial hX ?_
          exact ⟨fun _ _ h => h, fun _ _ h => h, fun _ _ h => h, fun _ _ h => h, fun _ _ h => h, fun _ _ h => h, fun _ _ h => h, fun _ _ h => h, fun _ _ h => h, fun _ _ h => h, fun _ _ h => h, fun _ _ h => h, fun _ _ h => h, fun _ _ _ => until_self, fun _ _ h => h, fun _ _ h => h, fun _ _ h => h, fun _ _ h => h, fun _ _ h => h, fun _ _ _ => until_self, fun _ _ h => h, fun _ _ _ => until_self, fun h => absurd rfl h, trivial⟩
        · intro x w4 d hall hR hx
          have hR22 := hR.f22 (hall 22 (by decide))
          obtain ⟨hb4, ho1, ho2, q, x21, hq, hc⟩ := hR22
          clear hx hR hall
          generalize x 13 = V1 at *
          generalize x 19 = V2 at *
          obtain ⟨A1, c1, rfl, -⟩ := ho1.slice
          obtain ⟨A2, c2, rfl, -⟩ := ho2.slice
          rw [x21]
          have hCG := (HCE.out.below hb4)
          have HTH := Lib.hid (hCG.there 10 rfl)
          have HRQ := Lib.hid hc.range
          have HM := Lib.hid (hCG.mid [.string r0, .int .u16 r1, .int .u32 r2, .string r3, .string t0, .int .u16 t1, .int .u32 t2, .string t3, .slice A1 (T - I1) c1, .slice A2 (bh - T1) c2] rfl)
          have hst := setCells_heap w4 g [.string r0, .int .u16 r1, .int .u32 r2, .string r3, .string t0, .int .u16 t1, .int .u32 t2, .string t3, .slice A1 (T - I1) c1, .slice A2 (bh - T1) c2] 0
          have hgl : w.heap.size ≤ g := by rw [HG.out]; exact Nat.le_refl _
          have hge : g < we.heap.size := HCE.out.lt
          have hb5 := below_setCells' hgl [.string r0, .int .u16 r1, .int .u32 r2, .string r3, .string t0, .int .u16 t1, .int .u32 t2, .string t3, .slice A1 (T - I1) c1, .slice A2 (bh - T1) c2] 0 (below_trans HBE.out HBE.out.size hb4)
          have O1 := Lib.hid ((ho1.out HBE.out.size HBE.out).block hb5 (by rw [hst.1]; exact Nat.le_refl _) (fun k hk => hst.2 k (fun e => by have := (ho1.lt k hk).1; omega)))
          have O2 := Lib.hid ((ho2.out HBE.out.size HBE.out).block hb5 (by rw [hst.1]; exact Nat.le_refl _) (fun k hk => hst.2 k (fun e => by have := (ho2.lt k hk).1; omega)))
          clear hCG hst hgl hge hb5 ho1 ho2 hc hb4 x21
          go_wp2_with (first | refine wpList_load_mid rfl 43 _ rfl q 0 rfl _ _ HRQ.out Tryd.underlying43 rfl (by kernel_rfl) ?_ | refine wpList_store_mid rfl 43 _ _ rfl g 0 #[.string r0, .int .u16 r1, .int .u32 r2, .string r3, .string t0, .int .u16 t1, .int .u32 t2, .string t3, .slice A1 (T - I1) c1, .slice A2 (bh - T1) c2] rfl rfl HTH.out (by kernel_rfl) (by simp [Value.oneCell']) ?_)
          refine bodyPost_ret (v := .tuple #[.agg #[.string r0, .int .u16 r1, .int .u32 r2, .string r3, .string t0, .int .u16 t1, .int .u32 t2, .string t3, .slice A1 (T - I1) c1, .slice A2 (bh - T1) c2], .int .i64 (bh : Nat), .nilIface]) (results_cellD Tryd.results45 _ _ _ g 0 _ _ rfl HM.out.range Tryd.underlying43 rfl (by kernel_rfl)) rfl ?_
          exact HFIN.out _ _ _ O1.out O2.out
    · have hq : ((S : Int) == (fr : Int)) = false := by rw [beq_eq_false_iff_ne]; omega
      have hq2 : ((S : Int) != (fr : Int)) = true := by simp [bne, hq]
      have hdr : deltaR sf fr rs i = .inl 5 := by rw [HDR.out, HES.out, if_pos rfl, ← HSS.out, if_neg hsf]
      have HFR := Lib.hid hdr
      obtain ⟨hbx, hcx⟩ := OUT.out _ HBC.out
      have HTH := Lib.hid (hcx.there 10 rfl)
      have HM := Lib.hid (hcx.mid delZ rfl)
      have HBM := Lib.hid (below_setCells' (B := w.heap.size) (g := g) (by rw [HG.out]; exact Nat.le_refl _) delZ 0 hbx)
      clear hdr hbx hcx
      go_wp2_with (first | refine wpList_store_mid rfl 43 _ _ rfl g 0 delZ.toArray rfl rfl HTH.out (by kernel_rfl) (by simp [delZ, Value.oneCell']) ?_)
      refine bodyPost_ret (v := .tuple #[.agg delZ.toArray, .int .i64 0, .iface 36 (.int .i64 (5 : Nat))]) (results_cellD Tryd.results45 _ _ _ g 0 _ _ rfl HM.out.range Tryd.underlying43 rfl (by kernel_rfl)) rfl ?_
      exact HFAIL.out 5 HFR.out _ HBM.out
end Go.Proofs.YtpbbnpglcadimaaDoor
namespace Go.Proofs.YtpbbnpglcadimaaDoor
open Go.RowKit
set_option linter.unusedVariables false
set_option linter.unusedSimpArgs false
set_option maxRecDepth 20000
attribute [local simp] putsF isV wordOf Deps Region.binds Region.wanted Act.put wantedX isB
/-- Where a delta begins, its second SOA, the place behind it. -/
abbrev DTrip := Nat × Nat × Nat
def rAt (rs : List RecT) (i : Nat) : RecT := rs[i]?.getD (⟨#[]⟩, 0, 0, ⟨#[]⟩)
theorem rAt_of {rs : List RecT} {i : Nat} {r : RecT} (h : rs[i]? = some r) : rAt rs i = r := by unfold rAt; rw [h]; rfl
def deltasG (sf : RecT → Nat) (rs : List RecT) : Nat → Nat → Nat → Nat ⊕ List DTrip
  | 0, _, _ => .inr []
  | k + 1, fr, i => if i < rs.length - 1 then (match deltaR sf fr rs i with
      | .inl e => .inl e
      | .inr (t, b) => (match deltasG sf rs k (sf (rAt rs t)) b with
        | .inl e => .inl e
        | .inr ds => .inr ((i, t, b) :: ds))) else .inr []
def preD (done : List DTrip) : Nat ⊕ List DTrip → Nat ⊕ List DTrip
  | .inl e => .inl e
  | .inr ds => .inr (done ++ ds)
theorem deltasG_stop {sf : RecT → Nat} {rs : List RecT} {k fr i : Nat} (h : ¬ i < rs.length - 1) : deltasG sf rs k fr i = .inr [] := by
  cases k with
  | zero => rfl
  | succ k => unfold deltasG; rw [if_neg h]
theorem deltasG_err {sf : RecT → Nat} {rs : List RecT} {k fr i e : Nat} (h : i < rs.length - 1) (hk : 0 < k) (he : deltaR sf fr rs i = .inl e) : deltasG sf rs k fr i = .inl e := by
  cases k with
  | zero => omega
  | succ k => unfold deltasG; rw [if_pos h, he]
theorem deltasG_next {sf : RecT → Nat} {rs : List RecT} {k fr i t b : Nat} (done : List DTrip) (h : i < rs.length - 1) (he : deltaR sf fr rs i = .inr (t, b)) : preD done (deltasG sf rs (k + 1) fr i) = preD (done ++ [(i, t, b)]) (deltasG sf rs k (sf (rAt rs t)) b) := by
  conv => lhs; unfold deltasG
  rw [if_pos h, he]
  simp only
  cases deltasG sf rs k (sf (rAt rs t)) b with
  | inl e => rfl
  | inr ds => simp [preD]
def endOk (rs : List RecT) (ts : List DTrip) : Bool := match ts.getLast? with
  | none => false
  | some x => eqB (rAt rs (rs.length - 1)) (rAt rs 0) && eqB (rAt rs x.2.1) (rAt rs 0)
/-- The deltas, or why there are none. -/
def deltasR (sf : RecT → Nat) (fr : Nat) (rs : List RecT) : Nat ⊕ List DTrip := match deltasG sf rs rs.length fr 1 with
  | .inl e => .inl e
  | .inr ts => if endOk rs ts = true then .inr ts else .inl 4
/-- A delta: its places, the slices that it holds. -/
abbrev DT := DTrip × Value × Value
def delX (rs : List RecT) (x : DT) : List Value := delC (rAt rs x.1.1) (rAt rs x.1.2.1) x.2.1 x.2.2
def flatD (rs : List RecT) (xs : List DT) : List Value := xs.flatMap (delX rs)
theorem flatD_len (rs : List RecT) (xs : List DT) : (flatD rs xs).length = xs.length * 10 := by
  unfold flatD
  induction xs with
  | nil => rfl
  | cons x xs ih => rw [List.flatMap_cons, List.length_append, ih, List.length_cons, show (delX rs x).length = 10 from rfl]; omega
theorem flatD_snoc (rs : List RecT) (xs : List DT) (x : DT) : flatD rs (xs ++ [x]) = flatD rs xs ++ delX rs x := by unfold flatD; simp
structure DOk (W : World) (rs : List RecT) (x : DT) (w : World) : Prop where
  gone : OBM 4 W.heap.size W x.2.1 (x.1.2.1 - (x.1.1 + 1)) (flatR ((rs.drop (x.1.1 + 1)).take (x.1.2.1 - (x.1.1 + 1)))) w
  new : OBM 4 W.heap.size W x.2.2 (x.1.2.2 - (x.1.2.1 + 1)) (flatR ((rs.drop (x.1.2.1 + 1)).take (x.1.2.2 - (x.1.2.1 + 1)))) w
theorem DOk.keep {W w w' : World} {C : Nat} {rs : List RecT} {x : DT} (h : DOk W rs x w) (hb : Below C w w') (hC : w.heap.size ≤ C) : DOk W rs x w' := ⟨h.gone.keep hb hC, h.new.keep hb hC⟩
theorem DOk.out {W W' w : World} {rs : List RecT} {x : DT} (h : DOk W rs x w) (hC : W'.heap.size ≤ W.heap.size) (h0 : Below W'.heap.size W' W) : DOk W' rs x w := ⟨h.gone.out hC h0, h.new.out hC h0⟩
/-- What the deltas hold does not lie where the deltas do. -/
def DJ (xs : List DT) (vo : Value) : Prop := ∀ x ∈ xs, ∀ q, vo.ownBlock = some q → x.2.1.ownBlock ≠ some q ∧ x.2.2.ownBlock ≠ some q
theorem dok_append {W w w' : World} {rs : List RecT} {xs : List DT} {vo : Value} (hx : ∀ x ∈ xs, DOk W rs x w) (dj : DJ xs vo) (hb : Below W.heap.size W w') (hs : w.heap.size ≤ w'.heap.size) (q3 : ∀ k, k < w.heap.size → some k ≠ vo.ownBlock → w'.heap[k]? = w.heap[k]?) : ∀ x ∈ xs, DOk W rs x w' :=
  fun x hm => ⟨(hx x hm).gone.block hb hs (fun k hk => q3 k ((hx x hm).gone.lt k hk).2 (fun e => (dj x hm k e.symm).1 hk)), (hx x hm).new.block hb hs (fun k hk => q3 k ((hx x hm).new.lt k hk).2 (fun e => (dj x hm k e.symm).2 hk))⟩
theorem dj_append {W w : World} {rs : List RecT} {xs : List DT} {vo v' : Value} (hx : ∀ x ∈ xs, DOk W rs x w) (dj : DJ xs vo) (q4 : v'.ownBlock = vo.ownBlock ∨ v'.ownBlock = some w.heap.size) : DJ xs v' := by
  intro x hm q hq
  rcases q4 with h | h
  · rw [h] at hq; exact dj x hm q hq
  · rw [h] at hq
    injection hq with hq
    subst hq
    exact ⟨fun e => by have := ((hx x hm).gone.lt _ e).2; omega, fun e => by have := ((hx x hm).new.lt _ e).2; omega⟩
theorem preD_nil (s : Nat ⊕ List DTrip) : preD [] s = s := by cases s <;> rfl
theorem soa_next {rs : List RecT} {i : Nat} (h : nextS rs i < rs.length) : ∃ r, rs[nextS rs i]? = some r ∧ soaB r = true := by
  refine ⟨_, List.getElem?_eq_getElem h, ?_⟩
  have key : ∀ (l : List RecT) (hk : (l.takeWhile fun r => !soaB r).length < l.length), soaB (l[(l.takeWhile fun r => !soaB r).length]'hk) = true := by
    intro l
    induction l with
    | nil => intro hk; simp at hk
    | cons a l ih =>
      intro hk
      cases ha : soaB a with
      | true => simp [List.takeWhile_cons, ha]
      | false =>
        have : ((a :: l).takeWhile fun r => !soaB r) = a :: (l.takeWhile fun r => !soaB r) := by simp [List.takeWhile_cons, ha]
        simp only [this, List.length_cons] at hk ⊢
        simp only [List.getElem_cons_succ]
        exact ih (by omega)
  have h1 : ((rs.drop i).takeWhile fun r => !soaB r).length < (rs.drop i).length := by unfold nextS at h; rw [List.length_drop]; omega
  have := key (rs.drop i) h1
  rw [List.getElem_drop] at this
  unfold nextS
  exact this
theorem deltaR_good {sf : RecT → Nat} {fr i t b : Nat} {rs : List RecT} (h : deltaR sf fr rs i = .inr (t, b)) : i + 1 ≤ t ∧ t + 1 ≤ b ∧ b ≤ rs.length - 1 ∧ ∃ r, rs[t]? = some r ∧ soaB r = true := by
  unfold deltaR at h
  split at h
  · cases h
  · split at h
    · split at h
      · split at h
        · cases h
        · rename_i hT
          injection h with h; injection h with h1 h2
          have g1 := nextS_ge rs (i + 1)
          have g2 := nextS_ge rs (nextS rs (i + 1) + 1)
          have g3 := soa_next (rs := rs) (i := i + 1) (by omega)
          rw [h1] at g1 g2 g3 hT h2
          exact ⟨g1, by omega, by omega, g3⟩
      · cases h
    · cases h
theorem delC_one {f t : RecT} {v1 v2 : Value} (h1 : v1.oneCell' = true) (h2 : v2.oneCell' = true) : ∀ u ∈ delC f t v1 v2, u.oneCell' = true := by
  intro u hu
  unfold delC at hu
  simp only [List.mem_cons, List.not_mem_nil, or_false] at hu
  rcases hu with rfl | rfl | rfl | rfl | rfl | rfl | rfl | rfl | rfl | rfl <;> first | rfl | assumption
theorem del_info : (Tryd.prog.info? 43).map (fun i => (i.zero, i.size, i.bytes)) = some (some (.agg delZ.toArray), 10, 128) := by kernel_rfl
/-- deltas' answer. -/
def DeltasA (sf : RecT → Nat) (fr : Nat) (rs : List RecT) (w : World) (e : Ending) (w' : World) : Prop :=
  (∃ er : Nat, deltasR sf fr rs = .inl er ∧ e = .returned (.tuple #[.slice none 0 0, .iface 36 (.int .i64 er)]) ∧ Below w.heap.size w w') ∨
  (∃ (ts : List DTrip) (xs : List DT) (v : Value), deltasR sf fr rs = .inr ts ∧ xs.map (·.1) = ts ∧ e = .returned (.tuple #[v, .nilIface]) ∧ OBM 10 w.heap.size w v xs.length (flatD rs xs) w' ∧ ∀ x ∈ xs, DOk w rs x w')
set_option maxHeartbeats 3200000 in
theorem deltas_any (sf : RecT → Nat) (fr bb off n c : Nat) (rs : List RecT) (w : World) (h : Recs w (some ⟨bb, off, none⟩) rs) (hl : rs.length = n) (hn : n ≤ 1000) (h2 : 2 ≤ n) (hc : n ≤ c) (hc2 : c ≤ maxLen)
    (hs : ∀ r ∈ rs, soaB r = true → ∀ w, Calls Tryd.prog 22 #[recV r] w fun e w' => e = .returned (.int .u32 (sf r : Nat)) ∧ Below w.heap.size w w') :
    Calls Tryd.prog 24 #[.int .u32 (fr : Nat), .slice (some ⟨bb, off, none⟩) n c] w (DeltasA sf fr rs w) := by
  obtain ⟨AR, hAR⟩ : ∃ R, R = DeltasA sf fr rs w := ⟨_, rfl⟩
  rw [← hAR]
  have HFAIL : Hid (∀ er : Nat, deltasR sf fr rs = .inl er → ∀ w', Below w.heap.size w w' → AR (.returned (.tuple #[.slice none 0 0, .iface 36 (.int .i64 er)])) w') := Lib.hid (fun er hf w' hb => by rw [hAR]; exact .inl ⟨er, hf, rfl, hb⟩)
  have HGOOD : Hid (∀ (xs : List DT) v w', deltasR sf fr rs = .inr (xs.map (·.1)) → OBM 10 w.heap.size w v xs.length (flatD rs xs) w' → (∀ x ∈ xs, DOk w rs x w') → AR (.returned (.tuple #[v, .nilIface])) w') := Lib.hid (fun xs v w' h1 h2 h3 => by rw [hAR]; exact .inr ⟨_, xs, v, h1, rfl, rfl, h2, h3⟩)
  have HDS : Hid (deltasR sf fr rs = match deltasG sf rs n fr 1 with
    | .inl e => .inl e
    | .inr ts => if endOk rs ts = true then .inr ts else .inl 4) := Lib.hid (by unfold deltasR; rw [hl])
  have DEL : Hid (∀ (i fr : Nat) wx, i < n - 1 → Below w.heap.size w wx → Calls Tryd.prog 45 #[.int .u32 (fr : Nat), .slice (some ⟨bb, off, none⟩) n c, .int .i64 (i : Nat)] wx fun e w' =>
      (∃ er : Nat, deltaR sf fr rs i = .inl er ∧ (∃ EX, EX = Value.agg delZ.toArray ∧ e = .returned (.tuple #[EX, .int .i64 0, .iface 36 (.int .i64 er)])) ∧ Below wx.heap.size wx w') ∨
      (∃ (x : DT) (A1 : Option Addr) (c1 : Nat) (A2 : Option Addr) (c2 : Nat), x.1.1 = i ∧ deltaR sf fr rs i = .inr (x.1.2.1, x.1.2.2) ∧ x.2.1 = .slice A1 (x.1.2.1 - (x.1.1 + 1)) c1 ∧ x.2.2 = .slice A2 (x.1.2.2 - (x.1.2.1 + 1)) c2 ∧ (∃ EX, EX = Value.agg (delX rs x).toArray ∧ e = .returned (.tuple #[EX, .int .i64 (x.1.2.2 : Nat), .nilIface])) ∧ DOk wx rs x w')) :=
    Lib.hid (fun i fr wx hi hb => (delta_any sf fr bb off n c i rs wx (h.below hb) hl hn (by omega) hc hc2 hs).mono (by
      rintro e w' (⟨er, h1, rfl, h3⟩ | ⟨tq, bh, f, t, v1, v2, h1, h2, h3, rfl, o1, o2⟩)
      · exact .inl ⟨er, h1, ⟨_, rfl, rfl⟩, h3⟩
      · obtain ⟨A1, c1, e1, -⟩ := o1.slice
        obtain ⟨A2, c2, e2, -⟩ := o2.slice
        refine .inr ⟨((i, tq, bh), v1, v2), A1, c1, A2, c2, rfl, h1, e1, e2, ⟨_, rfl, ?_⟩, ⟨o1, o2⟩⟩
        unfold delX
        rw [rAt_of h2, rAt_of h3]))
  have SE : Hid (∀ (x : DT) (i fr : Nat), deltaR sf fr rs i = .inr (x.1.2.1, x.1.2.2) → ∀ wx, Calls Tryd.prog 22 #[recV (rAt rs x.1.2.1)] wx fun e w' => e = .returned (.int .u32 (sf (rAt rs x.1.2.1) : Nat)) ∧ Below wx.heap.size wx w') := Lib.hid (fun x i fr hd wx => by
    obtain ⟨-, -, -, r, hr, hsr⟩ := deltaR_good hd
    rw [rAt_of hr]
    exact hs r (List.mem_of_getElem? hr) hsr wx)
  have HALL := Lib.hid h
  have HL := Lib.hid hl
  obtain ⟨i0, hi0, hz0, hz1, hz2⟩ := info_parts4 del_info
  clear h hl hs hAR
  go_enter Tryd.func24, Tryd.ntmps24
  go_wp2_with fail
  go_loopw [0, 7, 8] (fun vf vo va wr => ∃ (fr2 k : Nat) (xs : List DT) (fu : Nat), vf = .int .u32 (fr2 : Nat) ∧ va = .int .i64 (k : Nat) ∧ 1 ≤ k ∧ k ≤ n - 1 ∧ Hid (n ≤ k + fu) ∧ Hid (xs.length + 1 ≤ k) ∧ Hid (OBM 10 w.heap.size w vo xs.length (flatD rs xs) wr) ∧ Hid (∀ x ∈ xs, DOk w rs x wr) ∧
      Hid (DJ xs vo) ∧ Hid (deltasG sf rs n fr 1 = preD (xs.map (·.1)) (deltasG sf rs fu fr2 k))) (fun _ _ a _ => n - (intOf a).toNat)
  case atStart => exact ⟨fr, 1, [], n, rfl, rfl, Nat.le_refl _, by omega, Lib.hid (by omega), Lib.hid (by simp), Lib.hid (OBM.start w), Lib.hid (by simp), Lib.hid (by intro x hx; simp at hx), Lib.hid (preD_nil _).symm⟩
  case round =>
    obtain ⟨fr2, k, xs, fu, rfl, rfl, hk1, hkL, HFU, HXK, HO, HX, HDJ, HG⟩ := hrel
    by_cases hlt : k < n - 1
    · have hlt' : (k : Int) < ((n - 1 : Nat) : Int) := by omega
      have DE := Lib.hid (fun (wx : World) (hb : Below w.heap.size w wx) => DEL.out k fr2 wx hlt hb)
      have HB := Lib.hid HO.out.bel
      obtain ⟨VO, CO, rfl, -⟩ := HO.out.slice
      go_upto_region 5 with fail
      go_wp2_with fail
      refine (DE.out _ HB.out).mono ?_
      rintro e wa (⟨er, hde, ⟨EX, hEX, rfl⟩, hba⟩ | ⟨x, A1, c1, A2, c2, hx0, hde, hx1, hx2, ⟨EX, hEX, rfl⟩, hdo⟩)
      · have hF : deltasR sf fr rs = .inl er := by
          rw [HDS.out, HG.out, deltasG_err (by rw [HL.out]; exact hlt) (by have := HFU.out; omega) hde]
          rfl
        have HF := Lib.hid hF
        have HEX := Lib.hid hEX
        have hZ := Cs.new wa #[.string ⟨#[]⟩, .int .u16 0, .int .u32 0, .string ⟨#[]⟩, .string ⟨#[]⟩, .int .u16 0, .int .u32 0, .string ⟨#[]⟩, .slice none 0 0, .slice none 0 0] 43 delZ
        have HTH := Lib.hid (hZ.there 10 rfl)
        have HBM := Lib.hid (below_setCells' (B := w.heap.size) (g := wa.heap.size) (Nat.le_trans HB.out.size hba.size) delZ 0 ((below_trans HB.out HB.out.size hba).alloc (Nat.le_trans HB.out.size hba.size) (.cells #[.string ⟨#[]⟩, .int .u16 0, .int .u32 0, .string ⟨#[]⟩, .string ⟨#[]⟩, .int .u16 0, .int .u32 0, .string ⟨#[]⟩, .slice none 0 0, .slice none 0 0] 43)))
        clear hF hEX hZ hba hde
        go_wp2_with (first | refine wpList_store_mid rfl 43 _ _ rfl wa.heap.size 0 delZ.toArray rfl HEX.out HTH.out (by kernel_rfl) (by simp [delZ, Value.oneCell']) ?_)
        exact HFAIL.out er HF.out _ HBM.out
      · obtain ⟨⟨i', tq, bh⟩, V1, V2⟩ := x
        simp only at hx0 hde hx1 hx2
        subst hx0
        have hgd := deltaR_good hde
        rw [HL.out] at hgd
        obtain ⟨hg1, hg2, hg3, -⟩ := hgd
        have SEX := Lib.hid (SE.out ((i', tq, bh), V1, V2) i' fr2 hde)
        have HNX := Lib.hid (deltasG_next (sf := sf) (k := fu - 1) (xs.map (·.1)) (by rw [HL.out]; exact hlt) hde)
        obtain ⟨m1, hm1⟩ : ∃ m, m = tq - (i' + 1) := ⟨_, rfl⟩
        obtain ⟨m2, hm2⟩ : ∃ m, m = bh - (tq + 1) := ⟨_, rfl⟩
        rw [← hm1] at hx1
        rw [← hm2] at hx2
        subst hx1 hx2
        have HXN := Lib.hid hdo
        have hfd : flatD rs (xs ++ [((i', tq, bh), .slice A1 m1 c1, .slice A2 m2 c2)]) = flatD rs xs ++ delX rs ((i', tq, bh), .slice A1 m1 c1, .slice A2 m2 c2) := flatD_snoc _ _ _
        unfold delX delC at hEX hfd
        simp only at hEX hfd
        have SEX : Hid (∀ wx, Calls Tryd.prog 22 #[recV (rAt rs tq)] wx fun e w' => e = .returned (.int .u32 (sf (rAt rs tq) : Nat)) ∧ Below wx.heap.size wx w') := SEX
        unfold recV at SEX
        obtain ⟨f, hf⟩ : ∃ f, f = rAt rs i' := ⟨_, rfl⟩
        obtain ⟨t, ht⟩ : ∃ f, f = rAt rs tq := ⟨_, rfl⟩
        rw [← hf, ← ht] at hEX hfd
        rw [← ht] at SEX HNX
        clear hf ht hm1 hm2
        obtain ⟨f0, f1, f2, f3⟩ := f
        obtain ⟨SV, hSV⟩ : ∃ S, S = sf t := ⟨_, rfl⟩
        rw [← hSV] at SEX HNX
        clear hSV
        obtain ⟨t0, t1, t2, t3⟩ := t
        simp only at SEX hEX hfd
        have HEX : Hid (EX = .agg #[.string f0, .int .u16 f1, .int .u32 f2, .string f3, .string t0, .int .u16 t1, .int .u32 t2, .string t3, .slice A1 m1 c1, .slice A2 m2 c2]) := Lib.hid hEX
        have HFD := Lib.hid hfd
        have hbw : Below wr.heap.size wr wa := hdo.gone.bel
        have hZ := Cs.new wa #[.string ⟨#[]⟩, .int .u16 0, .int .u32 0, .string ⟨#[]⟩, .string ⟨#[]⟩, .int .u16 0, .int .u32 0, .string ⟨#[]⟩, .slice none 0 0, .slice none 0 0] 43 delZ
        have HTH := Lib.hid (hZ.there 10 rfl)
        have hM5 := hZ.mid [.string f0, .int .u16 f1, .int .u32 f2, .string f3, .string t0, .int .u16 t1, .int .u32 t2, .string t3, .slice A1 m1 c1, .slice A2 m2 c2] rfl
        have hb5 : Below wa.heap.size wa ((wa.alloc (.cells #[.string ⟨#[]⟩, .int .u16 0, .int .u32 0, .string ⟨#[]⟩, .string ⟨#[]⟩, .int .u16 0, .int .u32 0, .string ⟨#[]⟩, .slice none 0 0, .slice none 0 0] 43)).setCells wa.heap.size 0 [.string f0, .int .u16 f1, .int .u32 f2, .string f3, .string t0, .int .u16 t1, .int .u32 t2, .string t3, .slice A1 m1 c1, .slice A2 m2 c2]) := below_setCells' (Nat.le_refl _) _ 0 ((Below.refl _ _).alloc (Nat.le_refl _) _)
        have H5 := Lib.hid (And.intro hM5 (And.intro hb5 hbw))
        have hxl : xs.length ≤ 1000 := by have := HXK.out; omega
        have HXL := Lib.hid hxl
        clear hEX hfd hZ hM5 hb5 hbw hdo hxl hde
        go_upto_region 6 with (first | refine wpList_store_mid rfl 43 _ _ rfl wa.heap.size 0 #[.string f0, .int .u16 f1, .int .u32 f2, .string f3, .string t0, .int .u16 t1, .int .u32 t2, .string t3, .slice A1 m1 c1, .slice A2 m2 c2] rfl HEX.out HTH.out (by kernel_rfl) (by simp [Value.oneCell']) ?_)
        obtain ⟨hM5, hb5, hbw⟩ := H5.out
        generalize (wa.alloc (.cells #[.string ⟨#[]⟩, .int .u16 0, .int .u32 0, .string ⟨#[]⟩, .string ⟨#[]⟩, .int .u16 0, .int .u32 0, .string ⟨#[]⟩, .slice none 0 0, .slice none 0 0] 43)).setCells wa.heap.size 0 [.string f0, .int .u16 f1, .int .u32 f2, .string f3, .string t0, .int .u16 t1, .int .u32 t2, .string t3, .slice A1 m1 c1, .slice A2 m2 c2] = w5 at *
        obtain ⟨q, hq⟩ : ∃ g, g = wa.heap.size := ⟨_, rfl⟩
        rw [← hq] at hM5 ⊢
        have HQ := Lib.hid hq
        have HC5 := Lib.hid hM5
        have HB5 := Lib.hid (below_trans hbw hbw.size hb5)
        have HWA := Lib.hid (And.intro hbw hb5)
        have HRX := Lib.hid hM5.range
        have ho5 := HO.out.keep HB5.out (Nat.le_refl _)
        have ho := Lib.hid (ho5.alloc (.cells #[.string f0, .int .u16 f1, .int .u32 f2, .string f3, .string t0, .int .u16 t1, .int .u32 t2, .string t3, .slice A1 m1 c1, .slice A2 m2 c2] 43))
        have hS : Hid (Src Tryd.prog 10 29 (.slice (some ⟨w5.heap.size, 0, none⟩) 1 1) 1 [.string f0, .int .u16 f1, .int .u32 f2, .string f3, .string t0, .int .u16 t1, .int .u32 t2, .string t3, .slice A1 m1 c1, .slice A2 m2 c2] (w5.alloc (.cells #[.string f0, .int .u16 f1, .int .u32 f2, .string f3, .string t0, .int .u16 t1, .int .u32 t2, .string t3, .slice A1 m1 c1, .slice A2 m2 c2] 43))) := by
          refine Lib.hid (Src.ofSlice _ Tryd.underlying29 _ 1 1 _ rfl ?_ (delC_one (f := (f0, f1, f2, f3)) (t := (t0, t1, t2, t3)) rfl rfl))
          exact news_at w5 #[.string f0, .int .u16 f1, .int .u32 f2, .string f3, .string t0, .int .u16 t1, .int .u32 t2, .string t3, .slice A1 m1 c1, .slice A2 m2 c2] _
        clear hM5 hb5 hbw hq ho5 H5 HTH
        go_wp2_with (first | (at_builtin; go_loud (refine wpList_append_obm rfl _ _ 29 29 rfl 43 i0 _ 128 Tryd.underlying29 hi0 hz0 hz1 hz2 rfl ho.out rfl rfl hS.out rfl (by have := HXL.out; unfold maxLen; omega) (by have := HXL.out; omega) ?_)) | refine wpList_load_mid rfl 43 _ rfl q 0 rfl _ _ HRX.out Tryd.underlying43 rfl (by kernel_rfl) ?_)
        intro v' w' q1 q2 q3 q4
        have q2 : (w5.alloc (.cells #[.string f0, .int .u16 f1, .int .u32 f2, .string f3, .string t0, .int .u16 t1, .int .u32 t2, .string t3, .slice A1 m1 c1, .slice A2 m2 c2] 43)).heap.size ≤ w'.heap.size := by simpa using q2
        have q3 : ∀ k, k < (w5.alloc (.cells #[.string f0, .int .u16 f1, .int .u32 f2, .string f3, .string t0, .int .u16 t1, .int .u32 t2, .string t3, .slice A1 m1 c1, .slice A2 m2 c2] 43)).heap.size → some k ≠ (Value.slice VO xs.length CO).ownBlock → w'.heap[k]? = (w5.alloc (.cells #[.string f0, .int .u16 f1, .int .u32 f2, .string f3, .string t0, .int .u16 t1, .int .u32 t2, .string t3, .slice A1 m1 c1, .slice A2 m2 c2] 43)).heap[k]? := fun k hk hne => q3 k (by simpa using hk) hne
        have q4 : v'.ownBlock = (Value.slice VO xs.length CO).ownBlock ∨ v'.ownBlock = some (w5.alloc (.cells #[.string f0, .int .u16 f1, .int .u32 f2, .string f3, .string t0, .int .u16 t1, .int .u32 t2, .string t3, .slice A1 m1 c1, .slice A2 m2 c2] 43)).heap.size := by
          rcases q4 with h | h
          · exact .inl h
          · exact .inr (by rw [h]; simp)
        have hqo : ∀ k, (Value.slice VO xs.length CO).ownBlock = some k → k < wr.heap.size := fun k hk => (HO.out.lt k hk).2
        have hqs : wa.heap.size < w5.heap.size := by have := HC5.out.lt; rw [HQ.out] at this; exact this
        have hx5 : ∀ x ∈ xs, DOk w rs x (w5.alloc (.cells #[.string f0, .int .u16 f1, .int .u32 f2, .string f3, .string t0, .int .u16 t1, .int .u32 t2, .string t3, .slice A1 m1 c1, .slice A2 m2 c2] 43)) := fun x hx => ((HX.out x hx).keep HB5.out (Nat.le_refl _)).keep ((Below.refl w5.heap.size w5).alloc (Nat.le_refl _) (.cells #[.string f0, .int .u16 f1, .int .u32 f2, .string f3, .string t0, .int .u16 t1, .int .u32 t2, .string t3, .slice A1 m1 c1, .slice A2 m2 c2] 43)) (Nat.le_refl _)
        have hxn5 : DOk w rs ((i', tq, bh), .slice A1 m1 c1, .slice A2 m2 c2) (w5.alloc (.cells #[.string f0, .int .u16 f1, .int .u32 f2, .string f3, .string t0, .int .u16 t1, .int .u32 t2, .string t3, .slice A1 m1 c1, .slice A2 m2 c2] 43)) := ((HXN.out.keep HWA.out.2 (Nat.le_refl _)).keep ((Below.refl w5.heap.size w5).alloc (Nat.le_refl _) (.cells #[.string f0, .int .u16 f1, .int .u32 f2, .string f3, .string t0, .int .u16 t1, .int .u32 t2, .string t3, .slice A1 m1 c1, .slice A2 m2 c2] 43)) (Nat.le_refl _)).out HB.out.size HB.out
        have hxa : ∀ x ∈ xs ++ [((i', tq, bh), Value.slice A1 m1 c1, Value.slice A2 m2 c2)], DOk w rs x (w5.alloc (.cells #[.string f0, .int .u16 f1, .int .u32 f2, .string f3, .string t0, .int .u16 t1, .int .u32 t2, .string t3, .slice A1 m1 c1, .slice A2 m2 c2] 43)) := fun x hx => by
          rcases List.mem_append.1 hx with hx | hx
          · exact hx5 x hx
          · rw [List.mem_singleton] at hx; rw [hx]; exact hxn5
        have hdja : DJ (xs ++ [((i', tq, bh), Value.slice A1 m1 c1, Value.slice A2 m2 c2)]) (.slice VO xs.length CO) := fun x hx b hb => by
          rcases List.mem_append.1 hx with hx | hx
          · exact HDJ.out x hx b hb
          · rw [List.mem_singleton] at hx
            rw [hx]
            have hbl := hqo b hb
            exact ⟨fun e => by have := (HXN.out.gone.lt b e).1; omega, fun e => by have := (HXN.out.new.lt b e).1; omega⟩
        have XA := Lib.hid (dok_append hxa hdja q1.bel q2 q3)
        have DA := Lib.hid (dj_append hxa hdja q4)
        have hcq : Cs w' q [.string f0, .int .u16 f1, .int .u32 f2, .string f3, .string t0, .int .u16 t1, .int .u32 t2, .string t3, .slice A1 m1 c1, .slice A2 m2 c2] := (HC5.out.alloc (.cells #[.string f0, .int .u16 f1, .int .u32 f2, .string f3, .string t0, .int .u16 t1, .int .u32 t2, .string t3, .slice A1 m1 c1, .slice A2 m2 c2] 43)).block (q3 q (by have := (HC5.out.alloc (.cells #[.string f0, .int .u16 f1, .int .u32 f2, .string f3, .string t0, .int .u16 t1, .int .u32 t2, .string t3, .slice A1 m1 c1, .slice A2 m2 c2] 43)).lt; exact this) (fun e => by
          have := hqo q e.symm
          have h1 := HWA.out.1.size
          rw [HQ.out] at this
          omega)) q2
        have HRT := Lib.hid (hcq.part 4 4 [.string t0, .int .u16 t1, .int .u32 t2, .string t3] rfl)
        have HO' := Lib.hid q1
        clear q1 q2 q3 q4 hqo hqs hx5 hxn5 hxa hdja hcq ho hS HRX
        go_wp2_with (first | refine wpList_load_mid rfl 41 _ rfl q 4 rfl _ _ HRT.out Tryd.underlying41 rfl (by kernel_rfl) ?_)
        refine (SEX.out _).mono ?_
        rintro e w8 ⟨rfl, hb8⟩
        have HB8 := Lib.hid hb8
        clear hb8 SEX
        go_wp2_with fail
        go_round
        case rel =>
          refine ⟨SV, bh, xs ++ [((i', tq, bh), .slice A1 m1 c1, .slice A2 m2 c2)], fu - 1, rfl, rfl, by omega, hg3, Lib.hid (by have := HFU.out; omega), Lib.hid (by rw [List.length_append]; have := HXK.out; simp; omega), Lib.hid ?_, Lib.hid (fun x hx => (XA.out x hx).keep HB8.out (Nat.le_refl _)), DA, Lib.hid ?_⟩
          · rw [HFD.out, List.length_append]
            exact HO'.out.keep HB8.out (Nat.le_refl _)
          · have h1 := HNX.out
            have hfu : fu - 1 + 1 = fu := by have := HFU.out; omega
            rw [hfu] at h1
            rw [HG.out, h1, List.map_append]
            rfl
        case measure => simp [intOf]; omega
    · have hlt' : ¬ (k : Int) < ((n - 1 : Nat) : Int) := by omega
      go_upto_region 10 with fail
      have HDR : Hid (deltasR sf fr rs = if endOk rs (xs.map (·.1)) = true then .inr (xs.map (·.1)) else .inl 4) := Lib.hid (by
        rw [HDS.out, HG.out, deltasG_stop (by rw [HL.out]; exact hlt)]
        simp [preD])
      have HB := Lib.hid HO.out.bel
      obtain ⟨rl, hrl⟩ : ∃ r, rs[n - 1]? = some r := ⟨_, List.getElem?_eq_getElem (by rw [HL.out]; omega)⟩
      obtain ⟨rf, hrf⟩ : ∃ r, rs[0]? = some r := ⟨_, List.getElem?_eq_getElem (by rw [HL.out]; omega)⟩
      have HAL := Lib.hid (rAt_of hrl)
      have HAF := Lib.hid (rAt_of hrf)
      obtain ⟨b1, o1, hA1, hb1, hr1⟩ := HALL.out.range hrl
      injection hA1 with hA1; injection hA1 with q1 q2; subst q1 q2
      obtain ⟨b2, o2, hA2, hb2, hr2⟩ := HALL.out.range hrf
      injection hA2 with hA2; injection hA2 with q1 q2; subst q1 q2
      obtain ⟨L, hL⟩ : ∃ L, L = n - 1 := ⟨_, rfl⟩
      rw [← hL] at hr1 HAL
      have HRL : Hid (∀ wx, Below w.heap.size w wx → wx.rangeAt bb (off + L * 4) (recCells rl)) := Lib.hid (fun wx hb j v hv => (hb.cell (p := ⟨bb, off + L * 4 + j, none⟩) hb1).trans (hr1 j v hv))
      have HRF : Hid (∀ wx, Below w.heap.size w wx → wx.rangeAt bb off (recCells rf)) := Lib.hid (fun wx hb j v hv => (hb.cell (p := ⟨bb, off + j, none⟩) hb1).trans (by have := hr2 j v hv; simpa using this))
      obtain ⟨VL, hVL⟩ : ∃ v, v = recV rl := ⟨_, rfl⟩
      obtain ⟨VF, hVF⟩ : ∃ v, v = recV rf := ⟨_, rfl⟩
      have HVL := Lib.hid hVL
      have HVF := Lib.hid hVF
      have HLN := Lib.hid hL
      have hLn : (L : Int) < n := by omega
      have hLn' : L < n := by omega
      have hn0 : (0 : Int) < n := by omega
      have hn0' : 0 < n := by omega
      have HN1 : Hid (∀ w, (binOp .neq 41 VL VF).run Tryd.prog w = .ok (.bool (!eqB rl rf)) w) := Lib.hid (fun w => by rw [HVL.out, HVF.out]; exact rec_neq rl rf w)
      have hLi : (n : Int) - 1 = (L : Int) := by omega
      rw [hLi]
      clear hLi hrl hrf hb1 hr1 hb2 hr2 hVL hVF hL hlt hlt' HG HDS DEL SE HDJ HFU
      rcases List.eq_nil_or_concat xs with hxs | ⟨ys, x, hxs⟩
      · subst hxs
        have HEO : Hid (endOk rs (List.map (·.1) ([] : List DT)) = false) := Lib.hid rfl
        obtain ⟨VO, CO, hvo, -⟩ := HO.out.slice
        rw [List.length_nil] at hvo
        subst hvo
        refine wp_region_goesG data_follows (fun x => by simp [putsF, Act.put]; rfl) wr.heap.size wr
          [isV (.slice VO 0 CO), isV (.int .i64 0), isV (.bool true), isV (.bool true), isV undef, isV undef, isV undef, isV undef, isV undef, isV undef, isV undef, isV undef, isV (.bool true), isV (.bool true), isV undef, isV undef, isV undef, isV undef, isV undef, isV undef, isV undef, isV undef, isV undef, isV undef, isV undef, isV (.bool true)]
          (by kernel_rfl) (by kernel_rfl) (by kernel_rfl) rfl ?_ (Below.refl _ _) ?_ ?_
        · repeat (first | exact trivial | refine ⟨isV_stays _, ?_⟩)
        · refine ⟨?_, ?_, ?_, ?_, ?_, ?_, ?_, ?_, ?_, ?_, ?_, ?_, ?_, ?_, ?_, ?_, ?_, ?_, ?_, ?_, ?_, ?_, ?_, ?_, ?_, ?_, trivial⟩
          all_goals
            intro x wx hR hd
            simp at hd
          · refine ⟨fun _ => ?_, fun hX => by first | (simp at hX; done) | (simp [hd] at hX; done)⟩
            (try simp [hd]); go_simp; exact next_same _ rfl rfl hR
          · refine ⟨fun _ => ?_, fun hX => by first | (simp at hX; done) | (simp [hd] at hX; done)⟩
            (try simp [hd]); go_simp; exact next_same _ rfl rfl hR
          · refine ⟨fun _ => ?_, fun hX => by first | (simp at hX; done) | (simp [hd] at hX; done)⟩
            (try simp [hd]); go_simp; exact next_same _ rfl rfl hR
          · refine ⟨fun _ => ?_, fun hX => by first | (simp at hX; done) | (simp [hd] at hX; done)⟩
            (try simp [hd]); go_simp; exact next_same _ rfl rfl hR
          · refine ⟨fun hX => ?_, fun _ => rfl⟩
            exfalso; first | (simp [hd] at hX; done) | (simp [hd, undef] at hX; done)
          · refine ⟨fun hX => ?_, fun _ => rfl⟩
            exfalso; first | (simp [hd] at hX; done) | (simp [hd, undef] at hX; done)
          · refine ⟨fun hX => ?_, fun _ => rfl⟩
            exfalso; first | (simp [hd] at hX; done) | (simp [hd, undef] at hX; done)
          · refine ⟨fun hX => ?_, fun _ => rfl⟩
            exfalso; first | (simp [hd] at hX; done) | (simp [hd, undef] at hX; done)
          · refine ⟨fun hX => ?_, fun _ => rfl⟩
            exfalso; first | (simp [hd] at hX; done) | (simp [hd, undef] at hX; done)
          · refine ⟨fun hX => ?_, fun _ => rfl⟩
            exfalso; first | (simp [hd] at hX; done) | (simp [hd, undef] at hX; done)
          · refine ⟨fun hX => ?_, fun _ => rfl⟩
            exfalso; first | (simp [hd] at hX; done) | (simp [hd, undef] at hX; done)
          · refine ⟨fun hX => ?_, fun _ => rfl⟩
            exfalso; first | (simp [hd] at hX; done) | (simp [hd, undef] at hX; done)
          · refine ⟨fun _ => ?_, fun hX => by first | (simp at hX; done) | (simp [hd] at hX; done)⟩
            (try simp [hd]); go_simp; exact next_same _ rfl rfl hR
          · refine ⟨fun _ => ?_, fun hX => by first | (simp at hX; done) | (simp [hd] at hX; done)⟩
            (try simp [hd]); go_simp; exact next_same _ rfl rfl hR
          · refine ⟨fun hX => ?_, fun _ => rfl⟩
            exfalso; first | (simp [hd] at hX; done) | (simp [hd, undef] at hX; done)
          · refine ⟨fun hX => ?_, fun _ => rfl⟩
            exfalso; first | (simp [hd] at hX; done) | (simp [hd, undef] at hX; done)
          · refine ⟨fun hX => ?_, fun _ => rfl⟩
            exfalso; first | (simp [hd] at hX; done) | (simp [hd, undef] at hX; done)
          · refine ⟨fun hX => ?_, fun _ => rfl⟩
            exfalso; first | (simp [hd] at hX; done) | (simp [hd, undef] at hX; done)
          · refine ⟨fun hX => ?_, fun _ => rfl⟩
            exfalso; first | (simp [hd] at hX; done) | (simp [hd, undef] at hX; done)
          · refine ⟨fun hX => ?_, fun _ => rfl⟩
            exfalso; first | (simp [hd] at hX; done) | (simp [hd, undef] at hX; done)
          · refine ⟨fun hX => ?_, fun _ => rfl⟩
            exfalso; first | (simp [hd] at hX; done) | (simp [hd, undef] at hX; done)
          · refine ⟨fun hX => ?_, fun _ => rfl⟩
            exfalso; first | (simp [hd] at hX; done) | (simp [hd, undef] at hX; done)
          · refine ⟨fun hX => ?_, fun _ => rfl⟩
            exfalso; first | (simp [hd] at hX; done) | (simp [hd, undef] at hX; done)
          · refine ⟨fun hX => ?_, fun _ => rfl⟩
            exfalso; first | (simp [hd] at hX; done) | (simp [hd, undef] at hX; done)
          · refine ⟨fun hX => ?_, fun _ => rfl⟩
            exfalso; first | (simp [hd] at hX; done) | (simp [hd, undef] at hX; done)
          · refine ⟨fun _ => ?_, fun hX => by first | (simp at hX; done) | (simp [hd] at hX; done)⟩
            (try simp [hd]); go_simp; exact next_same _ rfl rfl hR
        intro x w7 hR hx
        simp [AllWords] at hx
        have h25 : x 25 = .bool true := by simp [hx]
        rw [h25]
        clear hx h25
        have HB7 := Lib.hid hR
        clear hR
        go_wp2_with fail
        exact HFAIL.out 4 (by rw [HDR.out, HEO.out]; rfl) _ (below_trans HB.out HB.out.size HB7.out)
      · rw [List.concat_eq_append] at hxs
        obtain ⟨M1, hM1⟩ : ∃ M, M = ys.length := ⟨_, rfl⟩
        obtain ⟨m, hm⟩ : ∃ m, m = xs.length := ⟨_, rfl⟩
        have hmM : m = M1 + 1 := by rw [hm, hxs, hM1]; simp
        have HM := Lib.hid hm.symm
        have hxk := HXK.out
        obtain ⟨VO, CO, hvo, hv1, hv2, hv3⟩ := HO.out.slice3
        rcases hv3 with ⟨-, h, -⟩ | ⟨g, hvg, -, hgw⟩
        · exfalso; omega
        subst hvg
        rw [← hm] at hvo hxk HO
        subst hvo
        have HEO0 : Hid (endOk rs (xs.map (·.1)) = (eqB rl rf && eqB (rAt rs x.1.2.1) rf)) := Lib.hid (by
          unfold endOk
          rw [hxs, List.map_append, List.map_cons, List.map_nil, List.getLast?_append, List.getLast?_singleton]
          simp only [Option.or]
          rw [HL.out, ← HLN.out, HAL.out, HAF.out])
        have hrt : ∀ wx, Below wr.heap.size wr wx → wx.rangeAt g (M1 * 10 + 4) (recCells (rAt rs x.1.2.1)) := fun wx hb j u hu => by
          refine (HO.out.keep hb (Nat.le_refl _)).cell (M1 * 10 + 4 + j) u ?_
          rw [hxs]
          unfold flatD
          rw [List.flatMap_append]
          have hfl : (List.flatMap (delX rs) ys).length = M1 * 10 := by rw [hM1]; exact flatD_len rs ys
          rw [List.getElem?_append_right (by omega), hfl, show M1 * 10 + 4 + j - M1 * 10 = 4 + j by omega, List.flatMap_singleton]
          unfold delX delC
          unfold recCells at hu
          match j, hu with
          | 0, hu => exact hu
          | 1, hu => exact hu
          | 2, hu => exact hu
          | 3, hu => exact hu
          | j + 4, hu => simp at hu
        have HRT := Lib.hid hrt
        generalize rAt rs x.1.2.1 = rt at *
        obtain ⟨VT, hVT⟩ : ∃ v, v = recV rt := ⟨_, rfl⟩
        have HVT := Lib.hid hVT
        have HN2 : Hid (∀ w, (binOp .neq 41 VT VF).run Tryd.prog w = .ok (.bool (!eqB rt rf)) w) := Lib.hid (fun w => by rw [HVT.out, HVF.out]; exact rec_neq rt rf w)
        have z1 : wrap64 ((m : Int) - 1) = (M1 : Int) := by unfold wrap64; omega
        have z2 : IntKind.i64.wrap ((m : Int) - 1) = (M1 : Int) := by rw [IntKind.wrap_i64]; omega
        have z3 : (M1 : Int) < m := by omega
        have z3' : M1 < m := by omega
        have z4 : ((m : Int) == 0) = false := by rw [beq_eq_false_iff_ne]; omega
        have z5 : ¬ (m : Int) = 0 := by omega
        have z6 : ¬ m = 0 := by omega
        clear hM1 hm hmM hxs hv1 hv2 hgw hrt hVT hxk
        cases hq1 : eqB rl rf with
        | false =>
          have HEO : Hid (endOk rs (xs.map (·.1)) = false) := Lib.hid (by rw [HEO0.out, hq1]; rfl)
          rw [hq1] at HN1
          clear hq1 HEO0
          refine wp_region_goesG data_follows (fun x => by simp [putsF, Act.put]; rfl) wr.heap.size wr
            [isV (.slice (some ⟨g, 0, none⟩) m CO), isV (.int .i64 (m : Nat)), isV (.bool false), isV (.bool false), isV (.slice (some ⟨bb, off, none⟩) n c), isV (.int .i64 (L : Nat)), isV (.pointer (some ⟨bb, off + L * 4, none⟩)), isV VL, isV (.slice (some ⟨bb, off, none⟩) n c), isV (.pointer (some ⟨bb, off, none⟩)), isV VF, isV (.bool true), isV (.bool true), isV (.bool true), isV undef, isV undef, isV undef, isV undef, isV undef, isV undef, isV undef, isV undef, isV undef, isV undef, isV undef, isV (.bool true)]
            (by kernel_rfl) (by kernel_rfl) (by kernel_rfl) rfl ?_ (Below.refl _ _) ?_ ?_
          · repeat (first | exact trivial | refine ⟨isV_stays _, ?_⟩)
          · refine ⟨?_, ?_, ?_, ?_, ?_, ?_, ?_, ?_, ?_, ?_, ?_, ?_, ?_, ?_, ?_, ?_, ?_, ?_, ?_, ?_, ?_, ?_, ?_, ?_, ?_, ?_, trivial⟩
            all_goals
              intro x wx hR hd
              simp at hd
            · refine ⟨fun _ => ?_, fun hX => by first | (simp at hX; done) | (simp [hd] at hX; done)⟩
              (try simp [hd]); go_simp; exact next_same _ rfl rfl hR
            · refine ⟨fun _ => ?_, fun hX => by first | (simp at hX; done) | (simp [hd] at hX; done)⟩
              (try simp [hd]); go_simp; exact next_same _ rfl rfl hR
            · refine ⟨fun _ => ?_, fun hX => by first | (simp at hX; done) | (simp [hd] at hX; done)⟩
              (try simp [hd]); go_simp; exact next_same _ rfl rfl hR
            · refine ⟨fun _ => ?_, fun hX => by first | (simp at hX; done) | (simp [hd] at hX; done)⟩
              (try simp [hd]); go_simp; exact next_same _ rfl rfl hR
            · refine ⟨fun _ => ?_, fun hX => by first | (simp at hX; done) | (simp [hd] at hX; done)⟩
              (try simp [hd]); go_simp; exact next_same _ rfl rfl hR
            · refine ⟨fun _ => ?_, fun hX => by first | (simp at hX; done) | (simp [hd] at hX; done)⟩
              (try simp [hd]); go_simp; exact next_same _ rfl rfl hR
            · refine ⟨fun _ => ?_, fun hX => by first | (simp at hX; done) | (simp [hd] at hX; done)⟩
              (try simp [hd]); go_simp; exact next_same _ rfl rfl hR
            · refine ⟨fun _ => ?_, fun hX => by first | (simp at hX; done) | (simp [hd] at hX; done)⟩
              refine wp_load_mid 41 _ rfl bb (off + L * 4) (by simp [go_sem, hd]) _ _ (HRL.out wx (below_trans HB.out HB.out.size hR)) Tryd.underlying41 rfl (by kernel_rfl) ?_
              exact next_same _ rfl HVL.out.symm hR
            · refine ⟨fun _ => ?_, fun hX => by first | (simp at hX; done) | (simp [hd] at hX; done)⟩
              (try simp [hd]); go_simp; exact next_same _ rfl rfl hR
            · refine ⟨fun _ => ?_, fun hX => by first | (simp at hX; done) | (simp [hd] at hX; done)⟩
              (try simp [hd]); go_simp; exact next_same _ rfl rfl hR
            · refine ⟨fun _ => ?_, fun hX => by first | (simp at hX; done) | (simp [hd] at hX; done)⟩
              refine wp_load_mid 41 _ rfl bb (off) (by simp [go_sem, hd]) _ _ (HRF.out wx (below_trans HB.out HB.out.size hR)) Tryd.underlying41 rfl (by kernel_rfl) ?_
              exact next_same _ rfl HVF.out.symm hR
            · refine ⟨fun _ => ?_, fun hX => by first | (simp at hX; done) | (simp [hd] at hX; done)⟩
              obtain ⟨hd0, hd1, -⟩ := hd
              exact wp_binop _ _ _ _ _ rfl hd0 hd1 (by rw [HVL.out, HVF.out]; first | kernel_rfl | rfl) (HN1.out wx) (next_same _ rfl rfl hR)
            · refine ⟨fun _ => ?_, fun hX => by first | (simp at hX; done) | (simp [hd] at hX; done)⟩
              (try simp [hd]); go_simp; exact next_same _ rfl rfl hR
            · refine ⟨fun _ => ?_, fun hX => by first | (simp at hX; done) | (simp [hd] at hX; done)⟩
              (try simp [hd]); go_simp; exact next_same _ rfl rfl hR
            · refine ⟨fun hX => ?_, fun _ => rfl⟩
              exfalso; first | (simp [hd] at hX; done) | (simp [hd, undef] at hX; done)
            · refine ⟨fun hX => ?_, fun _ => rfl⟩
              exfalso; first | (simp [hd] at hX; done) | (simp [hd, undef] at hX; done)
            · refine ⟨fun hX => ?_, fun _ => rfl⟩
              exfalso; first | (simp [hd] at hX; done) | (simp [hd, undef] at hX; done)
            · refine ⟨fun hX => ?_, fun _ => rfl⟩
              exfalso; first | (simp [hd] at hX; done) | (simp [hd, undef] at hX; done)
            · refine ⟨fun hX => ?_, fun _ => rfl⟩
              exfalso; first | (simp [hd] at hX; done) | (simp [hd, undef] at hX; done)
            · refine ⟨fun hX => ?_, fun _ => rfl⟩
              exfalso; first | (simp [hd] at hX; done) | (simp [hd, undef] at hX; done)
            · refine ⟨fun hX => ?_, fun _ => rfl⟩
              exfalso; first | (simp [hd] at hX; done) | (simp [hd, undef] at hX; done)
            · refine ⟨fun hX => ?_, fun _ => rfl⟩
              exfalso; first | (simp [hd] at hX; done) | (simp [hd, undef] at hX; done)
            · refine ⟨fun hX => ?_, fun _ => rfl⟩
              exfalso; first | (simp [hd] at hX; done) | (simp [hd, undef] at hX; done)
            · refine ⟨fun hX => ?_, fun _ => rfl⟩
              exfalso; first | (simp [hd] at hX; done) | (simp [hd, undef] at hX; done)
            · refine ⟨fun hX => ?_, fun _ => rfl⟩
              exfalso; first | (simp [hd] at hX; done) | (simp [hd, undef] at hX; done)
            · refine ⟨fun _ => ?_, fun hX => by first | (simp at hX; done) | (simp [hd] at hX; done)⟩
              (try simp [hd]); go_simp; exact next_same _ rfl rfl hR
          intro x w7 hR hx
          simp [AllWords] at hx
          have h25 : x 25 = .bool true := by simp [hx]
          rw [h25]
          clear hx h25
          have HB7 := Lib.hid hR
          clear hR
          go_wp2_with fail
          exact HFAIL.out 4 (by rw [HDR.out, HEO.out]; rfl) _ (below_trans HB.out HB.out.size HB7.out)
        | true =>
          rw [hq1] at HN1
          cases hq2 : eqB rt rf with
          | false =>
            have HEO : Hid (endOk rs (xs.map (·.1)) = false) := Lib.hid (by rw [HEO0.out, hq1, hq2]; rfl)
            rw [hq2] at HN2
            clear hq1 hq2 HEO0
            refine wp_region_goesG data_follows (fun x => by simp [putsF, Act.put]; rfl) wr.heap.size wr
              [isV (.slice (some ⟨g, 0, none⟩) m CO), isV (.int .i64 (m : Nat)), isV (.bool false), isV (.bool false), isV (.slice (some ⟨bb, off, none⟩) n c), isV (.int .i64 (L : Nat)), isV (.pointer (some ⟨bb, off + L * 4, none⟩)), isV VL, isV (.slice (some ⟨bb, off, none⟩) n c), isV (.pointer (some ⟨bb, off, none⟩)), isV VF, isV (.bool false), isV (.bool false), isV (.bool false), isV (.slice (some ⟨g, 0, none⟩) m CO), isV (.slice (some ⟨g, 0, none⟩) m CO), isV (.int .i64 (m : Nat)), isV (.int .i64 (M1 : Nat)), isV (.pointer (some ⟨g, M1 * 10, none⟩)), isV (.pointer (some ⟨g, M1 * 10 + 4, none⟩)), isV VT, isV (.slice (some ⟨bb, off, none⟩) n c), isV (.pointer (some ⟨bb, off, none⟩)), isV VF, isV (.bool true), isV (.bool true)]
              (by kernel_rfl) (by kernel_rfl) (by kernel_rfl) rfl ?_ (Below.refl _ _) ?_ ?_
            · repeat (first | exact trivial | refine ⟨isV_stays _, ?_⟩)
            · refine ⟨?_, ?_, ?_, ?_, ?_, ?_, ?_, ?_, ?_, ?_, ?_, ?_, ?_, ?_, ?_, ?_, ?_, ?_, ?_, ?_, ?_, ?_, ?_, ?_, ?_, ?_, trivial⟩
              all_goals
                intro x wx hR hd
                simp at hd
              · refine ⟨fun _ => ?_, fun hX => by first | (simp at hX; done) | (simp [hd] at hX; done)⟩
                (try simp [hd]); go_simp; exact next_same _ rfl rfl hR
              · refine ⟨fun _ => ?_, fun hX => by first | (simp at hX; done) | (simp [hd] at hX; done)⟩
                (try simp [hd]); go_simp; exact next_same _ rfl rfl hR
              · refine ⟨fun _ => ?_, fun hX => by first | (simp at hX; done) | (simp [hd] at hX; done)⟩
                (try simp [hd]); go_simp; exact next_same _ rfl rfl hR
              · refine ⟨fun _ => ?_, fun hX => by first | (simp at hX; done) | (simp [hd] at hX; done)⟩
                (try simp [hd]); go_simp; exact next_same _ rfl rfl hR
              · refine ⟨fun _ => ?_, fun hX => by first | (simp at hX; done) | (simp [hd] at hX; done)⟩
                (try simp [hd]); go_simp; exact next_same _ rfl rfl hR
              · refine ⟨fun _ => ?_, fun hX => by first | (simp at hX; done) | (simp [hd] at hX; done)⟩
                (try simp [hd]); go_simp; exact next_same _ rfl rfl hR
              · refine ⟨fun _ => ?_, fun hX => by first | (simp at hX; done) | (simp [hd] at hX; done)⟩
                (try simp [hd]); go_simp; exact next_same _ rfl rfl hR
              · refine ⟨fun _ => ?_, fun hX => by first | (simp at hX; done) | (simp [hd] at hX; done)⟩
                refine wp_load_mid 41 _ rfl bb (off + L * 4) (by simp [go_sem, hd]) _ _ (HRL.out wx (below_trans HB.out HB.out.size hR)) Tryd.underlying41 rfl (by kernel_rfl) ?_
                exact next_same _ rfl HVL.out.symm hR
              · refine ⟨fun _ => ?_, fun hX => by first | (simp at hX; done) | (simp [hd] at hX; done)⟩
                (try simp [hd]); go_simp; exact next_same _ rfl rfl hR
              · refine ⟨fun _ => ?_, fun hX => by first | (simp at hX; done) | (simp [hd] at hX; done)⟩
                (try simp [hd]); go_simp; exact next_same _ rfl rfl hR
              · refine ⟨fun _ => ?_, fun hX => by first | (simp at hX; done) | (simp [hd] at hX; done)⟩
                refine wp_load_mid 41 _ rfl bb (off) (by simp [go_sem, hd]) _ _ (HRF.out wx (below_trans HB.out HB.out.size hR)) Tryd.underlying41 rfl (by kernel_rfl) ?_
                exact next_same _ rfl HVF.out.symm hR
              · refine ⟨fun _ => ?_, fun hX => by first | (simp at hX; done) | (simp [hd] at hX; done)⟩
                obtain ⟨hd0, hd1, -⟩ := hd
                exact wp_binop _ _ _ _ _ rfl hd0 hd1 (by rw [HVL.out, HVF.out]; first | kernel_rfl | rfl) (HN1.out wx) (next_same _ rfl rfl hR)
              · refine ⟨fun _ => ?_, fun hX => by first | (simp at hX; done) | (simp [hd] at hX; done)⟩
                (try simp [hd]); go_simp; exact next_same _ rfl rfl hR
              · refine ⟨fun _ => ?_, fun hX => by first | (simp at hX; done) | (simp [hd] at hX; done)⟩
                (try simp [hd]); go_simp; exact next_same _ rfl rfl hR
              · refine ⟨fun _ => ?_, fun hX => by first | (simp at hX; done) | (simp [hd] at hX; done)⟩
                (try simp [hd]); go_simp; exact next_same _ rfl rfl hR
              · refine ⟨fun _ => ?_, fun hX => by first | (simp at hX; done) | (simp [hd] at hX; done)⟩
                (try simp [hd]); go_simp; exact next_same _ rfl rfl hR
              · refine ⟨fun _ => ?_, fun hX => by first | (simp at hX; done) | (simp [hd] at hX; done)⟩
                (try simp [hd]); go_simp; exact next_same _ rfl rfl hR
              · refine ⟨fun _ => ?_, fun hX => by first | (simp at hX; done) | (simp [hd] at hX; done)⟩
                (try simp [hd]); go_simp; exact next_same _ rfl rfl hR
              · refine ⟨fun _ => ?_, fun hX => by first | (simp at hX; done) | (simp [hd] at hX; done)⟩
                (try simp [hd]); go_simp; exact next_same _ rfl rfl hR
              · refine ⟨fun _ => ?_, fun hX => by first | (simp at hX; done) | (simp [hd] at hX; done)⟩
                (try simp [hd]); go_simp; exact next_same _ rfl rfl hR
              · refine ⟨fun _ => ?_, fun hX => by first | (simp at hX; done) | (simp [hd] at hX; done)⟩
                refine wp_load_mid 41 _ rfl g (M1 * 10 + 4) (by simp [go_sem, hd]) _ _ (HRT.out wx hR) Tryd.underlying41 rfl (by kernel_rfl) ?_
                exact next_same _ rfl HVT.out.symm hR
              · refine ⟨fun _ => ?_, fun hX => by first | (simp at hX; done) | (simp [hd] at hX; done)⟩
                (try simp [hd]); go_simp; exact next_same _ rfl rfl hR
              · refine ⟨fun _ => ?_, fun hX => by first | (simp at hX; done) | (simp [hd] at hX; done)⟩
                (try simp [hd]); go_simp; exact next_same _ rfl rfl hR
              · refine ⟨fun _ => ?_, fun hX => by first | (simp at hX; done) | (simp [hd] at hX; done)⟩
                refine wp_load_mid 41 _ rfl bb (off) (by simp [go_sem, hd]) _ _ (HRF.out wx (below_trans HB.out HB.out.size hR)) Tryd.underlying41 rfl (by kernel_rfl) ?_
                exact next_same _ rfl HVF.out.symm hR
              · refine ⟨fun _ => ?_, fun hX => by first | (simp at hX; done) | (simp [hd] at hX; done)⟩
                obtain ⟨hd0, hd1, -⟩ := hd
                exact wp_binop _ _ _ _ _ rfl hd0 hd1 (by rw [HVT.out, HVF.out]; first | kernel_rfl | rfl) (HN2.out wx) (next_same _ rfl rfl hR)
              · refine ⟨fun _ => ?_, fun hX => by first | (simp at hX; done) | (simp [hd] at hX; done)⟩
                (try simp [hd]); go_simp; exact next_same _ rfl rfl hR
            intro x w7 hR hx
            simp [AllWords] at hx
            have h25 : x 25 = .bool true := by simp [hx]
            rw [h25]
            clear hx h25
            have HB7 := Lib.hid hR
            clear hR
            go_wp2_with fail
            exact HFAIL.out 4 (by rw [HDR.out, HEO.out]; rfl) _ (below_trans HB.out HB.out.size HB7.out)
          | true =>
            have HEO : Hid (endOk rs (xs.map (·.1)) = true) := Lib.hid (by rw [HEO0.out, hq1, hq2]; rfl)
            rw [hq2] at HN2
            clear hq1 hq2 HEO0
            refine wp_region_goesG data_follows (fun x => by simp [putsF, Act.put]; rfl) wr.heap.size wr
              [isV (.slice (some ⟨g, 0, none⟩) m CO), isV (.int .i64 (m : Nat)), isV (.bool false), isV (.bool false), isV (.slice (some ⟨bb, off, none⟩) n c), isV (.int .i64 (L : Nat)), isV (.pointer (some ⟨bb, off + L * 4, none⟩)), isV VL, isV (.slice (some ⟨bb, off, none⟩) n c), isV (.pointer (some ⟨bb, off, none⟩)), isV VF, isV (.bool false), isV (.bool false), isV (.bool false), isV (.slice (some ⟨g, 0, none⟩) m CO), isV (.slice (some ⟨g, 0, none⟩) m CO), isV (.int .i64 (m : Nat)), isV (.int .i64 (M1 : Nat)), isV (.pointer (some ⟨g, M1 * 10, none⟩)), isV (.pointer (some ⟨g, M1 * 10 + 4, none⟩)), isV VT, isV (.slice (some ⟨bb, off, none⟩) n c), isV (.pointer (some ⟨bb, off, none⟩)), isV VF, isV (.bool false), isV (.bool false)]
              (by kernel_rfl) (by kernel_rfl) (by kernel_rfl) rfl ?_ (Below.refl _ _) ?_ ?_
            · repeat (first | exact trivial | refine ⟨isV_stays _, ?_⟩)
            · refine ⟨?_, ?_, ?_, ?_, ?_, ?_, ?_, ?_, ?_, ?_, ?_, ?_, ?_, ?_, ?_, ?_, ?_, ?_, ?_, ?_, ?_, ?_, ?_, ?_, ?_, ?_, trivial⟩
              all_goals
                intro x wx hR hd
                simp at hd
              · refine ⟨fun _ => ?_, fun hX => by first | (simp at hX; done) | (simp [hd] at hX; done)⟩
                (try simp [hd]); go_simp; exact next_same _ rfl rfl hR
              · refine ⟨fun _ => ?_, fun hX => by first | (simp at hX; done) | (simp [hd] at hX; done)⟩
                (try simp [hd]); go_simp; exact next_same _ rfl rfl hR
              · refine ⟨fun _ => ?_, fun hX => by first | (simp at hX; done) | (simp [hd] at hX; done)⟩
                (try simp [hd]); go_simp; exact next_same _ rfl rfl hR
              · refine ⟨fun _ => ?_, fun hX => by first | (simp at hX; done) | (simp [hd] at hX; done)⟩
                (try simp [hd]); go_simp; exact next_same _ rfl rfl hR
              · refine ⟨fun _ => ?_, fun hX => by first | (simp at hX; done) | (simp [hd] at hX; done)⟩
                (try simp [hd]); go_simp; exact next_same _ rfl rfl hR
              · refine ⟨fun _ => ?_, fun hX => by first | (simp at hX; done) | (simp [hd] at hX; done)⟩
                (try simp [hd]); go_simp; exact next_same _ rfl rfl hR
              · refine ⟨fun _ => ?_, fun hX => by first | (simp at hX; done) | (simp [hd] at hX; done)⟩
                (try simp [hd]); go_simp; exact next_same _ rfl rfl hR
              · refine ⟨fun _ => ?_, fun hX => by first | (simp at hX; done) | (simp [hd] at hX; done)⟩
                refine wp_load_mid 41 _ rfl bb (off + L * 4) (by simp [go_sem, hd]) _ _ (HRL.out wx (below_trans HB.out HB.out.size hR)) Tryd.underlying41 rfl (by kernel_rfl) ?_
                exact next_same _ rfl HVL.out.symm hR
              · refine ⟨fun _ => ?_, fun hX => by first | (simp at hX; done) | (simp [hd] at hX; done)⟩
                (try simp [hd]); go_simp; exact next_same _ rfl rfl hR
              · refine ⟨fun _ => ?_, fun hX => by first | (simp at hX; done) | (simp [hd] at hX; done)⟩
                (try simp [hd]); go_simp; exact next_same _ rfl rfl hR
              · refine ⟨fun _ => ?_, fun hX => by first | (simp at hX; done) | (simp [hd] at hX; done)⟩
                refine wp_load_mid 41 _ rfl bb (off) (by simp [go_sem, hd]) _ _ (HRF.out wx (below_trans HB.out HB.out.size hR)) Tryd.underlying41 rfl (by kernel_rfl) ?_
                exact next_same _ rfl HVF.out.symm hR
              · refine ⟨fun _ => ?_, fun hX => by first | (simp at hX; done) | (simp [hd] at hX; done)⟩
                obtain ⟨hd0, hd1, -⟩ := hd
                exact wp_binop _ _ _ _ _ rfl hd0 hd1 (by rw [HVL.out, HVF.out]; first | kernel_rfl | rfl) (HN1.out wx) (next_same _ rfl rfl hR)
              · refine ⟨fun _ => ?_, fun hX => by first | (simp at hX; done) | (simp [hd] at hX; done)⟩
                (try simp [hd]); go_simp; exact next_same _ rfl rfl hR
              · refine ⟨fun _ => ?_, fun hX => by first | (simp at hX; done) | (simp [hd] at hX; done)⟩
                (try simp [hd]); go_simp; exact next_same _ rfl rfl hR
              · refine ⟨fun _ => ?_, fun hX => by first | (simp at hX; done) | (simp [hd] at hX; done)⟩
                (try simp [hd]); go_simp; exact next_same _ rfl rfl hR
              · refine ⟨fun _ => ?_, fun hX => by first | (simp at hX; done) | (simp [hd] at hX; done)⟩
                (try simp [hd]); go_simp; exact next_same _ rfl rfl hR
              · refine ⟨fun _ => ?_, fun hX => by first | (simp at hX; done) | (simp [hd] at hX; done)⟩
                (try simp [hd]); go_simp; exact next_same _ rfl rfl hR
              · refine ⟨fun _ => ?_, fun hX => by first | (simp at hX; done) | (simp [hd] at hX; done)⟩
                (try simp [hd]); go_simp; exact next_same _ rfl rfl hR
              · refine ⟨fun _ => ?_, fun hX => by first | (simp at hX; done) | (simp [hd] at hX; done)⟩
                (try simp [hd]); go_simp; exact next_same _ rfl rfl hR
              · refine ⟨fun _ => ?_, fun hX => by first | (simp at hX; done) | (simp [hd] at hX; done)⟩
                (try simp [hd]); go_simp; exact next_same _ rfl rfl hR
              · refine ⟨fun _ => ?_, fun hX => by first | (simp at hX; done) | (simp [hd] at hX; done)⟩
                refine wp_load_mid 41 _ rfl g (M1 * 10 + 4) (by simp [go_sem, hd]) _ _ (HRT.out wx hR) Tryd.underlying41 rfl (by kernel_rfl) ?_
                exact next_same _ rfl HVT.out.symm hR
              · refine ⟨fun _ => ?_, fun hX => by first | (simp at hX; done) | (simp [hd] at hX; done)⟩
                (try simp [hd]); go_simp; exact next_same _ rfl rfl hR
              · refine ⟨fun _ => ?_, fun hX => by first | (simp at hX; done) | (simp [hd] at hX; done)⟩
                (try simp [hd]); go_simp; exact next_same _ rfl rfl hR
              · refine ⟨fun _ => ?_, fun hX => by first | (simp at hX; done) | (simp [hd] at hX; done)⟩
                refine wp_load_mid 41 _ rfl bb (off) (by simp [go_sem, hd]) _ _ (HRF.out wx (below_trans HB.out HB.out.size hR)) Tryd.underlying41 rfl (by kernel_rfl) ?_
                exact next_same _ rfl HVF.out.symm hR
              · refine ⟨fun _ => ?_, fun hX => by first | (simp at hX; done) | (simp [hd] at hX; done)⟩
                obtain ⟨hd0, hd1, -⟩ := hd
                exact wp_binop _ _ _ _ _ rfl hd0 hd1 (by rw [HVT.out, HVF.out]; first | kernel_rfl | rfl) (HN2.out wx) (next_same _ rfl rfl hR)
              · refine ⟨fun _ => ?_, fun hX => by first | (simp at hX; done) | (simp [hd] at hX; done)⟩
                (try simp [hd]); go_simp; exact next_same _ rfl rfl hR
            intro x w7 hR hx
            simp [AllWords] at hx
            have h25 : x 25 = .bool false := by simp [hx]
            rw [h25]
            clear hx h25
            have HB7 := Lib.hid hR
            clear hR
            go_wp2_with fail
            exact HGOOD.out xs _ _ (by rw [HDR.out, HEO.out]; rfl) (by rw [HM.out]; exact HO.out.keep HB7.out (Nat.le_refl _)) (fun x hx => (HX.out x hx).keep HB7.out (Nat.le_refl _))
end Go.Proofs.YtpbbnpglcadimaaDoor
namespace Go.Proofs.YtpbbnpglcadimaaDoor
open Go.RowKit
set_option linter.unusedVariables false
set_option linter.unusedSimpArgs false
set_option maxRecDepth 20000
attribute [local simp] putsF isV wordOf Deps Region.binds Region.wanted Act.put wantedX isB
theorem results_cellE {fn : Func} {p u : Tmp} {ty : TypeId} (h : fn.results = #[.cell p ty, .tmp u]) (tmps : Array Value) (P : Program) (w : World) (b o : Nat) (cs : List Value) (d : TypeDesc) (hp : tmps.getD p undef = .pointer (some ⟨b, o, none⟩)) (hc : w.rangeAt b o cs)
    (hu : P.underlying ty = some d) (hd : d.isRow = true) (hi : (P.info? ty).map (·.size) = some cs.length) : (results fn tmps).run P w = .ok (.tuple #[.agg cs.toArray, tmps.getD u undef]) w := by
  have hp2 : tmps[p]?.getD undef = .pointer (some ⟨b, o, none⟩) := by rw [← hp, Array.getD_eq_getD_getElem?]
  simp only [results, h]
  simp [Sem.run_bind, Result.andThen, hp2, asAddr, run_loadVar_mid w b o ty cs d hc hu hd hi]
/-- What a transfer brings: an error; nothing new; all; deltas. -/
def partR (m : RecT → Bool) (sf : RecT → Nat) (o : ByteArray) (fr : Nat) (rs : List RecT) : Nat ⊕ Option (Option (List DTrip)) :=
  if admR m o rs = true then (if rs.length = 1 then (if sf (rAt rs 0) = fr then .inr none else .inl 5)
    else if fullR m o rs = true then .inr (some none) else (match deltasR sf fr rs with
      | .inl e => .inl e
      | .inr ts => .inr (some (some ts)))) else .inl 4
/-- Part's answer. -/
def PartA (m : RecT → Bool) (sf : RecT → Nat) (o : ByteArray) (fr : Nat) (rs : List RecT) (w : World) (e : Ending) (w' : World) : Prop :=
  (∃ er : Nat, partR m sf o fr rs = .inl er ∧ e = .returned (.tuple #[.agg #[.bool false, .slice none 0 0, .slice none 0 0], .iface 36 (.int .i64 er)]) ∧ Below w.heap.size w w') ∨
  (partR m sf o fr rs = .inr none ∧ e = .returned (.tuple #[.agg #[.bool true, .slice none 0 0, .slice none 0 0], .nilIface]) ∧ Below w.heap.size w w') ∨
  (partR m sf o fr rs = .inr (some none) ∧ ∃ A c, e = .returned (.tuple #[.agg #[.bool false, .slice A (rs.length - 1) c, .slice none 0 0], .nilIface]) ∧ OBM 4 w.heap.size w (.slice A (rs.length - 1) c) (rs.length - 1) (flatR (rs.take (rs.length - 1))) w') ∨
  (∃ (xs : List DT) (A : Option Addr) (c : Nat), partR m sf o fr rs = .inr (some (some (xs.map (·.1)))) ∧ e = .returned (.tuple #[.agg #[.bool false, .slice none 0 0, .slice A xs.length c], .nilIface]) ∧ OBM 10 w.heap.size w (.slice A xs.length c) xs.length (flatD rs xs) w' ∧ ∀ x ∈ xs, DOk w rs x w')
set_option maxHeartbeats 3200000 in
theorem part_any (m : RecT → Bool) (sf : RecT → Nat) (o : ByteArray) (fr : Nat) (A : Option Addr) (n c : Nat) (rs : List RecT) (w : World) (h : Recs w A rs) (hl : rs.length = n) (hn : n ≤ 1000) (hc : n ≤ c) (hc2 : c ≤ maxLen) (ho : o.size ≤ maxLen) (hz : ∀ r ∈ rs, r.1.size ≤ maxLen)
    (hm : ∀ r ∈ rs, ∀ w, Calls Tryd.prog 40 #[recV r] w fun e w' => e = .returned (.bool (m r)) ∧ Below w.heap.size w w')
    (hs : ∀ r ∈ rs, soaB r = true → ∀ w, Calls Tryd.prog 22 #[recV r] w fun e w' => e = .returned (.int .u32 (sf r : Nat)) ∧ Below w.heap.size w w') :
    Calls Tryd.prog 8 #[.string o, .int .u32 (fr : Nat), .slice A n c] w (PartA m sf o fr rs w) := by
  obtain ⟨AR, hAR⟩ : ∃ R, R = PartA m sf o fr rs w := ⟨_, rfl⟩
  rw [← hAR]
  have HFAIL : Hid (∀ er : Nat, partR m sf o fr rs = .inl er → ∀ w', Below w.heap.size w w' → AR (.returned (.tuple #[.agg #[.bool false, .slice none 0 0, .slice none 0 0], .iface 36 (.int .i64 er)])) w') := Lib.hid (fun er hf w' hb => by rw [hAR]; exact .inl ⟨er, hf, rfl, hb⟩)
  have HSAME : Hid (partR m sf o fr rs = .inr none → ∀ w', Below w.heap.size w w' → AR (.returned (.tuple #[.agg #[.bool true, .slice none 0 0, .slice none 0 0], .nilIface])) w') := Lib.hid (fun hf w' hb => by rw [hAR]; exact .inr (.inl ⟨hf, rfl, hb⟩))
  have HALLR : Hid (partR m sf o fr rs = .inr (some none) → ∀ A c w', OBM 4 w.heap.size w (.slice A (n - 1) c) (n - 1) (flatR (rs.take (n - 1))) w' → AR (.returned (.tuple #[.agg #[.bool false, .slice A (n - 1) c, .slice none 0 0], .nilIface])) w') := Lib.hid (fun hf A c w' hb => by rw [hAR]; exact .inr (.inr (.inl ⟨hf, A, c, by rw [hl], by rw [hl]; exact hb⟩)))
  have HDEL : Hid (∀ (xs : List DT) A c w', partR m sf o fr rs = .inr (some (some (xs.map (·.1)))) → OBM 10 w.heap.size w (.slice A xs.length c) xs.length (flatD rs xs) w' → (∀ x ∈ xs, DOk w rs x w') → AR (.returned (.tuple #[.agg #[.bool false, .slice none 0 0, .slice A xs.length c], .nilIface])) w') := Lib.hid (fun xs A c w' hf hb hx => by rw [hAR]; exact .inr (.inr (.inr ⟨xs, A, c, hf, rfl, hb, hx⟩)))
  have AD := Lib.hid (fun (wx : World) (hb : Below w.heap.size w wx) => admissible_any m o A n c rs wx (h.below hb) hl (by omega) ho hz hm)
  have HP : Hid (partR m sf o fr rs = if admR m o rs = true then (if n = 1 then (if sf (rAt rs 0) = fr then .inr none else .inl 5)
    else if fullR m o rs = true then .inr (some none) else (match deltasR sf fr rs with
      | .inl e => .inl e
      | .inr ts => .inr (some (some ts)))) else .inl 4) := Lib.hid (by unfold partR; rw [hl])
  have HH := Lib.hid h
  have HL := Lib.hid hl
  have HC1 := Lib.hid hc
  have HC2 := Lib.hid hc2
  have HNN := Lib.hid hn
  have HO := Lib.hid ho
  have HZ := Lib.hid hz
  have HMM := Lib.hid hm
  have HSS := Lib.hid hs
  have hZ := Cs.new w #[.bool false, .slice none 0 0, .slice none 0 0] 31 [.bool false, .slice none 0 0, .slice none 0 0]
  have hbZ := (Below.refl w.heap.size w).alloc (Nat.le_refl _) (.cells #[.bool false, .slice none 0 0, .slice none 0 0] 31)
  have H0 := Lib.hid (And.intro hZ hbZ)
  clear h hl hs hAR hm hz ho hc hc2 hn hZ hbZ
  go_enter Tryd.func8, Tryd.ntmps8
  go_upto_region 1 with fail
  obtain ⟨hZ, hbZ⟩ := H0.out
  generalize w.alloc (.cells #[.bool false, .slice none 0 0, .slice none 0 0] 31) = wa at *
  obtain ⟨g, hg⟩ : ∃ g, g = w.heap.size := ⟨_, rfl⟩
  rw [← hg] at hZ ⊢
  have HZA := Lib.hid hZ
  have HG := Lib.hid hg
  have HBA := Lib.hid hbZ
  clear hZ hbZ hg H0
  go_wp2_with fail
  refine (AD.out _ HBA.out).mono ?_
  rintro e wb ⟨rfl, hbb⟩
  have HBB := Lib.hid (below_trans HBA.out HBA.out.size hbb)
  have HCB := Lib.hid (HZA.out.below hbb)
  clear hbb AD
  cases had : admR m o rs with
  | false =>
    have HF := Lib.hid (show partR m sf o fr rs = .inl 4 by rw [HP.out, had]; rfl)
    have HBW := HBB
    have HCW := HCB
    clear had
    have HTH := Lib.hid (HCW.out.there 3 rfl)
    have HM := Lib.hid (HCW.out.mid [.bool false, .slice none 0 0, .slice none 0 0] rfl)
    have HBM := Lib.hid (below_setCells' (B := w.heap.size) (g := g) (by rw [HG.out]; exact Nat.le_refl _) [.bool false, .slice none 0 0, .slice none 0 0] 0 HBW.out)
    go_wp2_with (first | refine wpList_store_mid rfl 31 _ _ rfl g 0 #[.bool false, .slice none 0 0, .slice none 0 0] rfl rfl HTH.out (by kernel_rfl) (by simp [Value.oneCell']) ?_)
    refine bodyPost_ret (v := .tuple #[.agg #[.bool false, .slice none 0 0, .slice none 0 0], .iface 36 (.int .i64 (4 : Nat))]) (results_cellE Tryd.results8 _ _ _ g 0 _ _ rfl HM.out.range Tryd.underlying31 rfl (by kernel_rfl)) rfl ?_
    exact HFAIL.out 4 HF.out _ HBM.out
  | true =>
    have hP2 := HP.out
    rw [had, if_pos rfl] at hP2
    have HP2 := Lib.hid hP2
    have hne : 0 < n := by
      rw [← HL.out]
      match rs, had with
      | _ :: _, _ => simp
    obtain ⟨r, hr⟩ : ∃ r, rs[0]? = some r := ⟨_, List.getElem?_eq_getElem (by rw [HL.out]; exact hne)⟩
    have hsr : soaB r = true := by
      match rs, had, hr with
      | a :: t, had, hr =>
        have e : a = r := by simpa using hr
        unfold admR at had
        rw [Bool.and_eq_true] at had
        rw [← e]; exact had.2
    obtain ⟨bb, off, rfl, hbw, hrg⟩ := HH.out.range hr
    have SE := Lib.hid (HSS.out r (List.mem_of_getElem? hr) hsr)
    have HR0 := Lib.hid (rAt_of hr)
    have HRF : Hid (∀ wx, Below w.heap.size w wx → wx.rangeAt bb off (recCells r)) := Lib.hid (fun wx hb j v hv => (hb.cell (p := ⟨bb, off + j, none⟩) hbw).trans (by have := hrg j v hv; simpa using this))
    have HBL := Lib.hid hbw
    clear had hP2 hr hsr hbw hrg HP
    by_cases h1 : n = 1
    · subst h1
      have hp3 := HP2.out
      rw [if_pos rfl, HR0.out] at hp3
      obtain ⟨SV, hSV⟩ : ∃ S, S = sf r := ⟨_, rfl⟩
      rw [← hSV] at SE hp3
      have HPQ := Lib.hid hp3
      clear hSV HR0 HP2 hp3
      obtain ⟨r0, r1, r2, r3⟩ := r
      unfold recV at SE
      unfold recCells at HRF
      simp only at SE HRF
      have HRB := Lib.hid (HRF.out wb HBB.out)
      go_wp2_with (first | refine wpList_load_midH rfl 41 _ rfl bb off rfl _ _ HRB.out Tryd.underlying41 rfl (by kernel_rfl) ?_)
      refine (SE.out _).mono ?_
      rintro e wc ⟨rfl, hbc⟩
      have HBW := Lib.hid (below_trans HBB.out HBB.out.size hbc)
      have HCW := Lib.hid (HCB.out.below hbc)
      clear hbc SE
      by_cases hsf : SV = fr
      · subst hsf
        have hq : ((SV : Int) == (SV : Int)) = true := by simp
        have hq2 : ((SV : Int) != (SV : Int)) = false := by simp
        have HF := Lib.hid (show partR m sf o SV rs = .inr none by rw [HPQ.out, if_pos rfl])
        have HTH := Lib.hid (HCW.out.there 3 rfl)
        have HM := Lib.hid (HCW.out.mid [.bool true, .slice none 0 0, .slice none 0 0] rfl)
        have HBM := Lib.hid (below_setCells' (B := w.heap.size) (g := g) (by rw [HG.out]; exact Nat.le_refl _) [.bool true, .slice none 0 0, .slice none 0 0] 0 HBW.out)
        go_wp2_with (first | refine wpList_store_mid rfl 31 _ _ rfl g 0 #[.bool true, .slice none 0 0, .slice none 0 0] rfl rfl HTH.out (by kernel_rfl) (by simp [Value.oneCell']) ?_)
        refine bodyPost_ret (v := .tuple #[.agg #[.bool true, .slice none 0 0, .slice none 0 0], .nilIface]) (results_cellE Tryd.results8 _ _ _ g 0 _ _ rfl HM.out.range Tryd.underlying31 rfl (by kernel_rfl)) rfl ?_
        exact HSAME.out HF.out _ HBM.out
      · have hq : ((SV : Int) == (fr : Int)) = false := by rw [beq_eq_false_iff_ne]; omega
        have hq2 : ((SV : Int) != (fr : Int)) = true := by simp [bne, hq]
        have HF := Lib.hid (show partR m sf o fr rs = .inl 5 by rw [HPQ.out, if_neg hsf])
        have HTH := Lib.hid (HCW.out.there 3 rfl)
        have HM := Lib.hid (HCW.out.mid [.bool false, .slice none 0 0, .slice none 0 0] rfl)
        have HBM := Lib.hid (below_setCells' (B := w.heap.size) (g := g) (by rw [HG.out]; exact Nat.le_refl _) [.bool false, .slice none 0 0, .slice none 0 0] 0 HBW.out)
        go_wp2_with (first | refine wpList_store_mid rfl 31 _ _ rfl g 0 #[.bool false, .slice none 0 0, .slice none 0 0] rfl rfl HTH.out (by kernel_rfl) (by simp [Value.oneCell']) ?_)
        refine bodyPost_ret (v := .tuple #[.agg #[.bool false, .slice none 0 0, .slice none 0 0], .iface 36 (.int .i64 (5 : Nat))]) (results_cellE Tryd.results8 _ _ _ g 0 _ _ rfl HM.out.range Tryd.underlying31 rfl (by kernel_rfl)) rfl ?_
        exact HFAIL.out 5 HF.out _ HBM.out
    · have HP3 := HP2.out
      rw [if_neg h1] at HP3
      have HP3 := Lib.hid HP3
      have h2 : 2 ≤ n := by omega
      have FU := Lib.hid (full_any m o bb off n c rs wb (HH.out.below HBB.out) HL.out HNN.out h2 HC1.out HO.out HZ.out (Nat.lt_of_lt_of_le HBL.out HBB.out.size) HMM.out (fun wx hb => by
        have hp := ((HH.out.below HBB.out).below hb).part 0 (n - 1)
        rw [Nat.zero_mul, Nat.add_zero, List.drop_zero] at hp
        have hp2 := hp.sl
        rw [show (rs.take (n - 1)).length = n - 1 by rw [List.length_take, HL.out]; omega] at hp2
        have hn := HNN.out
        exact clone_recs _ _ _ _ _ _ hp2 (flatR_one _) (fun e => by cases e) (by omega)))
      have DS := Lib.hid (fun (wx : World) (hb : Below w.heap.size w wx) => deltas_any sf fr bb off n c rs wx (HH.out.below hb) HL.out HNN.out h2 HC1.out HC2.out HSS.out)
      have hn1 : ((n : Int) == 1) = false := by rw [beq_eq_false_iff_ne]; omega
      have hn1' : ¬ (n : Int) = 1 := by omega
      have FU : Hid (Calls Tryd.prog 23 #[.string o, .slice (some ⟨bb, off, none⟩) n c] wb fun e w' =>
        (fullR m o rs = false ∧ e = .returned (.tuple #[.slice none 0 0, .iface 36 (.int .i64 4)]) ∧ Below wb.heap.size wb w') ∨
        (fullR m o rs = true ∧ ∃ A c, e = .returned (.tuple #[.slice A (n - 1) c, .nilIface]) ∧ OBM 4 wb.heap.size wb (.slice A (n - 1) c) (n - 1) (flatR (rs.take (n - 1))) w')) := Lib.hid (FU.out.mono (by
          rintro e w' (⟨g1, g2, g3⟩ | ⟨g1, v, g2, g3⟩)
          · exact .inl ⟨g1, g2, g3⟩
          · rw [HL.out] at g3
            obtain ⟨A', c', rfl, -⟩ := g3.slice
            exact .inr ⟨g1, A', c', g2, g3⟩))
      have DS : Hid (∀ (wx : World) (hb : Below w.heap.size w wx), Calls Tryd.prog 24 #[.int .u32 (fr : Nat), .slice (some ⟨bb, off, none⟩) n c] wx fun e w' =>
        (∃ er : Nat, deltasR sf fr rs = .inl er ∧ e = .returned (.tuple #[.slice none 0 0, .iface 36 (.int .i64 er)]) ∧ Below wx.heap.size wx w') ∨
        (∃ (xs : List DT) (A : Option Addr) (c : Nat), deltasR sf fr rs = .inr (xs.map (·.1)) ∧ e = .returned (.tuple #[.slice A xs.length c, .nilIface]) ∧ OBM 10 wx.heap.size wx (.slice A xs.length c) xs.length (flatD rs xs) w' ∧ ∀ x ∈ xs, DOk wx rs x w')) := Lib.hid (fun wx hb => (DS.out wx hb).mono (by
          rintro e w' (⟨er, g1, g2, g3⟩ | ⟨ts, xs, v, g1, g2, g3, g4, g5⟩)
          · exact .inl ⟨er, g1, g2, g3⟩
          · subst g2
            obtain ⟨A', c', rfl, -⟩ := g4.slice
            exact .inr ⟨xs, A', c', g1, g3, g4, g5⟩))
      clear h1 h2
      go_wp2_with fail
      refine FU.out.mono ?_
      rintro e wc (⟨hf0, rfl, hbc⟩ | ⟨hf0, A', c', rfl, ho1⟩)
      · have HBC := Lib.hid (below_trans HBB.out HBB.out.size hbc)
        have HCC := Lib.hid (HCB.out.below hbc)
        have hp4 := HP3.out
        rw [hf0, if_neg (by simp)] at hp4
        have HP4 := Lib.hid hp4
        clear hp4
        clear hbc hf0 FU
        go_wp2_with fail
        refine (DS.out _ HBC.out).mono ?_
        rintro e wd (⟨er, hd0, rfl, hbd⟩ | ⟨xs, A', c', hd0, rfl, ho1, hx⟩)
        · have HF := Lib.hid (show partR m sf o fr rs = .inl er by rw [HP4.out, hd0])
          have HBW := Lib.hid (below_trans HBC.out HBC.out.size hbd)
          have HCW := Lib.hid (HCC.out.below hbd)
          clear hd0 hbd DS
          have HTH := Lib.hid (HCW.out.there 3 rfl)
          have HM := Lib.hid (HCW.out.mid [.bool false, .slice none 0 0, .slice none 0 0] rfl)
          have HBM := Lib.hid (below_setCells' (B := w.heap.size) (g := g) (by rw [HG.out]; exact Nat.le_refl _) [.bool false, .slice none 0 0, .slice none 0 0] 0 HBW.out)
          go_wp2_with (first | refine wpList_store_mid rfl 31 _ _ rfl g 0 #[.bool false, .slice none 0 0, .slice none 0 0] rfl rfl HTH.out (by kernel_rfl) (by simp [Value.oneCell']) ?_)
          refine bodyPost_ret (v := .tuple #[.agg #[.bool false, .slice none 0 0, .slice none 0 0], .iface 36 (.int .i64 er)]) (results_cellE Tryd.results8 _ _ _ g 0 _ _ rfl HM.out.range Tryd.underlying31 rfl (by kernel_rfl)) rfl ?_
          exact HFAIL.out er HF.out _ HBM.out
        · have HF := Lib.hid (show partR m sf o fr rs = .inr (some (some (xs.map (·.1)))) by rw [HP4.out, hd0])
          have HBW := Lib.hid (below_trans HBC.out HBC.out.size ho1.bel)
          have HCW := Lib.hid (HCC.out.below ho1.bel)
          have hgl : w.heap.size ≤ g := by rw [HG.out]; exact Nat.le_refl _
          have hgc : g < wc.heap.size := HCC.out.lt
          have hb5 := below_setCells' hgl [.bool false, .slice none 0 0, .slice A' xs.length c'] 0 HBW.out
          have hst := setCells_heap wd g [.bool false, .slice none 0 0, .slice A' xs.length c'] 0
          have O1 := Lib.hid ((ho1.out HBC.out.size HBC.out).block hb5 (by rw [hst.1]; exact Nat.le_refl _) (fun k hk => hst.2 k (fun e => by have := (ho1.lt k hk).1; omega)))
          have OX := Lib.hid (fun x (hm : x ∈ xs) => (show DOk w rs x (wd.setCells g 0 [.bool false, .slice none 0 0, .slice A' xs.length c']) from ⟨((hx x hm).gone.out HBC.out.size HBC.out).block hb5 (by rw [hst.1]; exact Nat.le_refl _) (fun k hk => hst.2 k (fun e => by have := ((hx x hm).gone.lt k hk).1; omega)), ((hx x hm).new.out HBC.out.size HBC.out).block hb5 (by rw [hst.1]; exact Nat.le_refl _) (fun k hk => hst.2 k (fun e => by have := ((hx x hm).new.lt k hk).1; omega))⟩))
          clear hd0 DS hgl hgc hb5 hst ho1 hx
          have HTH := Lib.hid (HCW.out.there 3 rfl)
          have HM := Lib.hid (HCW.out.mid [.bool false, .slice none 0 0, .slice A' xs.length c'] rfl)
          have HBM := Lib.hid (below_setCells' (B := w.heap.size) (g := g) (by rw [HG.out]; exact Nat.le_refl _) [.bool false, .slice none 0 0, .slice A' xs.length c'] 0 HBW.out)
          go_wp2_with (first | refine wpList_store_mid rfl 31 _ _ rfl g 0 #[.bool false, .slice none 0 0, .slice A' xs.length c'] rfl rfl HTH.out (by kernel_rfl) (by simp [Value.oneCell']) ?_)
          refine bodyPost_ret (v := .tuple #[.agg #[.bool false, .slice none 0 0, .slice A' xs.length c'], .nilIface]) (results_cellE Tryd.results8 _ _ _ g 0 _ _ rfl HM.out.range Tryd.underlying31 rfl (by kernel_rfl)) rfl ?_
          exact HDEL.out xs _ _ _ HF.out O1.out OX.out
      · have HF := Lib.hid (show partR m sf o fr rs = .inr (some none) by rw [HP3.out, hf0, if_pos rfl])
        have HBW := Lib.hid (below_trans HBB.out HBB.out.size ho1.bel)
        have HCW := Lib.hid (HCB.out.below ho1.bel)
        have hgl : w.heap.size ≤ g := by rw [HG.out]; exact Nat.le_refl _
        have hgc : g < wb.heap.size := HCB.out.lt
        have hb5 := below_setCells' hgl [.bool false, .slice A' (n - 1) c', .slice none 0 0] 0 HBW.out
        have hst := setCells_heap wc g [.bool false, .slice A' (n - 1) c', .slice none 0 0] 0
        have O1 := Lib.hid ((ho1.out HBB.out.size HBB.out).block hb5 (by rw [hst.1]; exact Nat.le_refl _) (fun k hk => hst.2 k (fun e => by have := (ho1.lt k hk).1; omega)))
        clear hf0 FU hgl hgc hb5 hst ho1
        have HTH := Lib.hid (HCW.out.there 3 rfl)
        have HM := Lib.hid (HCW.out.mid [.bool false, .slice A' (n - 1) c', .slice none 0 0] rfl)
        have HBM := Lib.hid (below_setCells' (B := w.heap.size) (g := g) (by rw [HG.out]; exact Nat.le_refl _) [.bool false, .slice A' (n - 1) c', .slice none 0 0] 0 HBW.out)
        go_wp2_with (first | refine wpList_store_mid rfl 31 _ _ rfl g 0 #[.bool false, .slice A' (n - 1) c', .slice none 0 0] rfl rfl HTH.out (by kernel_rfl) (by simp [Value.oneCell']) ?_)
        refine bodyPost_ret (v := .tuple #[.agg #[.bool false, .slice A' (n - 1) c', .slice none 0 0], .nilIface]) (results_cellE Tryd.results8 _ _ _ g 0 _ _ rfl HM.out.range Tryd.underlying31 rfl (by kernel_rfl)) rfl ?_
        exact HALLR.out HF.out _ _ _ O1.out
end Go.Proofs.YtpbbnpglcadimaaDoor
namespace Go.Proofs.YtpbbnpglcadimaaDoor
open Go.RowKit
set_option linter.unusedVariables false
set_option maxRecDepth 20000

theorem isSoa_no1 {l : List UInt8} (h : ∀ n t, ¬ IsCut l n t) (a b t : List UInt8) : ¬ IsSoa l a b t := fun hs => h _ _ hs.1
theorem isSoa_no2 {l a r : List UInt8} (h1 : IsCut l a r) (h : ∀ n t, ¬ IsCut r n t) (a' b t : List UInt8) : ¬ IsSoa l a' b t := fun hs => by
  obtain ⟨-, h2⟩ := At.one h1 hs.1
  exact h b t ⟨hs.2.1, h2⟩
theorem isSoa_no3 {l a r b t : List UInt8} (h1 : IsCut l a r) (h2 : IsCut r b t) (h : t.length ≠ 20) (a' b' t' : List UInt8) : ¬ IsSoa l a' b' t' := fun hs => by
  obtain ⟨-, h3⟩ := At.one h1 hs.1
  obtain ⟨-, h4⟩ := At.one h2 ⟨hs.2.1, h3⟩
  rw [h4] at h; exact h hs.2.2
theorem isSoa_yes {l a r b t : List UInt8} (h1 : IsCut l a r) (h2 : IsCut r b t) (h : t.length = 20) : IsSoa l a b t := by
  refine ⟨⟨h1.1, ?_⟩, h2.1, h⟩
  rw [← h2.2]; exact h1.2
theorem IsCut.len {l n t : List UInt8} (h : IsCut l n t) : n.length + t.length + 1 = l.length := by rw [h.2]; simp; omega
/-- The value of an SOA. -/
def soaV (a b t : List UInt8) : Value := .agg #[sv a, sv b, .int .u32 (n32 ⟨t.toArray⟩ 0), .int .u32 (n32 ⟨t.toArray⟩ 4), .int .u32 (n32 ⟨t.toArray⟩ 8), .int .u32 (n32 ⟨t.toArray⟩ 12), .int .u32 (n32 ⟨t.toArray⟩ 16)]
def soa0 : Value := .agg #[.string ⟨#[]⟩, .string ⟨#[]⟩, .int .u32 0, .int .u32 0, .int .u32 0, .int .u32 0, .int .u32 0]
theorem number_any (s : ByteArray) (k : Nat) (j : Int) (w : World) (hs : s.size = 20) (hk : k < 5) (hj : j = k) :
    Calls Tryd.prog 80 #[.string s, .int .i64 j] w fun e w' => e = .returned (.int .u32 (n32 s (4 * k))) ∧ ∃ n, w.drewN n = w' := by
  subst hj
  have HG := Lib.hid (fun w => get32_yes s (4 * k) w (by unfold maxLen; omega) (by omega))
  have hi : IntKind.i64.wrap (4 * (k : Int)) = ((4 * k : Nat) : Int) := by rw [IntWalk.i64_in _ (by omega)]; omega
  clear hs hk
  go_enter Tryd.func80, Tryd.ntmps80
  go_wp2_with fail
  refine (HG.out _).mono ?_
  rintro e w1 ⟨rfl, n, rfl⟩
  go_wp2_with fail
  go_ret
  exact ⟨rfl, n, rfl⟩
set_option maxHeartbeats 1600000 in
theorem parse_any (s : ByteArray) (w : World) (hs : s.size ≤ 140737488355328) :
    Calls Tryd.prog 63 #[.string s] w fun e w' => Below w.heap.size w w' ∧ ((∃ a b t, IsSoa s.data.toList a b t ∧ e = .returned (.tuple #[soaV a b t, .bool true])) ∨ ((∀ a b t, ¬ IsSoa s.data.toList a b t) ∧ e = .returned (.tuple #[soa0, .bool false]))) := by
  have hlen : s.data.toList.length = s.size := by simp
  obtain ⟨L, hL⟩ : ∃ L, s.data.toList = L := ⟨_, rfl⟩
  have HC := Lib.hid (fun w => cutp_any s w hs)
  rw [hL] at HC hlen
  rw [hL]
  clear hL
  go_enter Tryd.func63, Tryd.ntmps63
  go_wp2_with fail
  refine (HC.out _).mono ?_
  rintro e w1 ⟨hb1', ⟨a, r, hc1, rfl⟩ | ⟨hno, rfl⟩⟩
  all_goals
    obtain ⟨W, hW⟩ : ∃ W, W = w.alloc (.cells #[.string ⟨#[]⟩, .string ⟨#[]⟩, .int .u32 0, .int .u32 0, .int .u32 0, .int .u32 0, .int .u32 0] 60) := ⟨_, rfl⟩
    rw [← hW] at hb1'
    have hzW : W.heap.size = w.heap.size + 1 := by rw [hW]; simp
    have hBW : Below w.heap.size w W := by rw [hW]; exact (Below.refl _ _).alloc (Nat.le_refl _) _
    have c0 : W.cell? ⟨w.heap.size, 0, none⟩ = some (.string ⟨#[]⟩) := by rw [hW]; simp
    have c1 : W.cell? ⟨w.heap.size, 1, none⟩ = some (.string ⟨#[]⟩) := by rw [hW]; simp
    have c2 : W.cell? ⟨w.heap.size, 2, none⟩ = some (.int .u32 0) := by rw [hW]; simp
    have c3 : W.cell? ⟨w.heap.size, 3, none⟩ = some (.int .u32 0) := by rw [hW]; simp
    have c4 : W.cell? ⟨w.heap.size, 4, none⟩ = some (.int .u32 0) := by rw [hW]; simp
    have c5 : W.cell? ⟨w.heap.size, 5, none⟩ = some (.int .u32 0) := by rw [hW]; simp
    have c6 : W.cell? ⟨w.heap.size, 6, none⟩ = some (.int .u32 0) := by rw [hW]; simp
    have fz : ∀ i, W.frozen? ⟨w.heap.size, i, none⟩ = false := by intro i; rw [hW, World.frozen?_alloc_at _ _ _ _ rfl]
    clear hW
  · have HC1 := Lib.hid hc1
    have hl1 := hc1.len
    have HC2 := Lib.hid (fun w => cutp_any ⟨r.toArray⟩ w (by rw [mk_size]; omega))
    rw [mk_toList] at HC2
    clear hc1
    unfold sv
    go_wp2_with fail
    refine (HC2.out _).mono ?_
    rintro e w2 ⟨hb2', ⟨b, t, hc2, rfl⟩ | ⟨hno, rfl⟩⟩
    all_goals
      have hb2 := below_trans hb1' hb1'.size hb2'
      have d0 := (hb2.cell (p := ⟨w.heap.size, 0, none⟩) (by show w.heap.size < W.heap.size; omega)).trans c0
      have d1 := (hb2.cell (p := ⟨w.heap.size, 1, none⟩) (by show w.heap.size < W.heap.size; omega)).trans c1
      have d2 := (hb2.cell (p := ⟨w.heap.size, 2, none⟩) (by show w.heap.size < W.heap.size; omega)).trans c2
      have d3 := (hb2.cell (p := ⟨w.heap.size, 3, none⟩) (by show w.heap.size < W.heap.size; omega)).trans c3
      have d4 := (hb2.cell (p := ⟨w.heap.size, 4, none⟩) (by show w.heap.size < W.heap.size; omega)).trans c4
      have d5 := (hb2.cell (p := ⟨w.heap.size, 5, none⟩) (by show w.heap.size < W.heap.size; omega)).trans c5
      have d6 := (hb2.cell (p := ⟨w.heap.size, 6, none⟩) (by show w.heap.size < W.heap.size; omega)).trans c6
      have fd : ∀ i, w2.frozen? ⟨w.heap.size, i, none⟩ = false := fun i => (hb2.frozen (p := ⟨w.heap.size, i, none⟩) (by show w.heap.size < W.heap.size; omega)).trans (fz i)
      have hB2 := hBW.trans (hb2.mono hBW.size)
      clear hb2 hb2' hb1' c0 c1 c2 c3 c4 c5 c6 fz hBW
    · unfold sv
      by_cases h20 : t.length = 20
      · have hsz : (ByteArray.mk t.toArray).size = 20 := by rw [mk_size]; exact h20
        have HY := Lib.hid (isSoa_yes HC1.out hc2 h20)
        have N0 := Lib.hid (fun w => number_any ⟨t.toArray⟩ 0 0 w hsz (by omega) rfl)
        have N1 := Lib.hid (fun w => number_any ⟨t.toArray⟩ 1 1 w hsz (by omega) rfl)
        have N2 := Lib.hid (fun w => number_any ⟨t.toArray⟩ 2 2 w hsz (by omega) rfl)
        have N3 := Lib.hid (fun w => number_any ⟨t.toArray⟩ 3 3 w hsz (by omega) rfl)
        have N4 := Lib.hid (fun w => number_any ⟨t.toArray⟩ 4 4 w hsz (by omega) rfl)
        have hne : (((ByteArray.mk t.toArray).size : Int) != 20) = false := by rw [hsz]; decide
        obtain ⟨T, hT⟩ : ∃ T, T = ByteArray.mk t.toArray := ⟨_, rfl⟩
        rw [← hT] at hsz N0 N1 N2 N3 N4 hne ⊢
        have HT := Lib.hid hT
        clear hc2 HC1 HC2 HC h20 hT
        go_wp2_with fail
        refine (N0.out _).mono ?_
        rintro e w3 ⟨rfl, k0, rfl⟩
        go_wp2_with fail
        refine (N1.out _).mono ?_
        rintro e w3 ⟨rfl, k1, rfl⟩
        go_wp2_with fail
        refine (N2.out _).mono ?_
        rintro e w3 ⟨rfl, k2, rfl⟩
        go_wp2_with fail
        refine (N3.out _).mono ?_
        rintro e w3 ⟨rfl, k3, rfl⟩
        go_wp2_with fail
        refine (N4.out _).mono ?_
        rintro e w3 ⟨rfl, k4, rfl⟩
        have hB5 := below_drew hB2 (k0 + k1 + k2 + k3 + k4)
        clear hB2
        go_wp2_with fail
        refine bodyPost_ret (v := .tuple #[.agg #[.string ⟨a.toArray⟩, .string ⟨b.toArray⟩, .int .u32 (n32 T 0), .int .u32 (n32 T 4), .int .u32 (n32 T 8), .int .u32 (n32 T 12), .int .u32 (n32 T 16)], .bool true]) (by simp [results, Tryd.results63, go_sem, d0, d1, d2, d3, d4, d5, d6]) rfl ⟨?_, .inl ⟨a, b, t, HY.out, ?_⟩⟩
        · iterate 7 (refine Below.setCell ?_ (by simp) _)
          exact hB5
        · unfold soaV sv; rw [← HT.out]
      · have hne : (((ByteArray.mk t.toArray).size : Int) != 20) = true := by rw [mk_size]; simp; omega
        have HN := Lib.hid (isSoa_no3 HC1.out hc2 h20)
        generalize ByteArray.mk t.toArray = T at *
        clear hc2 HC1 HC2 HC h20
        go_wp2_with fail
        refine bodyPost_ret (v := .tuple #[soa0, .bool false]) (by simp [soa0, results, Tryd.results63, go_sem, d0, d1, d2, d3, d4, d5, d6]) rfl ⟨?_, .inr ⟨HN.out, rfl⟩⟩
        iterate 7 (refine Below.setCell ?_ (by simp) _)
        exact hB2
    · have HN := Lib.hid (isSoa_no2 HC1.out hno)
      clear HC1 HC2 HC hno
      go_wp2_with fail
      refine bodyPost_ret (v := .tuple #[soa0, .bool false]) (by simp [soa0, results, Tryd.results63, go_sem, d0, d1, d2, d3, d4, d5, d6]) rfl ⟨?_, .inr ⟨HN.out, rfl⟩⟩
      iterate 7 (refine Below.setCell ?_ (by simp) _)
      exact hB2
  · have HN := Lib.hid (isSoa_no1 hno)
    have hb2 := hb1'
    have d0 := (hb2.cell (p := ⟨w.heap.size, 0, none⟩) (by show w.heap.size < W.heap.size; omega)).trans c0
    have d1 := (hb2.cell (p := ⟨w.heap.size, 1, none⟩) (by show w.heap.size < W.heap.size; omega)).trans c1
    have d2 := (hb2.cell (p := ⟨w.heap.size, 2, none⟩) (by show w.heap.size < W.heap.size; omega)).trans c2
    have d3 := (hb2.cell (p := ⟨w.heap.size, 3, none⟩) (by show w.heap.size < W.heap.size; omega)).trans c3
    have d4 := (hb2.cell (p := ⟨w.heap.size, 4, none⟩) (by show w.heap.size < W.heap.size; omega)).trans c4
    have d5 := (hb2.cell (p := ⟨w.heap.size, 5, none⟩) (by show w.heap.size < W.heap.size; omega)).trans c5
    have d6 := (hb2.cell (p := ⟨w.heap.size, 6, none⟩) (by show w.heap.size < W.heap.size; omega)).trans c6
    have fd : ∀ i, w1.frozen? ⟨w.heap.size, i, none⟩ = false := fun i => (hb2.frozen (p := ⟨w.heap.size, i, none⟩) (by show w.heap.size < W.heap.size; omega)).trans (fz i)
    have hB2 := hBW.trans (hb2.mono hBW.size)
    clear hb2 hb1' c0 c1 c2 c3 c4 c5 c6 fz hBW HC hno
    go_wp2_with fail
    refine bodyPost_ret (v := .tuple #[soa0, .bool false]) (by simp [soa0, results, Tryd.results63, go_sem, d0, d1, d2, d3, d4, d5, d6]) rfl ⟨?_, .inr ⟨HN.out, rfl⟩⟩
    iterate 7 (refine Below.setCell ?_ (by simp) _)
    exact hB2
end Go.Proofs.YtpbbnpglcadimaaDoor
namespace Go.Proofs.YtpbbnpglcadimaaDoor
open Go.RowKit
set_option linter.unusedVariables false
set_option maxRecDepth 20000

/-- The data of an SOA of two names and numbers. -/
def dataL (a b : List UInt8) (ns : List Nat) : List UInt8 := a ++ 0 :: (b ++ 0 :: ns.flatMap b32)
theorem b32_len (ns : List Nat) : (ns.flatMap b32).length = 4 * ns.length := by
  induction ns with
  | nil => rfl
  | cons x l ih => simp only [List.flatMap_cons, List.length_append, ih, List.length_cons]; simp [b32]; omega
set_option maxHeartbeats 3200000 in
theorem sdata_any (a b : ByteArray) (n1 n2 n3 n4 n5 : Nat) (w : World) (ha : a.size ≤ 140737488355328) (hb : b.size ≤ 140737488355328) (h1 : n1 < 4294967296) (h2 : n2 < 4294967296) (h3 : n3 < 4294967296) (h4 : n4 < 4294967296) (h5 : n5 < 4294967296) :
    Calls Tryd.prog 18 #[.agg #[.string a, .string b, .int .u32 n1, .int .u32 n2, .int .u32 n3, .int .u32 n4, .int .u32 n5]] w fun e w' => Below w.heap.size w w' ∧
      (((mayL a.data.toList ∧ mayL b.data.toList) ∧ e = .returned (.tuple #[sv (dataL a.data.toList b.data.toList [n1, n2, n3, n4, n5]), .bool true])) ∨ (¬ (mayL a.data.toList ∧ mayL b.data.toList) ∧ e = .returned (.tuple #[.string ⟨#[]⟩, .bool false]))) := by
  have ma := fun w => may_any a w (by unfold maxLen; omega)
  have mb := fun w => may_any b w (by unfold maxLen; omega)
  have ea := may_mayL a
  have eb := may_mayL b
  have EA := Lib.hid ea
  have EB := Lib.hid eb
  clear ea eb
  cases hma : (labelsOf a).isSome with
  | false =>
    rw [hma] at ma EA
    have MA := Lib.hid ma
    clear ma mb hma
    go_enter Tryd.func18, Tryd.ntmps18
    go_wp2_with fail
    refine (MA.out _).mono ?_
    rintro e w1 ⟨rfl, hb1⟩
    have hB1 := below_alloc _ (Below.refl _ _) (Nat.le_refl _) hb1
    go_wp2_with fail
    go_ret2
    exact ⟨hB1, .inr ⟨(fun h => by have := EA.out.2 h.1; cases this), rfl⟩⟩
  | true =>
  cases hmb : (labelsOf b).isSome with
  | false =>
    rw [hma] at ma EA
    rw [hmb] at mb EB
    have MA := Lib.hid ma
    have MB := Lib.hid mb
    clear ma mb hma hmb
    go_enter Tryd.func18, Tryd.ntmps18
    go_wp2_with fail
    refine (MA.out _).mono ?_
    rintro e w1 ⟨rfl, hb1⟩
    have c1 := (hb1.cell (p := ⟨w.heap.size, 1, none⟩) (by simp)).trans (show _ = some (.string b) by simp)
    have hB1 := below_alloc _ (Below.refl _ _) (Nat.le_refl _) hb1
    clear hb1
    go_wp2_with fail
    refine (MB.out _).mono ?_
    rintro e w2 ⟨rfl, hb2⟩
    have hB2 := below_trans hB1 hB1.size hb2
    go_wp2_with fail
    go_ret2
    exact ⟨hB2, .inr ⟨(fun h => by have := EB.out.2 h.2; cases this), rfl⟩⟩
  | true =>
    have HH := Lib.hid (And.intro (EA.out.1 hma) (EB.out.1 hmb))
    rw [hma] at ma
    rw [hmb] at mb
    have sa : a.size ≤ 254 := by have := mayL_wire HH.out.1; obtain ⟨_, _, _, h⟩ := this; simpa using h
    have sb : b.size ≤ 254 := by have := mayL_wire HH.out.2; obtain ⟨_, _, _, h⟩ := this; simpa using h
    have MA := Lib.hid ma
    have MB := Lib.hid mb
    clear ma mb hma hmb EA EB
    go_enter Tryd.func18, Tryd.ntmps18
    go_wp2_with fail
    refine (MA.out _).mono ?_
    rintro e w1 ⟨rfl, hb1⟩
    obtain ⟨W, hW⟩ : ∃ W, W = w.alloc (.cells #[.string a, .string b, .int .u32 n1, .int .u32 n2, .int .u32 n3, .int .u32 n4, .int .u32 n5] 60) := ⟨_, rfl⟩
    rw [← hW] at hb1
    have hzW : W.heap.size = w.heap.size + 1 := by rw [hW]; simp
    have hBW : Below w.heap.size w W := by rw [hW]; exact (Below.refl _ _).alloc (Nat.le_refl _) _
    have c0 : W.cell? ⟨w.heap.size, 0, none⟩ = some (.string a) := by rw [hW]; simp
    have c1 : W.cell? ⟨w.heap.size, 1, none⟩ = some (.string b) := by rw [hW]; simp
    have c2 : W.cell? ⟨w.heap.size, 2, none⟩ = some (.int .u32 n1) := by rw [hW]; simp
    have c3 : W.cell? ⟨w.heap.size, 3, none⟩ = some (.int .u32 n2) := by rw [hW]; simp
    have c4 : W.cell? ⟨w.heap.size, 4, none⟩ = some (.int .u32 n3) := by rw [hW]; simp
    have c5 : W.cell? ⟨w.heap.size, 5, none⟩ = some (.int .u32 n4) := by rw [hW]; simp
    have c6 : W.cell? ⟨w.heap.size, 6, none⟩ = some (.int .u32 n5) := by rw [hW]; simp
    clear hW
    have d1 := (hb1.cell (p := ⟨w.heap.size, 1, none⟩) (by show w.heap.size < W.heap.size; omega)).trans c1
    go_wp2_with fail
    clear d1
    refine (MB.out _).mono ?_
    rintro e w2 ⟨rfl, hb2⟩
    have hb := below_trans hb1 hb1.size hb2
    have d0 := (hb.cell (p := ⟨w.heap.size, 0, none⟩) (by show w.heap.size < W.heap.size; omega)).trans c0
    have d1 := (hb.cell (p := ⟨w.heap.size, 1, none⟩) (by show w.heap.size < W.heap.size; omega)).trans c1
    have d2 := (hb.cell (p := ⟨w.heap.size, 2, none⟩) (by show w.heap.size < W.heap.size; omega)).trans c2
    have d3 := (hb.cell (p := ⟨w.heap.size, 3, none⟩) (by show w.heap.size < W.heap.size; omega)).trans c3
    have d4 := (hb.cell (p := ⟨w.heap.size, 4, none⟩) (by show w.heap.size < W.heap.size; omega)).trans c4
    have d5 := (hb.cell (p := ⟨w.heap.size, 5, none⟩) (by show w.heap.size < W.heap.size; omega)).trans c5
    have d6 := (hb.cell (p := ⟨w.heap.size, 6, none⟩) (by show w.heap.size < W.heap.size; omega)).trans c6
    have hB2 := hBW.trans (hb.mono hBW.size)
    have hz2 := hb.size
    clear hb1 hb2 hb hBW c0 c1 c2 c3 c4 c5 c6
    go_wp2_with fail
    refine (put32_any none 0 0 [] _ 5 5 [n1, n2, n3, n4, n5] _ (Sl.nil _ _ _ _) (fun _ => ⟨rfl, rfl⟩) (Sl.fresh _ _ _ _ _ rfl rfl) (by simp; omega) (by omega)).mono ?_
    rintro e w3 ⟨g, rfl, hown, hb3⟩
    have hz2' := hB2.size
    have e0 := (hb3.cell (p := ⟨w.heap.size, 0, none⟩) (by simp; omega)).trans ((World.cell?_alloc_lt w2 _ _ (by show w.heap.size < w2.heap.size; omega)).trans d0)
    have e1 := (hb3.cell (p := ⟨w.heap.size, 1, none⟩) (by simp; omega)).trans ((World.cell?_alloc_lt w2 _ _ (by show w.heap.size < w2.heap.size; omega)).trans d1)
    have hB3 := below_alloc _ hB2 hz2' hb3
    clear d0 d1 d2 d3 d4 d5 d6 hb3 hB2
    have pa := fun w => plain_any a w (by omega)
    have pb := fun w => plain_any b w (by omega)
    unfold sv at pa pb
    have hcv := fun k => run_string_own (P := Tryd.prog) (w3.drewN k) 64 9 5 _ _ _ _ _ Tryd.underlying64 Tryd.underlying5 Tryd.underlying9 (show World.ownsRow (w3.drewN k) _ _ _ _ _ _ from hown)
    have hlT : ([] ++ List.flatMap b32 [n1, n2, n3, n4, n5]).length = 20 := by rw [List.nil_append, b32_len]; rfl
    obtain ⟨L, hL⟩ : ∃ L, [] ++ List.flatMap b32 [n1, n2, n3, n4, n5] = L := ⟨_, rfl⟩
    rw [hL] at hcv hlT
    obtain ⟨A1, hA1⟩ : ∃ A1, A1 = (ByteArray.mk (a.data.toList ++ [0]).toArray) := ⟨_, rfl⟩
    obtain ⟨B1, hB1⟩ : ∃ B1, B1 = (ByteArray.mk (b.data.toList ++ [0]).toArray) := ⟨_, rfl⟩
    obtain ⟨T, hT⟩ : ∃ T, T = (ByteArray.mk L.toArray) := ⟨_, rfl⟩
    rw [← hA1] at pa
    rw [← hB1] at pb
    rw [← hT] at hcv
    have sA : A1.size = a.size + 1 := by rw [hA1, mk_size]; simp
    have sB : B1.size = b.size + 1 := by rw [hB1, mk_size]; simp
    have sT : T.size = 20 := by rw [hT, mk_size]; exact hlT
    have hfin : Value.string (A1 ++ B1 ++ T) = sv (dataL a.data.toList b.data.toList [n1, n2, n3, n4, n5]) := by
      rw [hA1, hB1, hT, ← hL, sv_append]
      unfold sv dataL
      simp
    have HF := Lib.hid hfin
    have PA := Lib.hid pa
    have PB := Lib.hid pb
    have q1 : ¬ 9223372036854775807 < A1.size + B1.size := by omega
    have q2 : ¬ 9223372036854775807 < A1.size + B1.size + T.size := by omega
    have q3 : ¬ 9223372036854775807 < (A1 ++ B1).size + T.size := by rw [ByteArray.size_append]; omega
    clear hown hA1 hB1 hT hL hlT hfin pa pb sA sB sT
    go_wp2_with fail
    go_quiet ((go_at_call 36; first | exact Calls.quiet_of_same ((PA.out _).mono fun e w' ⟨a, b⟩ => ⟨a, b.symm⟩) | exact Calls.quiet_of_same ((PB.out _).mono fun e w' ⟨a, b⟩ => ⟨a, b.symm⟩)))
    go_wp2_with fail
    go_ret2
    exact ⟨below_drew hB3 _, .inl ⟨HH.out, by rw [← HF.out]; rfl⟩⟩
end Go.Proofs.YtpbbnpglcadimaaDoor
namespace Go.Proofs.YtpbbnpglcadimaaDoor
open Go.RowKit
set_option linter.unusedVariables false
theorem nameZ_may (zs : List Int) (hz : ∀ z ∈ zs, 0 ≤ z ∧ z < 256) : mayL (nameZ zs) := by
  have h := few_labels (wordsZ_ok zs hz) (wordsZ_len zs)
  unfold mayL
  unfold labelsOf at h
  rw [show (ByteArray.mk (wire (wordsZ zs)).toArray).data.toList = wire (wordsZ zs) by simp] at h
  unfold nameZ
  rw [h]; rfl
theorem nameZ_len (zs : List Int) (hz : ∀ z ∈ zs, 0 ≤ z ∧ z < 256) : (nameZ zs).length ≤ 84 := by
  have := few_wire (wordsZ zs) (fun x hx => (wordsZ_ok zs hz x hx).2.2)
  have h2 := wordsZ_len zs
  unfold nameZ; omega
end Go.Proofs.YtpbbnpglcadimaaDoor
