/- A region that draws its order, whose words may end: what is said of a slot may hang on which operations are done. It speaks of no program. -/
import Derived.Test.YtodpaejakgjblaaDoorReg5
namespace Go.Proofs.YtodpaejakgjblaaDoor
open Go.RowKit
set_option linter.unusedVariables false
/-- What is said of a slot, by what is done. -/
abbrev WordX := (Nat → Bool) → Value → World → Prop
def wordX (Ws : List WordX) (d : Nat → Bool) (i : Nat) (v : Value) (w : World) : Prop := match Ws[i]? with | some p => p d v w | none => True
def setD (d : Nat → Bool) (i : Nat) : Nat → Bool := fun j => if j = i then true else d j
def leD (d d' : Nat → Bool) : Prop := ∀ j, d j = true → d' j = true
theorem setD_le (d : Nat → Bool) (i : Nat) : leD d (setD d i) := fun j h => by unfold setD; split <;> simp_all
theorem setD_self (d : Nat → Bool) (i : Nat) : setD d i i = true := by simp [setD]
theorem setD_ne (d : Nat → Bool) {i j : Nat} (h : j ≠ i) : setD d i j = d j := by simp [setD, h]
def StaysX (p : WordX) : Prop := ∀ d d' v w w', leD d d' → Goes w w' → p d v w → p d' v w'
def AllStaysX : List WordX → Prop
  | [] => True
  | p :: ps => StaysX p ∧ AllStaysX ps
theorem AllStaysX.mem : ∀ {l : List WordX}, AllStaysX l → ∀ p ∈ l, StaysX p
  | [], _, p, hp => by cases hp
  | q :: l, h, p, hp => by
    rcases List.mem_cons.1 hp with rfl | hp
    · exact h.1
    · exact AllStaysX.mem h.2 p hp
/-- What is said of all slots that are done. -/
def DoneX (d : Nat → Bool) (x : Nat → Value) (w : World) : Nat → List WordX → Prop
  | _, [] => True
  | i, p :: ps => (d i = true → p d (x i) w) ∧ DoneX d x w (i + 1) ps
/-- What was said holds still, behind operation K. -/
def KeepX (d : Nat → Bool) (K : Nat) (x : Nat → Value) (w w' : World) : Nat → List WordX → Prop
  | _, [] => True
  | i, p :: ps => (i ≠ K → d i = true → p d (x i) w → p (setD d K) (x i) w') ∧ KeepX d K x w w' (i + 1) ps
def AllX (x : Nat → Value) (w : World) : Nat → List WordX → Prop
  | _, [] => True
  | i, p :: ps => p (fun _ => true) (x i) w ∧ AllX x w (i + 1) ps
theorem doneX_of {Ws : List WordX} {d : Nat → Bool} {x : Nat → Value} {w : World} : ∀ (ps : List WordX) (k : Nat), (∀ j, j < ps.length → ps[j]? = Ws[k + j]?) → (∀ i, i < Ws.length → d i = true → wordX Ws d i (x i) w) → DoneX d x w k ps
  | [], _, _, _ => trivial
  | p :: ps, k, h, hw => by
    refine ⟨fun hd => ?_, doneX_of ps (k + 1) (fun j hj => ?_) hw⟩
    · have h0 := h 0 (by simp)
      simp at h0
      have hk : k < Ws.length := by
        rcases Nat.lt_or_ge k Ws.length with h1 | h1
        · exact h1
        · rw [List.getElem?_eq_none h1] at h0; cases h0
      have := hw k hk hd
      unfold wordX at this
      rw [← h0] at this
      exact this
    · have := h (j + 1) (by simpa using hj)
      rw [show k + 1 + j = k + (j + 1) by omega, ← this]
      simp
theorem allX_of {Ws : List WordX} {d : Nat → Bool} {x : Nat → Value} {w : World} (stays : AllStaysX Ws) : ∀ (ps : List WordX) (k : Nat), (∀ j, j < ps.length → ps[j]? = Ws[k + j]?) → (∀ i, i < Ws.length → wordX Ws d i (x i) w) → AllX x w k ps
  | [], _, _, _ => trivial
  | p :: ps, k, h, hw => by
    refine ⟨?_, allX_of stays ps (k + 1) (fun j hj => ?_) hw⟩
    · have h0 := h 0 (by simp)
      simp at h0
      have hk : k < Ws.length := by
        rcases Nat.lt_or_ge k Ws.length with h1 | h1
        · exact h1
        · rw [List.getElem?_eq_none h1] at h0; cases h0
      have := hw k hk
      unfold wordX at this
      rw [← h0] at this
      exact stays.mem p (List.mem_of_getElem? h0.symm) d _ _ w w (fun _ _ => rfl) (Below.refl _ _) this
    · have := h (j + 1) (by simpa using hj)
      rw [show k + 1 + j = k + (j + 1) by omega, ← this]
      simp
theorem KeepX.get {Ws : List WordX} {d : Nat → Bool} {K : Nat} {x : Nat → Value} {w w' : World} : ∀ {ps : List WordX} {k : Nat}, KeepX d K x w w' k ps → ∀ j p, ps[j]? = some p → k + j ≠ K → d (k + j) = true → p d (x (k + j)) w → p (setD d K) (x (k + j)) w'
  | [], _, _, j, p, hp => by simp at hp
  | q :: ps, k, h, 0, p, hp => by simp at hp; subst hp; exact h.1
  | q :: ps, k, h, j + 1, p, hp => by
    have := KeepX.get (Ws := Ws) h.2 j p (by simpa using hp)
    rwa [show k + 1 + j = k + (j + 1) by omega] at this
section
variable {P : Program} {ops : Array Oper} {Q : Exit → Act → World → Prop}
/-- What is there, of those done that an operation waits for. -/
def SrcX (ops : Array Oper) (d : Nat → Bool) (o : Oper) : Prop := ∀ e ∈ o.after.toList, Region.binds .any e = true → d e.on = true
/-- Whatever an operation that is done waited for is done. -/
def ClosedX (ops : Array Oper) (d : Nat → Bool) : Prop := ∀ j o, ops[j]? = some o → d j = true → SrcX ops d o
/-- Operation i is waited for by operation j, through others; within so many steps. -/
def reachX (ops : Array Oper) : Nat → Nat → Nat → Bool
  | 0, i, j => i == j
  | n + 1, i, j => i == j || (match ops[j]? with | some o => o.after.toList.any fun e => Region.binds .any e && reachX ops n i e.on | none => false)
theorem ClosedX.reach {ops : Array Oper} {d : Nat → Bool} (h : ClosedX ops d) : ∀ (n i j : Nat), reachX ops n i j = true → d j = true → d i = true
  | 0, i, j, hr, hj => by simp [reachX] at hr; subst hr; exact hj
  | n + 1, i, j, hr, hj => by
    unfold reachX at hr
    rw [Bool.or_eq_true] at hr
    rcases hr with hr | hr
    · simp at hr; subst hr; exact hj
    · cases ho : ops[j]? with
      | none => rw [ho] at hr; simp at hr
      | some o =>
        rw [ho] at hr
        simp only [List.any_eq_true, Bool.and_eq_true] at hr
        obtain ⟨e, he, hb, hr⟩ := hr
        exact ClosedX.reach h n i e.on hr (h j o ho hj e he hb)
theorem SrcX.reach {ops : Array Oper} {d : Nat → Bool} (h : ClosedX ops d) {K : Nat} {o : Oper} (hs : SrcX ops d o) (ho : ops[K]? = some o) (n i : Nat) (hi : i ≠ K) (hr : reachX ops (n + 1) i K = true) : d i = true := by
  unfold reachX at hr
  rw [Bool.or_eq_true] at hr
  rcases hr with hr | hr
  · simp at hr; exact absurd hr hi
  · rw [ho] at hr
    simp only [List.any_eq_true, Bool.and_eq_true] at hr
    obtain ⟨e, he, hb, hr⟩ := hr
    exact h.reach n i e.on hr (hs e he hb)
def NextX (A : Act) (dst : Option Tmp) (Ws : List WordX) (d : Nat → Bool) (i : Nat) (R : World → Prop) (w : World) (a' : Act) (w' : World) : Prop := ∃ v, a' = A.put dst v ∧ wordX Ws (setD d i) i v w' ∧ R w' ∧ Goes w w'
def NextK (A : Act) (dst : Option Tmp) (Ws : List WordX) (d : Nat → Bool) (i : Nat) (x : Nat → Value) (R : World → Prop) (w : World) (a' : Act) (w' : World) : Prop := ∃ v, a' = A.put dst v ∧ wordX Ws (setD d i) i v w' ∧ R w' ∧ KeepX d i x w w' 0 Ws
/-- An operation behind which all that was said holds still of itself. -/
def OpStepX (P : Program) (ops : Array Oper) (Q : Exit → Act → World → Prop) (Ws : List WordX) (R : World → Prop) (FF : (Nat → Value) → Act) (i : Nat) (o : Oper) : Prop :=
  ∀ (d : Nat → Bool) (x : Nat → Value) (w : World), R w → d i = false → SrcX ops d o → Deps (wordX Ws d) x w o.after.toList →
    (wantedX o x = true → Oper.wp P o (FF x) w (NextX (FF x) o.dst Ws d i R w) Q) ∧ (wantedX o x = false → wordX Ws (setD d i) i undef w)
/-- An operation of which all that was said must be shown again. -/
def OpSpecX (P : Program) (ops : Array Oper) (Q : Exit → Act → World → Prop) (Ws : List WordX) (R : World → Prop) (FF : (Nat → Value) → Act) (i : Nat) (o : Oper) : Prop :=
  ∀ (d : Nat → Bool) (x : Nat → Value) (w : World), R w → d i = false → ClosedX ops d → SrcX ops d o → DoneX d x w 0 Ws →
    (wantedX o x = true → Oper.wp P o (FF x) w (NextK (FF x) o.dst Ws d i x R w) Q) ∧ (wantedX o x = false → wordX Ws (setD d i) i undef w)
def OpStepsX (P : Program) (ops : Array Oper) (Q : Exit → Act → World → Prop) (Ws : List WordX) (R : World → Prop) (FF : (Nat → Value) → Act) (sp : List Nat) : Nat → List Oper → Prop
  | _, [] => True
  | i, o :: os => (sp.contains i = false → OpStepX P ops Q Ws R FF i o) ∧ OpStepsX P ops Q Ws R FF sp (i + 1) os
def OpSpecsX (P : Program) (ops : Array Oper) (Q : Exit → Act → World → Prop) (Ws : List WordX) (R : World → Prop) (FF : (Nat → Value) → Act) (sp : List Nat) : Nat → List Oper → Prop
  | _, [] => True
  | i, o :: os => (sp.contains i = true → OpSpecX P ops Q Ws R FF i o) ∧ OpSpecsX P ops Q Ws R FF sp (i + 1) os
theorem OpStepsX.get {Ws : List WordX} {R : World → Prop} {FF : (Nat → Value) → Act} {sp : List Nat} : ∀ {l : List Oper} {k : Nat}, OpStepsX P ops Q Ws R FF sp k l → ∀ i o, l[i]? = some o → sp.contains (k + i) = false → OpStepX P ops Q Ws R FF (k + i) o
  | [], _, _, i, o, h, _ => by simp at h
  | p :: l, k, hs, 0, o, h, hk => by simp at h; subst h; exact hs.1 hk
  | p :: l, k, hs, i + 1, o, h, hk => by
    have := OpStepsX.get hs.2 i o (by simpa using h) (by rwa [show k + 1 + i = k + (i + 1) by omega])
    rwa [show k + 1 + i = k + (i + 1) by omega] at this
theorem OpSpecsX.get {Ws : List WordX} {R : World → Prop} {FF : (Nat → Value) → Act} {sp : List Nat} : ∀ {l : List Oper} {k : Nat}, OpSpecsX P ops Q Ws R FF sp k l → ∀ i o, l[i]? = some o → sp.contains (k + i) = true → OpSpecX P ops Q Ws R FF (k + i) o
  | [], _, _, i, o, h, _ => by simp at h
  | p :: l, k, hs, 0, o, h, hk => by simp at h; subst h; exact hs.1 hk
  | p :: l, k, hs, i + 1, o, h, hk => by
    have := OpSpecsX.get hs.2 i o (by simpa using h) (by rwa [show k + 1 + i = k + (i + 1) by omega])
    rwa [show k + 1 + i = k + (i + 1) by omega] at this
theorem wp_region_exp {id : Nat} {base : Act} {w0 : World} (hm : P.follows .mixedOrders = true) {FF : (Nat → Value) → Act} (hFF : ∀ x, putsF x 0 (ops.toList.map (·.dst)) base = FF x) (R : World → Prop) (Ws : List WordX) (sp : List Nat)
    (hn : noTwice (ops.toList.map (·.dst)) = true) (hg : guardsIn ops base.tmps.size = true) (hwf : wellFormed ops = true) (hlen : Ws.length = ops.size)
    (stays : AllStaysX Ws) (start : R w0.drew)
    (steps : OpStepsX P ops Q Ws R FF sp 0 ops.toList) (specs : OpSpecsX P ops Q Ws R FF sp 0 ops.toList)
    (fin : ∀ (x : Nat → Value) (w : World), R w → AllX x w 0 Ws → Q .normal (FF x) w) :
    (Code.region id ops true).wp P Q base w0 := by
  have hword : ∀ (i : Nat) d d' v w w', wordX Ws d i v w → leD d d' → Goes w w' → wordX Ws d' i v w' := by
    intro i d d' v w w' hw hd he
    unfold wordX at hw ⊢
    cases hp : Ws[i]? with
    | none => trivial
    | some p =>
      rw [hp] at hw
      exact stays.mem p (List.mem_of_getElem? hp) _ _ _ _ _ hd he hw
  refine wp_region_joint hm (fun d x w => R w ∧ (∀ i, i < ops.size → d i = true → wordX Ws d i (x i) w) ∧ ClosedX ops d) hn hwf ?_ ?_ ?_
  · exact fun x => ⟨start, by simp, fun j o _ h => by cases h⟩
  · rintro i hi d x w ⟨hR, hw, hcl⟩ hd hdeps
    have hoi : ops[i]? = some ops[i] := Array.getElem?_eq_getElem hi
    have hmem : ops[i] ∈ ops.toList := by simp
    have hlt : ∀ e ∈ (ops[i]).after.toList, Region.binds .any e = true → e.on < ops.size := by
      intro e he hb
      unfold wellFormed at hwf
      rw [List.all_eq_true] at hwf
      have := hwf (ops[i], i) (by rw [List.mem_zipIdx_iff_getElem?]; simp [hi])
      simp only [Array.all_eq_true'] at this
      have := this e (by simpa using he)
      have : e.on < i := by simpa [hb] using this
      omega
    have hwant : Region.wanted ops[i] (yielded ops (putsF x 0 (ops.toList.map (·.dst)) base).tmps) = wantedX ops[i] x := wanted_eq hn hg ops[i] hmem x
    have hset : (fun j => if j = i then true else d j) = setD d i := rfl
    have put : ∀ v w', wordX Ws (setD d i) i v w' → (∀ j, j < ops.size → j ≠ i → d j = true → wordX Ws (setD d i) j (x j) w') → ∀ j, j < ops.size → setD d i j = true → wordX Ws (setD d i) j (if j = i then v else x j) w' := by
      intro v w' hv ho j hj hdj
      by_cases hji : j = i
      · subst hji; simpa using hv
      · rw [setD_ne d hji] at hdj
        rw [if_neg hji]
        exact ho j hj hji hdj
    have hcl2 : ClosedX ops (setD d i) := by
      intro j o hj hdj e he hb
      by_cases hji : j = i
      · subst hji
        rw [hoi] at hj
        obtain rfl := Option.some.inj hj
        exact setD_le d _ _ (hdeps e he hb)
      · rw [setD_ne d hji] at hdj
        exact setD_le d _ _ (hcl j o hj hdj e he hb)
    rw [hwant, hFF x, hset]
    cases hsp : sp.contains i with
    | false =>
      have hs := OpStepsX.get steps i ops[i] (by simp [hi]) (by rw [Nat.zero_add]; exact hsp)
      rw [Nat.zero_add] at hs
      have hs := hs d x w hR hd hdeps (Deps.of (fun e he hb => hw _ (hlt e he hb) (hdeps e he hb)))
      split
      · rename_i hwt
        refine Oper.wp_mono ?_ (hs.1 hwt)
        rintro a' w' ⟨v, rfl, hv, hR', he⟩
        exact ⟨v, rfl, hR', put v w' hv (fun j hj hji hdj => hword j d _ _ w w' (hw j hj hdj) (setD_le d i) he), hcl2⟩
      · rename_i hwt
        exact ⟨hR, put undef w (hs.2 (by simpa using hwt)) (fun j hj hji hdj => hword j d _ _ w w (hw j hj hdj) (setD_le d i) (Below.refl _ _)), hcl2⟩
    | true =>
      have hs := OpSpecsX.get specs i ops[i] (by simp [hi]) (by rw [Nat.zero_add]; exact hsp)
      rw [Nat.zero_add] at hs
      have hs := hs d x w hR hd hcl hdeps (doneX_of Ws 0 (fun j _ => by simp) (fun j hj hdj => hw j (by omega) hdj))
      split
      · rename_i hwt
        refine Oper.wp_mono ?_ (hs.1 hwt)
        rintro a' w' ⟨v, rfl, hv, hR', he⟩
        refine ⟨v, rfl, hR', put v w' hv (fun j hj hji hdj => ?_), hcl2⟩
        have h0 := hw j hj hdj
        unfold wordX at h0 ⊢
        cases hp : Ws[j]? with
        | none => trivial
        | some p =>
          rw [hp] at h0
          have := he.get (Ws := Ws) j p hp
          rw [Nat.zero_add] at this
          exact this hji hdj h0
      · rename_i hwt
        exact ⟨hR, put undef w (hs.2 (by simpa using hwt)) (fun j hj hji hdj => hword j d _ _ w w (hw j hj hdj) (setD_le d i) (Below.refl _ _)), hcl2⟩
  · rintro d x w hall ⟨hR, hw, -⟩
    rw [hFF x]
    exact fin x w hR (allX_of (d := d) stays Ws 0 (fun j _ => by simp) (fun j hj => hw j (by omega) (hall j (by omega))))
end
/-- A word that never ends. -/
def always (p : Value → World → Prop) : WordX := fun _ v w => p v w
/-- A word that ends when operation k is done. -/
def until_ (k : Nat) (p : Value → World → Prop) : WordX := fun d v w => d k = false → p v w
theorem always_stays {p : Value → World → Prop} (h : ∀ v w w', p v w → Goes w w' → p v w') : StaysX (always p) := fun _ _ v w w' _ he hp => h v w w' hp he
theorem until_stays {k : Nat} {p : Value → World → Prop} (h : ∀ v w w', p v w → Goes w w' → p v w') : StaysX (until_ k p) := fun d d' v w w' hd he hp hk => h v w w' (hp (by
  cases e : d k with
  | false => rfl
  | true => have := hd k e; rw [hk] at this; cases this)) he
theorem unskipped {p : Prop} {b : Bool} (hb : b = false) : b = true → p := fun h => by rw [hb] at h; cases h
def isX (u : Value) : WordX := fun _ v _ => v = u
theorem isX_stays (u : Value) : StaysX (isX u) := fun _ _ v w w' _ _ h => h
theorem nextX {A a' : Act} {dst : Option Tmp} {Ws : List WordX} {d : Nat → Bool} {i : Nat} {R : World → Prop} {w w' : World} (v : Value) (ha : a' = A.put dst v) (hp : wordX Ws (setD d i) i v w') (hR : R w') (he : Goes w w') : NextX A dst Ws d i R w a' w' := ⟨v, ha, hp, hR, he⟩
theorem nextK {A a' : Act} {dst : Option Tmp} {Ws : List WordX} {d : Nat → Bool} {i : Nat} {x : Nat → Value} {R : World → Prop} {w w' : World} (v : Value) (ha : a' = A.put dst v) (hp : wordX Ws (setD d i) i v w') (hR : R w') (he : KeepX d i x w w' 0 Ws) : NextK A dst Ws d i x R w a' w' := ⟨v, ha, hp, hR, he⟩
end Go.Proofs.YtodpaejakgjblaaDoor
