/- 'wp_region_goes' with guards told by the operations' values, and the frame laid out once. It speaks of no program. -/
import Derived.Test.YtkdknfedieeenaaGreatDoorReg
namespace Go.Proofs.YtkdknfedieeenaaGreatDoor
open Go.RowKit
set_option linter.unusedVariables false

theorem size_put (a : Act) (d : Option Tmp) (v : Value) : (a.put d v).tmps.size = a.tmps.size := by
  cases d <;> simp [Act.put]
theorem putsF_size (x : Nat → Value) : ∀ (ds : List (Option Tmp)) (k : Nat) (a : Act), (putsF x k ds a).tmps.size = a.tmps.size := by
  intro ds
  induction ds with
  | nil => intro k a; rfl
  | cons d ds ih => intro k a; show (putsF x (k + 1) ds (a.put d (x k))).tmps.size = _; rw [ih, size_put]
theorem putsF_at (x : Nat → Value) : ∀ (ds : List (Option Tmp)) (k i : Nat) (a : Act) (t : Tmp), noTwice ds = true → ds[i]? = some (some t) → t < a.tmps.size → (putsF x k ds a).tmps[t]? = some (x (k + i)) := by
  intro ds
  induction ds with
  | nil => intro k i a t _ h; simp at h
  | cons d ds ih =>
    intro k i a t hn h ht
    cases i with
    | zero =>
      simp at h
      subst h
      show (putsF x (k + 1) ds (a.put (some t) (x k))).tmps[t]? = _
      rw [putsF_put x ds (k + 1) a (some t) (x k) (noTwice_ne hn)]
      simp only [Act.put]
      rw [Array.getElem?_setIfInBounds_self, if_pos (by rw [putsF_size]; exact ht), Nat.add_zero]
    | succ i =>
      simp at h
      show (putsF x (k + 1) ds (a.put d (x k))).tmps[t]? = _
      rw [ih (k + 1) i _ t (noTwice_tail hn) h (by rw [size_put]; exact ht), show k + 1 + i = k + (i + 1) by omega]

/-- Is it a bool, and this one? -/
def isB (v : Value) (b : Bool) : Bool := match v with | .bool c => c == b | _ => false
def wantedX (o : Oper) (x : Nat → Value) : Bool := match o.guard with | none => true | some (i, b) => isB (x i) b
def guardsIn (ops : Array Oper) (n : Nat) : Bool := ops.toList.all fun o => match o.guard with | none => true | some (i, _) => match ops[i]? with | some p => (match p.dst with | some t => decide (t < n) | none => false) | none => false

theorem wanted_eq {ops : Array Oper} {base : Act} (hn : noTwice (ops.toList.map (·.dst)) = true) (hg : guardsIn ops base.tmps.size = true) (o : Oper) (ho : o ∈ ops.toList) (x : Nat → Value) :
    Region.wanted o (yielded ops (putsF x 0 (ops.toList.map (·.dst)) base).tmps) = wantedX o x := by
  unfold guardsIn at hg
  rw [List.all_eq_true] at hg
  have h := hg o ho
  unfold Region.wanted wantedX
  cases hgd : o.guard with
  | none => rfl
  | some p =>
    obtain ⟨i, b⟩ := p
    rw [hgd] at h
    simp only at h ⊢
    cases hp : ops[i]? with
    | none => rw [hp] at h; simp at h
    | some q =>
      rw [hp] at h
      simp only at h
      cases hd : q.dst with
      | none => rw [hd] at h; simp at h
      | some t =>
        rw [hd] at h
        simp only [decide_eq_true_eq] at h
        have hat := putsF_at x (ops.toList.map (·.dst)) 0 i base t hn (by
          rw [List.getElem?_map, Array.getElem?_toList, hp]
          simp [hd]) h
        rw [Nat.zero_add] at hat
        have hy : yielded ops (putsF x 0 (ops.toList.map (·.dst)) base).tmps i = match x i with | .bool b => some b | _ => none := by
          unfold yielded
          rw [hp]
          simp only [Option.bind_some, hd, hat]
          cases x i <;> rfl
        rw [hy]
        cases x i <;> simp [isB]

section
variable {P : Program} {ops : Array Oper} {Q : Exit → Act → World → Prop}
def OpStepG (P : Program) (ops : Array Oper) (Q : Exit → Act → World → Prop) (Ws : List (Value → World → Prop)) (R : World → Prop) (Ext : World → World → Prop) (FF : (Nat → Value) → Act) (i : Nat) (o : Oper) : Prop :=
  ∀ (x : Nat → Value) (w : World), R w → Deps (wordOf Ws) x w o.after.toList → (wantedX o x = true → Oper.wp P o (FF x) w (Next (FF x) o.dst (wordOf Ws i) R Ext w) Q) ∧ (wantedX o x = false → wordOf Ws i undef w)
def OpStepsG (P : Program) (ops : Array Oper) (Q : Exit → Act → World → Prop) (Ws : List (Value → World → Prop)) (R : World → Prop) (Ext : World → World → Prop) (FF : (Nat → Value) → Act) : Nat → List Oper → Prop
  | _, [] => True
  | i, o :: os => OpStepG P ops Q Ws R Ext FF i o ∧ OpStepsG P ops Q Ws R Ext FF (i + 1) os

theorem OpStepsG.steps {Ws : List (Value → World → Prop)} {R : World → Prop} {Ext : World → World → Prop} {base : Act} {FF : (Nat → Value) → Act} (hn : noTwice (ops.toList.map (·.dst)) = true) (hg : guardsIn ops base.tmps.size = true)
    (hFF : ∀ x, putsF x 0 (ops.toList.map (·.dst)) base = FF x) : ∀ (l : List Oper) (k : Nat), (∀ o ∈ l, o ∈ ops.toList) → OpStepsG P ops Q Ws R Ext FF k l → OpSteps P ops Q Ws R Ext base k l
  | [], _, _, _ => trivial
  | o :: l, k, hm, hs => by
    refine ⟨fun x w hR hd => ?_, OpStepsG.steps hn hg hFF l (k + 1) (fun o' ho' => hm o' (by simp [ho'])) hs.2⟩
    have h := hs.1 x w hR hd
    rw [wanted_eq hn hg o (hm o (by simp)) x, hFF x]
    split
    · rename_i hw; exact h.1 hw
    · rename_i hw; exact h.2 (by simpa using hw)

theorem wp_region_goesG {id : Nat} {base : Act} {w0 : World} (hm : P.follows .mixedOrders = true) {FF : (Nat → Value) → Act} (hFF : ∀ x, putsF x 0 (ops.toList.map (·.dst)) base = FF x) (B : Nat) (a0 : World) (Ws : List (Value → World → Prop))
    (hn : noTwice (ops.toList.map (·.dst)) = true) (hg : guardsIn ops base.tmps.size = true) (hwf : wellFormed ops = true) (hlen : Ws.length = ops.size) (stays : AllStay Ws) (start : Below B a0 w0)
    (steps : OpStepsG P ops Q Ws (Below B a0) Goes FF 0 ops.toList)
    (fin : ∀ (x : Nat → Value) (w : World), Below B a0 w → AllWords Ws x w 0 Ws → Q .normal (FF x) w) :
    (Code.region id ops true).wp P Q base w0 :=
  wp_region_goes hm B a0 Ws hn hwf hlen stays start (OpStepsG.steps hn hg hFF ops.toList 0 (fun _ h => h) steps) (fun x w hb hw => by rw [hFF x]; exact fin x w hb hw)
end
end Go.Proofs.YtkdknfedieeenaaGreatDoor
