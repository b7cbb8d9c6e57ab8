/- A statement whose order Go leaves open, by ONE look at each operation: of each operation's value a word that stays true while the world goes on, whichever of the others have come up. -/
import Derived.Orders
import Derived.Calls
import Derived.WalkKit
import Derived.Test.YtkdknfedieeenaaGreatDoorBase
namespace Go.Proofs.YtkdknfedieeenaaGreatDoor
open Go
set_option linter.unusedVariables false

/-- The frame with the operations' values laid into their slots. -/
def putsF (x : Nat → Value) : Nat → List (Option Tmp) → Act → Act
  | _, [], a => a
  | k, d :: ds, a => putsF x (k + 1) ds (a.put d (x k))

theorem put_put_same (a : Act) (d : Option Tmp) (v u : Value) : (a.put d v).put d u = a.put d u := by
  cases d with
  | none => rfl
  | some d => simp [Act.put]

/-- No slot twice. -/
def noTwice : List (Option Tmp) → Bool
  | [] => true
  | none :: ds => noTwice ds
  | some d :: ds => !ds.contains (some d) && noTwice ds

theorem noTwice_tail {d : Option Tmp} {ds : List (Option Tmp)} (h : noTwice (d :: ds) = true) : noTwice ds = true := by
  cases d <;> simp [noTwice] at h
  · exact h
  · exact h.2
theorem noTwice_ne {d : Option Tmp} {ds : List (Option Tmp)} (h : noTwice (d :: ds) = true) : ∀ e ∈ ds, ∀ t, d = some t → e ≠ some t := by
  intro e he t ht hte
  subst ht hte
  simp [noTwice] at h
  exact h.1 he

theorem putsF_put (x : Nat → Value) : ∀ (ds : List (Option Tmp)) (k : Nat) (a : Act) (d : Option Tmp) (v : Value), (∀ e ∈ ds, ∀ t, d = some t → e ≠ some t) →
    putsF x k ds (a.put d v) = (putsF x k ds a).put d v := by
  intro ds
  induction ds with
  | nil => intro k a d v _; rfl
  | cons e ds ih =>
    intro k a d v h
    show putsF x (k + 1) ds ((a.put d v).put e (x k)) = _
    rw [Act.put_comm a v (x k) (fun t ht => h e (by simp) t ht), ih (k + 1) _ d v (fun e' he' => h e' (by simp [he']))]
    rfl

theorem putsF_congr {x y : Nat → Value} : ∀ (ds : List (Option Tmp)) (k : Nat) (a : Act), (∀ j, k ≤ j → x j = y j) → putsF x k ds a = putsF y k ds a := by
  intro ds
  induction ds with
  | nil => intro k a _; rfl
  | cons e ds ih =>
    intro k a h
    show putsF x (k + 1) ds (a.put e (x k)) = putsF y (k + 1) ds (a.put e (y k))
    rw [h k (Nat.le_refl _), ih (k + 1) _ (fun j hj => h j (by omega))]

theorem putsF_set (x : Nat → Value) : ∀ (ds : List (Option Tmp)) (k i : Nat) (a : Act) (d : Option Tmp) (v : Value), noTwice ds = true → ds[i]? = some d →
    putsF (fun j => if j = k + i then v else x j) k ds a = (putsF x k ds a).put d v := by
  intro ds
  induction ds with
  | nil => intro k i a d v _ h; simp at h
  | cons e ds ih =>
    intro k i a d v hn h
    cases i with
    | zero =>
      simp at h
      subst h
      show putsF _ (k + 1) ds (a.put e (if k = k + 0 then v else x k)) = (putsF x (k + 1) ds (a.put e (x k))).put e v
      rw [if_pos (by omega), putsF_congr (y := x) ds (k + 1) _ (fun j hj => by simp; omega), ← putsF_put x ds (k + 1) _ e v (noTwice_ne hn), put_put_same]
    | succ i =>
      simp at h
      show putsF _ (k + 1) ds (a.put e (if k = k + (i + 1) then v else x k)) = (putsF x (k + 1) ds (a.put e (x k))).put d v
      rw [if_neg (by omega), ← ih (k + 1) i _ d v (noTwice_tail hn) h]
      exact putsF_congr ds (k + 1) _ (fun j _ => by rw [show k + (i + 1) = k + 1 + i by omega])

/-- What the slots hold ahead of the statement. -/
def held (a : Act) (ds : List (Option Tmp)) (i : Nat) : Value := match (ds[i]?).join with | some t => a.tmps.getD t undef | none => undef
theorem put_held (a : Act) (t : Tmp) : a.put (some t) (a.tmps.getD t undef) = a := by
  obtain ⟨ts, df⟩ := a
  simp only [Act.put]
  congr 1
  apply Array.ext
  · simp
  · intro i h1 h2
    rw [Array.getElem_setIfInBounds h2]
    split
    · rename_i h; subst h; simp [Array.getD, h2]
    · rfl
theorem putsF_held : ∀ (ds : List (Option Tmp)) (k : Nat) (a : Act) (x : Nat → Value), (∀ i, x (k + i) = held a ds i) → noTwice ds = true → putsF x k ds a = a := by
  intro ds
  induction ds with
  | nil => intro k a x _ _; rfl
  | cons d ds ih =>
    intro k a x h hn
    show putsF x (k + 1) ds (a.put d (x k)) = a
    have h0 := h 0
    rw [Nat.add_zero] at h0
    have hp : a.put d (x k) = a := by
      cases d with
      | none => rfl
      | some t => rw [h0]; exact put_held a t
    rw [hp]
    refine ih (k + 1) a x (fun i => ?_) (noTwice_tail hn)
    rw [show k + 1 + i = k + (i + 1) by omega, h (i + 1)]
    simp [held]

/-- The words of those that an operation waits for. -/
def Deps (W : Nat → Value → World → Prop) (x : Nat → Value) (w : World) : List Edge → Prop
  | [] => True
  | e :: es => (Region.binds .any e = true → W e.on (x e.on) w) ∧ Deps W x w es

theorem Deps.of {W : Nat → Value → World → Prop} {x : Nat → Value} {w : World} : ∀ {es : List Edge}, (∀ e ∈ es, Region.binds .any e = true → W e.on (x e.on) w) → Deps W x w es
  | [], _ => trivial
  | e :: es, h => ⟨h e (by simp), Deps.of (fun e' he' => h e' (by simp [he']))⟩

def wordOf (Ws : List (Value → World → Prop)) (i : Nat) (v : Value) (w : World) : Prop := match Ws[i]? with | some p => p v w | none => True

section
variable {P : Program} {ops : Array Oper} {Q : Exit → Act → World → Prop}

/-- What an operation leaves: its slot is written, its word holds, the world has gone on. -/
def Next (A : Act) (d : Option Tmp) (p : Value → World → Prop) (R : World → Prop) (Ext : World → World → Prop) (w : World) (a' : Act) (w' : World) : Prop :=
  ∃ v, a' = A.put d v ∧ p v w' ∧ R w' ∧ Ext w w'

/-- ONE OPERATION: in whatever frame and world in which the words of those that it waits for hold. -/
def OpStep (P : Program) (ops : Array Oper) (Q : Exit → Act → World → Prop) (Ws : List (Value → World → Prop)) (R : World → Prop) (Ext : World → World → Prop) (base : Act) (i : Nat) (o : Oper) : Prop :=
  ∀ (x : Nat → Value) (w : World), R w → Deps (wordOf Ws) x w o.after.toList →
    if Region.wanted o (yielded ops (putsF x 0 (ops.toList.map (·.dst)) base).tmps) = true
    then Oper.wp P o (putsF x 0 (ops.toList.map (·.dst)) base) w (Next (putsF x 0 (ops.toList.map (·.dst)) base) o.dst (wordOf Ws i) R Ext w) Q
    else wordOf Ws i undef w

def OpSteps (P : Program) (ops : Array Oper) (Q : Exit → Act → World → Prop) (Ws : List (Value → World → Prop)) (R : World → Prop) (Ext : World → World → Prop) (base : Act) : Nat → List Oper → Prop
  | _, [] => True
  | i, o :: os => OpStep P ops Q Ws R Ext base i o ∧ OpSteps P ops Q Ws R Ext base (i + 1) os
theorem OpSteps.get {Ws : List (Value → World → Prop)} {R : World → Prop} {Ext : World → World → Prop} {base : Act} : ∀ {l : List Oper} {k : Nat}, OpSteps P ops Q Ws R Ext base k l → ∀ i o, l[i]? = some o → OpStep P ops Q Ws R Ext base (k + i) o
  | [], _, _, i, o, h => by simp at h
  | p :: l, k, hs, 0, o, h => by simp at h; subst h; exact hs.1
  | p :: l, k, hs, i + 1, o, h => by
    have := OpSteps.get hs.2 i o (by simpa using h)
    rwa [show k + 1 + i = k + (i + 1) by omega] at this

def wellFormed (ops : Array Oper) : Bool := ops.toList.zipIdx.all fun (o, i) => o.after.all fun e => !Region.binds .any e || e.on < i
def AllWords (Ws : List (Value → World → Prop)) (x : Nat → Value) (w : World) : Nat → List (Value → World → Prop) → Prop
  | _, [] => True
  | i, p :: ps => p (x i) w ∧ AllWords Ws x w (i + 1) ps

theorem allWords_of {Ws : List (Value → World → Prop)} {x : Nat → Value} {w : World} : ∀ (ps : List (Value → World → Prop)) (k : Nat), (∀ j, j < ps.length → ps[j]? = Ws[k + j]?) → (∀ i, i < Ws.length → wordOf Ws i (x i) w) → AllWords Ws x w k ps
  | [], _, _, _ => trivial
  | p :: ps, k, h, hw => by
    refine ⟨?_, allWords_of ps (k + 1) (fun j hj => ?_) hw⟩
    · have h0 := h 0 (by simp)
      simp at h0
      have hk : k < Ws.length := by
        rcases Nat.lt_or_ge k Ws.length with h1 | h1
        · exact h1
        · rw [List.getElem?_eq_none h1] at h0; cases h0
      have := hw k hk
      unfold wordOf at this
      rw [← h0] at this
      exact this
    · have := h (j + 1) (by simpa using hj)
      rw [show k + 1 + j = k + (j + 1) by omega, ← this]
      simp

theorem getD_set (a : Array Bool) (i j : Nat) (h : i < a.size) : (a.setIfInBounds i true).getD j false = if j = i then true else a.getD j false := by
  rw [Array.getD_eq_getD_getElem?, Array.getD_eq_getD_getElem?, Array.getElem?_setIfInBounds]
  by_cases hji : i = j
  · subst hji; simp [h]
  · rw [if_neg hji, if_neg (fun e => hji e.symm)]

theorem wp_region_words {id : Nat} {base : Act} {w0 : World} (hm : P.follows .mixedOrders = true) (Ws : List (Value → World → Prop)) (R : World → Prop) (Ext : World → World → Prop)
    (hn : noTwice (ops.toList.map (·.dst)) = true) (hwf : wellFormed ops = true) (hlen : Ws.length = ops.size)
    (stays : ∀ p ∈ Ws, ∀ v w w', p v w → Ext w w' → p v w') (refl : ∀ w, Ext w w)
    (start : R w0.drew) (steps : OpSteps P ops Q Ws R Ext base 0 ops.toList)
    (fin : ∀ (x : Nat → Value) (w : World), R w → AllWords Ws x w 0 Ws → Q .normal (putsF x 0 (ops.toList.map (·.dst)) base) w) :
    (Code.region id ops true).wp P Q base w0 := by
  have hst : ∀ i v w w', wordOf Ws i v w → Ext w w' → wordOf Ws i v w' := by
    intro i v w w' h he
    unfold wordOf at *
    cases hi : Ws[i]? with
    | none => trivial
    | some p => simp only [hi] at h; exact stays p (List.mem_of_getElem? hi) v w w' h he
  -- if nothing is ready all has come up
  have hall : ∀ listed : Array Bool, listed.size = ops.size → Region.ready .any ops listed = [] → ∀ i, i < ops.size → listed.getD i false = true := by
    intro listed hs hr i
    induction i using Nat.strongRecOn with
    | _ i ih =>
      intro hi
      cases hli : listed.getD i false with
      | true => rfl
      | false =>
        exfalso
        have hmem : i ∈ Region.ready .any ops listed := by
          unfold Region.ready
          rw [List.mem_filter]
          refine ⟨by simpa using hi, ?_⟩
          have hd : listed.getD i true = false := by
            simp [Array.getD, hs, hi] at hli ⊢; exact hli
          rw [hd]
          simp only [Bool.not_false, Bool.true_and, Array.getElem?_eq_getElem hi, Option.map_some, Option.getD_some]
          rw [Array.all_eq_true']
          intro e he
          by_cases hb : Region.binds .any e = true
          · have hlt : e.on < i := by
              unfold wellFormed at hwf
              rw [List.all_eq_true] at hwf
              have := hwf (ops[i], i) (by rw [List.mem_zipIdx_iff_getElem?]; simp [hi])
              simp only [Array.all_eq_true'] at this
              have := this e he
              simpa [hb] using this
            simp [hb, ih e.on hlt (by omega)]
          · simp [hb]
        rw [hr] at hmem
        cases hmem
  have main : ∀ (fuel : Nat) (listed : Array Bool) (x : Nat → Value) (w : World), listed.size = ops.size → (List.range ops.size).countP (fun i => !listed.getD i false) ≤ fuel → R w →
      (∀ i, listed.getD i false = true → wordOf Ws i (x i) w) → wpAny P .any ops Q fuel listed (putsF x 0 (ops.toList.map (·.dst)) base) w := by
    intro fuel
    have hfin : ∀ (listed : Array Bool) (x : Nat → Value) (w : World), listed.size = ops.size → R w → (∀ i, listed.getD i false = true → wordOf Ws i (x i) w) → Region.ready .any ops listed = [] → Q .normal (putsF x 0 (ops.toList.map (·.dst)) base) w := by
      intro listed x w hs hR hW hr
      exact fin x w hR (allWords_of Ws 0 (fun j _ => by simp) (fun i hi => hW i (hall listed hs hr i (by omega))))
    induction fuel with
    | zero =>
      intro listed x w hs hc hR hW
      have hr : Region.ready .any ops listed = [] := by
        unfold Region.ready
        rw [List.filter_eq_nil_iff]
        intro i hi
        have h0 := Nat.le_zero.1 hc
        rw [List.countP_eq_zero] at h0
        have := h0 i hi
        have hi' : i < ops.size := by simpa using hi
        simp [Array.getD, hs, hi'] at this ⊢
        simp [this]
      exact ⟨hr, hfin listed x w hs hR hW hr⟩
    | succ fuel ih =>
      intro listed x w hs hc hR hW
      refine ⟨hfin listed x w hs hR hW, fun i hi => ?_⟩
      unfold Region.ready at hi
      rw [List.mem_filter] at hi
      obtain ⟨hir, hi2⟩ := hi
      have hio : i < ops.size := by simpa using hir
      simp only [Bool.and_eq_true, Bool.not_eq_true', Array.getElem?_eq_getElem hio, Option.map_some, Option.getD_some] at hi2
      obtain ⟨hli, haft⟩ := hi2
      have hli' : listed[i]'(by omega) = false := by simpa [Array.getD, hs, hio] using hli
      have hd : Deps (wordOf Ws) x w (ops[i]).after.toList := Deps.of (fun e he hb => by
        rw [Array.all_eq_true'] at haft
        have := haft e (by simpa using he)
        exact hW e.on (by simpa [hb] using this))
      have hop := steps.get i ops[i] (by simp [hio])
      rw [Nat.zero_add] at hop
      have hop := hop x w hR hd
      have hds : (ops.toList.map (·.dst))[i]? = some (ops[i]).dst := by simp [hio]
      have next : ∀ v w', wordOf Ws i v w' → R w' → Ext w w' → wpAny P .any ops Q fuel (listed.setIfInBounds i true) ((putsF x 0 (ops.toList.map (·.dst)) base).put (ops[i]).dst v) w' := by
        intro v w' hv hR' he
        have hset := putsF_set x (ops.toList.map (·.dst)) 0 i base (ops[i]).dst v hn hds
        rw [Nat.zero_add] at hset
        rw [← hset]
        refine ih _ _ w' (by simpa using hs) ?_ hR' (fun j hj => ?_)
        · have hlt : (List.range ops.size).countP (fun j => !(listed.setIfInBounds i true).getD j false) < (List.range ops.size).countP (fun j => !listed.getD j false) := by
            have hsub : ∀ (l : List Nat), (∀ j ∈ l, j < ops.size) → l.Nodup → i ∈ l → l.countP (fun j => !(listed.setIfInBounds i true).getD j false) < l.countP (fun j => !listed.getD j false) := by
              intro l
              induction l with
              | nil => intro _ _ h; cases h
              | cons y l ihl =>
                intro hlt' hnd hmem
                have hy : y < ops.size := hlt' y (by simp)
                have heq : ∀ j, j < ops.size → (listed.setIfInBounds i true).getD j false = if j = i then true else listed.getD j false := fun j _ => getD_set listed i j (by omega)
                by_cases hyi : y = i
                · subst hyi
                  have hsame : l.countP (fun j => !(listed.setIfInBounds y true).getD j false) = l.countP (fun j => !listed.getD j false) := by
                    apply List.countP_congr
                    intro j hj
                    have hne : j ≠ y := fun e => by subst e; exact (List.nodup_cons.1 hnd).1 hj
                    rw [heq j (hlt' j (by simp [hj])), if_neg hne]
                  rw [List.countP_cons, List.countP_cons, hsame, heq y hy, if_pos rfl]
                  have : listed.getD y false = false := by simp [Array.getD, hs, hy, hli']
                  simp [this]
                · have hm' : i ∈ l := by
                    rcases List.mem_cons.1 hmem with h | h
                    · exact absurd h.symm hyi
                    · exact h
                  have := ihl (fun j hj => hlt' j (by simp [hj])) (List.nodup_cons.1 hnd).2 hm'
                  rw [List.countP_cons, List.countP_cons, heq y hy, if_neg hyi]
                  omega
            exact hsub _ (fun j hj => by simpa using hj) List.nodup_range (by simpa using hio)
          omega
        · by_cases hji : j = i
          · subst hji; simp; exact hv
          · simp only [hji, if_false]
            refine hst j (x j) w w' (hW j ?_) he
            rwa [getD_set listed i j (by omega), if_neg hji] at hj
      unfold wpOp
      simp only [Array.getElem?_eq_getElem hio]
      split
      · rename_i hw
        rw [if_pos hw] at hop
        exact .inl (Oper.wp_mono (fun a' w' ⟨v, e, hv, hR', he⟩ => by rw [e]; exact next v w' hv hR' he) hop)
      · rename_i hw
        rw [if_neg hw] at hop
        exact next undef w hop hR (refl w)
  refine wp_region_any hm ?_
  have h0 := putsF_held (ops.toList.map (·.dst)) 0 base (held base (ops.toList.map (·.dst))) (fun i => by simp) hn
  rw [← h0]
  refine main ops.size _ _ _ (by simp) ?_ start (fun i hi => ?_)
  · refine Nat.le_trans (List.countP_le_length ..) (by simp)
  · exfalso
    simp only [Array.getD, Array.size_replicate] at hi
    split at hi
    · simp at hi
    · cases hi

open Go.RowKit
/-- The world goes on: nothing that was there turns. -/
def Goes (w w' : World) : Prop := Below w.heap.size w w'
def AllStay : List (Value → World → Prop) → Prop
  | [] => True
  | p :: ps => (∀ v w w', p v w → Goes w w' → p v w') ∧ AllStay ps
theorem AllStay.mem : ∀ {l : List (Value → World → Prop)}, AllStay l → ∀ p ∈ l, ∀ v w w', p v w → Goes w w' → p v w'
  | q :: l, h, p, hp => by
    rcases List.mem_cons.1 hp with rfl | hp
    · exact h.1
    · exact AllStay.mem h.2 p hp

/-- 'wp_region_words', the world going on by new memory alone, below B as it was at the start. -/
theorem wp_region_goes {id : Nat} {base : Act} {w0 : World} (hm : P.follows .mixedOrders = true) (B : Nat) (a0 : World) (Ws : List (Value → World → Prop))
    (hn : noTwice (ops.toList.map (·.dst)) = true) (hwf : wellFormed ops = true) (hlen : Ws.length = ops.size) (stays : AllStay Ws) (start : Below B a0 w0)
    (steps : OpSteps P ops Q Ws (Below B a0) Goes base 0 ops.toList)
    (fin : ∀ (x : Nat → Value) (w : World), Below B a0 w → AllWords Ws x w 0 Ws → Q .normal (putsF x 0 (ops.toList.map (·.dst)) base) w) :
    (Code.region id ops true).wp P Q base w0 :=
  wp_region_words hm Ws (Below B a0) Goes hn hwf hlen stays.mem (fun w => Below.refl _ _) start.drew steps fin

/-! ### Words -/
def isV (u : Value) : Value → World → Prop := fun v _ => v = u
def one (u : Value) : Value → World → Prop := fun v w => ∃ g, v = .slice (some ⟨g, 0, none⟩) 1 1 ∧ w.cell? ⟨g, 0, none⟩ = some u
/-- A slice that reads as bytes. -/
def Txt (w : World) (A : Option Addr) (n : Nat) (l : List UInt8) : Prop := Sl w w.heap.size 1 A n (l.map bv) ∧ (A = none → n = 0)
def txt (l : List UInt8) : Value → World → Prop := fun v w => ∃ A n c, v = .slice A n c ∧ Txt w A n l
theorem next_same {A a' : Act} {d : Option Tmp} {p : Value → World → Prop} {B : Nat} {a0 w : World} (v : Value) (ha : a' = A.put d v) (hp : p v w) (hR : Below B a0 w) : Next A d p (Below B a0) Goes w a' w := ⟨v, ha, hp, hR, Below.refl _ _⟩
theorem next_alloc {A a' : Act} {d : Option Tmp} {p : Value → World → Prop} {B : Nat} {a0 w : World} (v : Value) (o : Obj) (ha : a' = A.put d v) (hp : p v (w.alloc o)) (hR : Below B a0 w) (hB : B ≤ w.heap.size) : Next A d p (Below B a0) Goes w a' (w.alloc o) :=
  ⟨v, ha, hp, hR.alloc hB _, (Below.refl _ _).alloc (Nat.le_refl _) _⟩
theorem next_call {A a' : Act} {d : Option Tmp} {p : Value → World → Prop} {B : Nat} {a0 w w' : World} (v : Value) (ha : a' = A.put d v) (hp : p v w') (hR : Below B a0 w) (hB : B ≤ w.heap.size) (hb : Below w.heap.size w w') : Next A d p (Below B a0) Goes w a' w' :=
  ⟨v, ha, hp, below_trans hR hB hb, hb⟩
theorem isV_stays (u : Value) : ∀ v w w', isV u v w → Goes w w' → isV u v w' := fun _ _ _ h _ => h
theorem one_stays (u : Value) : ∀ v w w', one u v w → Goes w w' → one u v w' := by
  rintro v w w' ⟨g, rfl, hc⟩ hb
  exact ⟨g, rfl, (hb.cell (World.block_lt_of_cell? w _ hc)).trans hc⟩
theorem Txt.goes {w w' : World} {A : Option Addr} {n : Nat} {l : List UInt8} (h : Txt w A n l) (hb : Below w.heap.size w w') : Txt w' A n l := ⟨(h.1.below hb).more hb.size, h.2⟩
theorem txt_stays (l : List UInt8) : ∀ v w w', txt l v w → Goes w w' → txt l v w' := by
  rintro v w w' ⟨A, n, c, rfl, h⟩ hb
  exact ⟨A, n, c, rfl, h.goes hb⟩
theorem Txt.conv {P : Program} {w : World} {A : Option Addr} {n : Nat} {l : List UInt8} (h : Txt w A n l) (src dst e : TypeId) (hs : P.underlying src = some (.slice e)) (he : P.underlying e = some (.int .u8)) (hd : P.underlying dst = some .string) (c : Nat) :
    (convert src dst (.slice A n c)).run P w = .ok (.string ⟨l.toArray⟩) w := run_string_of w src dst e _ _ n l hs he hd h.1 h.2 c
theorem Txt.of_own {w : World} {base : Nat} {e : TypeId} {a : Addr} {n c : Nat} {l : List UInt8} (h : w.ownsRow base e 1 (.slice (some a) n c) n (l.map bv)) : Txt w (some a) n l := ⟨Sl.of_own h, fun h => by cases h⟩
theorem one_new (w : World) (u : Value) (t : TypeId) : one u (.slice (some ⟨w.heap.size, 0, none⟩) 1 1) (w.alloc (.cells #[u] t)) := ⟨_, rfl, by simp⟩
end
end Go.Proofs.YtkdknfedieeenaaGreatDoor
