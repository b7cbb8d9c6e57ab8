/- A writer that the call made: its block b with a slice of bytes and a map of strings in block g. And a region that appends and stores. It speaks of no program. -/
import Derived.Test.YtliofipccicnfaaCs
import Derived.Test.YtliofipccicnfaaSm
import Derived.Test.YtliofipccicnfaaOb
import Derived.Test.YtliofipccicnfaaReg4
namespace Go.Proofs.Ytliofipccicnfaa
open Go.RowKit
set_option linter.unusedVariables false
/-- The writer's block, its bytes and its map. -/
structure Wr (W : World) (B b g : Nat) (v : Value) (n : Nat) (l : List Value) (es : List (ByteArray × Value)) (w : World) : Prop where
  ob : OB B W v n l w
  cs : Cs w b [v, .map (some g)]
  sm : SM w g es
  bg : b < g
  base : B ≤ b
  nb : v.ownBlock ≠ some b
  ng : v.ownBlock ≠ some g
section
variable {W w w' : World} {B b g n m : Nat} {v v' : Value} {l l' : List Value} {es es' : List (ByteArray × Value)}
theorem Wr.keep (h : Wr W B b g v n l es w) (hb : Below w.heap.size w w') : Wr W B b g v n l es w' :=
  ⟨h.ob.keep hb (Nat.le_refl _), h.cs.below hb, h.sm.below hb, h.bg, h.base, h.nb, h.ng⟩
theorem Wr.drew (h : Wr W B b g v n l es w) : Wr W B b g v n l es w.drew := h.keep ((Below.refl _ _).drew)
/-- The map has learnt. -/
theorem Wr.learn (h : Wr W B b g v n l es w) (hg : w.grownBy w' (some g)) (hc : Cs w' b [v, .map (some g)]) (hm : SM w' g es') : Wr W B b g v n l es' w' := by
  refine ⟨h.ob.block (h.ob.bel.grown hg (Nat.le_trans h.base (Nat.le_of_lt h.cs.lt)) (fun k hk => by injection hk with hk; have := h.bg; have := h.base; omega)) hg.size (fun k hk => hg.block k (h.ob.lt k hk).2 (fun e => h.ng (by rw [hk, e]))), hc, hm, h.bg, h.base, h.nb, h.ng⟩
end
/-- What a region has done that loads the bytes, appends (operation 8) and stores (operation 11). -/
structure JN (W : World) (B b g : Nat) (v : Value) (n : Nat) (l : List Value) (es : List (ByteArray × Value)) (m : Nat) (l' : List Value) (val : Nat → Value) (d : Nat → Bool) (x : Nat → Value) (w : World) : Prop where
  slots : ∀ i, i ≠ 8 → i ≠ 11 → d i = true → x i = val i
  sm : SM w g es
  bg : b < g
  base : B ≤ b
  own0 : d 8 = false → OB B W v n l w ∧ v.ownBlock ≠ some b ∧ v.ownBlock ≠ some g
  own1 : d 8 = true → OB B W (x 8) m l' w ∧ (x 8).ownBlock ≠ some b ∧ (x 8).ownBlock ≠ some g
  cs0 : d 11 = false → Cs w b [v, .map (some g)]
  cs1 : d 11 = true → Cs w b [x 8, .map (some g)] ∧ d 8 = true
  last : d 11 = true → ∀ i, i < 9 → d i = true
section
variable {W w w' : World} {B b g n m : Nat} {v v' : Value} {l l' : List Value} {es : List (ByteArray × Value)} {val : Nat → Value} {d : Nat → Bool} {x : Nat → Value}
theorem JN.start (h : Wr W B b g v n l es w) (x : Nat → Value) : JN W B b g v n l es m l' val (fun _ => false) x w := by
  refine ⟨?_, h.sm, h.bg, h.base, ?_, ?_, ?_, ?_, ?_⟩
  · intro i _ _ hd; simp at hd
  · intro _; exact ⟨h.ob, h.nb, h.ng⟩
  · intro hd; simp at hd
  · intro _; exact h.cs
  · intro hd; simp at hd
  · intro hd; simp at hd
theorem JN.read (h : JN W B b g v n l es m l' val d x w) (i : Nat) (h8 : i ≠ 8) (h11 : i ≠ 11) : JN W B b g v n l es m l' val (fun j => if j = i then true else d j) (fun j => if j = i then val i else x j) w := by
  have e8 : ¬ 8 = i := fun e => h8 e.symm
  have e11 : ¬ 11 = i := fun e => h11 e.symm
  refine ⟨fun j q8 q11 hd => ?_, h.sm, h.bg, h.base, ?_, ?_, ?_, ?_, ?_⟩
  · by_cases e : j = i
    · subst e; simp
    · simp [e] at hd ⊢; exact h.slots j q8 q11 hd
  · simpa [e8] using h.own0
  · simpa [e8] using h.own1
  · simpa [e11] using h.cs0
  · simpa [e8, e11] using h.cs1
  · intro hd j hj
    by_cases e : j = i
    · simp [e]
    · simp [e, e11] at hd ⊢; exact h.last hd j hj
theorem JN.app (h : JN W B b g v n l es m l' val d x w) (hd : d 8 = false) (ho : OB B W v' m l' w') (hs : w.heap.size ≤ w'.heap.size) (hk : ∀ k, k < w.heap.size → some k ≠ v.ownBlock → w'.heap[k]? = w.heap[k]?) (hv : v'.ownBlock = v.ownBlock ∨ v'.ownBlock = some w.heap.size) :
    JN W B b g v n l es m l' val (fun j => if j = 8 then true else d j) (fun j => if j = 8 then v' else x j) w' := by
  obtain ⟨o1, o2, o3⟩ := h.own0 hd
  have h11 : d 11 = false := by
    cases e : d 11 with
    | false => rfl
    | true => rw [(h.cs1 e).2] at hd; cases hd
  have hc := h.cs0 h11
  have hgl := h.sm.lt
  have eb := hk b hc.1 (fun e => o2 e.symm)
  have eg := hk g hgl (fun e => o3 e.symm)
  refine ⟨fun j q8 q11 hd => ?_, h.sm.block eg, h.bg, h.base, ?_, ?_, ?_, ?_, ?_⟩
  · simp [q8] at hd ⊢; exact h.slots j q8 q11 hd
  · simp
  · intro _
    simp only [if_true]
    refine ⟨ho, ?_, ?_⟩
    · rcases hv with e | e
      · rw [e]; exact o2
      · rw [e]; intro e2; injection e2 with e2; have := hc.1; omega
    · rcases hv with e | e
      · rw [e]; exact o3
      · rw [e]; intro e2; injection e2 with e2; omega
  · intro _
    exact ⟨Nat.lt_of_lt_of_le hc.1 hs, fun i hi => ⟨(World.cell?_of_block (w := w) eb).trans (hc.2 i hi).1, (World.frozen?_of_block (w := w) eb).trans (hc.2 i hi).2⟩⟩
  · simp [h11]
  · simp [h11]
theorem Cs.set0 {u0 u1 u : Value} (h : Cs w b [u0, u1]) : Cs (w.setCell ⟨b, 0, none⟩ u) b [u, u1] := by
  refine ⟨by simpa using h.1, fun i hi => ?_⟩
  have hi2 : i < 2 := hi
  obtain ⟨q1, q2⟩ := h.2 i hi
  refine ⟨?_, (World.frozen?_setCell _ _ _ _).trans q2⟩
  match i, hi2 with
  | 0, _ => rw [World.cell?_setCell_same _ _ _ q1]; rfl
  | 1, _ => rw [World.cell?_setCell_other _ _ _ _ (by intro h; injection h with _ h2; cases h2), q1]; rfl
theorem JN.store (h : JN W B b g v n l es m l' val d x w) (h8 : d 8 = true) (h11 : d 11 = false) (hall : ∀ i, i < 9 → d i = true) (u : Value) :
    JN W B b g v n l es m l' val (fun j => if j = 11 then true else d j) (fun j => if j = 11 then u else x j) (w.setCell ⟨b, 0, none⟩ (x 8)) := by
  obtain ⟨o1, o2, o3⟩ := h.own1 h8
  have hc := h.cs0 h11
  have hbg := h.bg
  have hk : ∀ k, k ≠ b → (w.setCell ⟨b, 0, none⟩ (x 8)).heap[k]? = w.heap[k]? := fun k hk => Below.heap_setCell w ⟨b, 0, none⟩ (x 8) k hk
  refine ⟨fun j q8 q11 hd => ?_, h.sm.block (hk g (by omega)), h.bg, h.base, ?_, ?_, ?_, ?_, ?_⟩
  · simp [q11] at hd ⊢; exact h.slots j q8 q11 hd
  · simp [h8]
  · intro _
    simp only [show ¬ (8 : Nat) = 11 by decide, if_false]
    refine ⟨o1.block (o1.bel.setCell (p := ⟨b, 0, none⟩) h.base _) (by simp) (fun k e => hk k (fun e2 => o2 (by rw [e, e2]))), o2, o3⟩
  · simp
  · intro _
    simp only [show ¬ (8 : Nat) = 11 by decide, if_false]
    exact ⟨hc.set0, h8⟩
  · intro _ j hj
    simp [show ¬ j = 11 by omega, hall j hj]
theorem JN.dec {i : Nat} (h : JN W B b g v n l es m l' val (fun j => if j = i then true else d j) x w) : JN W B b g v n l es m l' val (fun j => decide (j = i) || d j) x w := by
  have e : (fun j => decide (j = i) || d j) = (fun j => if j = i then true else d j) := by
    funext j
    by_cases q : j = i <;> simp [q]
  rw [e]; exact h
theorem JN.open (h : JN W B b g v n l es m l' val d x w) (i : Nat) (hi : i < 9) (hd : d i = false) : d 11 = false := by
  cases e : d 11 with
  | false => rfl
  | true => rw [h.last e i hi] at hd; cases hd
theorem JN.done (h : JN W B b g v n l es m l' val d x w) (h8 : d 8 = true) (h11 : d 11 = true) : Wr W B b g (x 8) m l' es w := by
  obtain ⟨o1, o2, o3⟩ := h.own1 h8
  exact ⟨o1, (h.cs1 h11).1, h.sm, h.bg, h.base, o2, o3⟩
/-- append, by what it does. -/
theorem oper_append_ob {P : Program} {o : Oper} {a : Act} {Q : Exit → Act → World → Prop} {K : Act → World → Prop} {w : World} (s x : Operand) (t tx : TypeId)
    (ho : o.op = .call { callee := .builtin .append, args := #[s, x], argTypes := #[t, tx] })
    (e : TypeId) (i : TypeInfo) (z : Value) (bytes : Nat) (ht : P.underlying t = some (.slice e)) (hi : P.info? e = some i) (hz : i.zero = some z) (hsize : i.size = 1) (hby : i.bytes = bytes) (hzs : z.cells.size = 1)
    {B : Nat} {v : Value} {n : Nat} {l : List Value} {W : World} (hb : OB B W v n l w) (hs : a.eval s = v) {vx : Value} {m : Nat} {news : List Value} (hx : a.eval x = vx) (hsrc : Src P 1 tx vx m news w)
    (hlen : n + m ≤ maxLen) (hbytes : (n + m) * bytes ≤ 140737488355328)
    (h : ∀ v' w', OB B W v' (n + m) (l ++ news) w' → w.heap.size ≤ w'.heap.size → (∀ k, k < w.heap.size → some k ≠ v.ownBlock → w'.heap[k]? = w.heap[k]?) → (v'.ownBlock = v.ownBlock ∨ v'.ownBlock = some w.heap.size) → K (a.put o.dst v') w') :
    Oper.wp P o a w K Q := by
  obtain ⟨v', w', hr, h1, h2, h3, h4⟩ := run_append_ob (P := P) t tx o.type e i z bytes ht hi hz hsize hby hzs hb vx m news hsrc hlen hbytes
  unfold Oper.wp execOp
  simp only [ho, resolve, invoke, builtin, Sem.run_bind, Sem.run_pure, Result.andThen_ok, List.map_toArray, List.map_cons, List.map_nil, hs, hx, hr]
  exact h v' w' h1 h2 h3 h4
end
end Go.Proofs.Ytliofipccicnfaa
