/- A device, and beside it two slices that the law keeps, and foreign blocks X: what each turns when another is written. -/
import Derived.Test.YtidpffgdndjgpaaDevD
namespace Go.Proofs.Ytidpffgdndjgpaa
open Go.RowKit
set_option linter.unusedVariables false
theorem DevE.wideW {F F' : Nat → Prop} {B : Nat} {W : World} {d : Nat} {segs : List (List UInt8)} {safe writes : Nat} {w w' : World} (h : DevE F B W d segs safe writes w) (hb : Below B W w') (hs : w.heap.size ≤ w'.heap.size) (hk : ∀ k, k < w.heap.size → ¬ F k → w'.heap[k]? = w.heap[k]?) (hF : ∀ k, F' k → F k ∨ (w.heap.size ≤ k ∧ k < w'.heap.size)) : DevE F' B W d segs safe writes w' := by
  obtain ⟨SV, vals, h⟩ := h; exact ⟨_, _, h.wide' hb hs hk hF⟩
/-- What is foreign to the device. -/
def FX (X : Nat → Prop) (d : Nat) (v1 v2 : Value) (k : Nat) : Prop := k < d ∨ X k ∨ v1.ownBlock = some k ∨ v2.ownBlock = some k
structure JW (X : Nat → Prop) (d : Nat) (w1 : World) (v1 v2 : Value) (l1 l2 : List Value) (S : List (List UInt8)) (sf wt : Nat) (w : World) : Prop where
  o1 : OB d w1 v1 l1.length l1 w
  o2 : OB d w1 v2 l2.length l2 w
  dv : DevE (FX X d v1 v2) d w1 d S sf wt w
  ne : ∀ k, v1.ownBlock = some k → v2.ownBlock ≠ some k
  x1 : ∀ k, X k → v1.ownBlock ≠ some k ∧ v2.ownBlock ≠ some k
section
variable {X : Nat → Prop} {d : Nat} {w1 w w' : World} {v1 v2 v' : Value} {l1 l2 l' : List Value} {S S' : List (List UInt8)} {sf wt sf' wt' : Nat}
theorem JW.xlt (h : JW X d w1 v1 v2 l1 l2 S sf wt w) : ∀ k, X k → k < w.heap.size := fun k hk => h.dv.fl k (.inr (.inl hk))
theorem JW.keep (h : JW X d w1 v1 v2 l1 l2 S sf wt w) (hb : Below w.heap.size w w') : JW X d w1 v1 v2 l1 l2 S sf wt w' ∧ Keep X w w' :=
  ⟨⟨h.o1.keep hb (Nat.le_refl _), h.o2.keep hb (Nat.le_refl _), h.dv.keep hb, h.ne, h.x1⟩, Keep.below h.xlt hb⟩
theorem JW.drewN (h : JW X d w1 v1 v2 l1 l2 S sf wt w) (q : Nat) : JW X d w1 v1 v2 l1 l2 S sf wt (w.drewN q) := ⟨h.o1.drewN q, h.o2.drewN q, h.dv.drewN q, h.ne, h.x1⟩
theorem JW.dev (h : JW X d w1 v1 v2 l1 l2 S sf wt w) (hd : DevE (FX X d v1 v2) d w1 d S' sf' wt' w') (hk : Keep (FX X d v1 v2) w w') : JW X d w1 v1 v2 l1 l2 S' sf' wt' w' ∧ Keep X w w' :=
  ⟨⟨h.o1.block hd.bel hk.1 (fun k e => hk.2 k (.inr (.inr (.inl e)))), h.o2.block hd.bel hk.1 (fun k e => hk.2 k (.inr (.inr (.inr e)))), hd, h.ne, h.x1⟩, ⟨hk.1, fun k e => hk.2 k (.inr (.inl e))⟩⟩
theorem JW.app1 (h : JW X d w1 v1 v2 l1 l2 S sf wt w) (ho : OB d w1 v' l'.length l' w') (hs : w.heap.size ≤ w'.heap.size) (hk : ∀ k, k < w.heap.size → some k ≠ v1.ownBlock → w'.heap[k]? = w.heap[k]?) (hv : v'.ownBlock = v1.ownBlock ∨ v'.ownBlock = some w.heap.size) :
    JW X d w1 v' v2 l' l2 S sf wt w' ∧ Keep X w w' := by
  refine ⟨⟨ho, h.o2.block ho.bel hs (fun k e => hk k (h.o2.lt k e).2 (fun q => h.ne k q.symm e)), ?_, ?_, ?_⟩, hs, fun k e => hk k (h.xlt k e) (fun q => (h.x1 k e).1 q.symm)⟩
  · refine h.dv.wideW ho.bel hs (fun k hl hn => hk k hl (fun q => hn (.inr (.inr (.inl q.symm))))) (fun k hq => ?_)
    rcases hq with hq | hq | hq | hq
    · exact .inl (.inl hq)
    · exact .inl (.inr (.inl hq))
    · rcases hv with r | r
      · rw [r] at hq; exact .inl (.inr (.inr (.inl hq)))
      · have h9 := (ho.lt k hq).2
        rw [r] at hq; injection hq with hq; exact .inr (by omega)
    · exact .inl (.inr (.inr (.inr hq)))
  · intro k e q
    rcases hv with r | r
    · exact h.ne k (r.symm.trans e) q
    · have := (h.o2.lt k q).2
      rw [r] at e; injection e with e; omega
  · intro k e
    refine ⟨fun q => ?_, (h.x1 k e).2⟩
    rcases hv with r | r
    · exact (h.x1 k e).1 (r.symm.trans q)
    · have := h.xlt k e
      rw [r] at q; injection q with q; omega
theorem JW.app2 (h : JW X d w1 v1 v2 l1 l2 S sf wt w) (ho : OB d w1 v' l'.length l' w') (hs : w.heap.size ≤ w'.heap.size) (hk : ∀ k, k < w.heap.size → some k ≠ v2.ownBlock → w'.heap[k]? = w.heap[k]?) (hv : v'.ownBlock = v2.ownBlock ∨ v'.ownBlock = some w.heap.size) :
    JW X d w1 v1 v' l1 l' S sf wt w' ∧ Keep X w w' := by
  refine ⟨⟨h.o1.block ho.bel hs (fun k e => hk k (h.o1.lt k e).2 (fun q => h.ne k e q.symm)), ho, ?_, ?_, ?_⟩, hs, fun k e => hk k (h.xlt k e) (fun q => (h.x1 k e).2 q.symm)⟩
  · refine h.dv.wideW ho.bel hs (fun k hl hn => hk k hl (fun q => hn (.inr (.inr (.inr q.symm))))) (fun k hq => ?_)
    rcases hq with hq | hq | hq | hq
    · exact .inl (.inl hq)
    · exact .inl (.inr (.inl hq))
    · exact .inl (.inr (.inr (.inl hq)))
    · rcases hv with r | r
      · rw [r] at hq; exact .inl (.inr (.inr (.inr hq)))
      · have h9 := (ho.lt k hq).2
        rw [r] at hq; injection hq with hq; exact .inr (by omega)
  · intro k e q
    rcases hv with r | r
    · exact h.ne k e (r.symm.trans q)
    · have := (h.o1.lt k e).2
      rw [r] at q; injection q with q; omega
  · intro k e
    refine ⟨(h.x1 k e).1, fun q => ?_⟩
    rcases hv with r | r
    · exact (h.x1 k e).2 (r.symm.trans q)
    · have := h.xlt k e
      rw [r] at q; injection q with q; omega
theorem JW.set2 {g n c : Nat} (h : JW X d w1 v1 (.slice (some ⟨g, 0, none⟩) n c) l1 l2 S sf wt w) (hn : l2.length = n) (i : Nat) (hi : i < n) (u : Value) :
    JW X d w1 v1 (.slice (some ⟨g, 0, none⟩) n c) l1 (l2.set i u) S sf wt (w.setCell ⟨g, i, none⟩ u) ∧ Keep X w (w.setCell ⟨g, i, none⟩ u) := by
  have ho := h.o2
  rw [hn] at ho
  have hs := ho.set i hi u
  have hl : (l2.set i u).length = n := by rw [List.length_set, hn]
  have hk : ∀ k, k ≠ g → (w.setCell ⟨g, i, none⟩ u).heap[k]? = w.heap[k]? := fun k hk => Below.heap_setCell _ _ _ _ hk
  refine ⟨⟨h.o1.block hs.bel (by simp) (fun k e => hk k (fun q => h.ne k e (by rw [q]; rfl))), by rw [hl]; exact hs, ?_, h.ne, h.x1⟩, by simp, fun k e => hk k (fun q => (h.x1 k e).2 (by rw [q]; rfl))⟩
  exact h.dv.wideW hs.bel (by simp) (fun k _ hn => hk k (fun q => hn (.inr (.inr (.inr (by rw [q]; rfl)))))) (fun k hq => .inl hq)
theorem JW.set1 {g n c : Nat} (h : JW X d w1 (.slice (some ⟨g, 0, none⟩) n c) v2 l1 l2 S sf wt w) (hn : l1.length = n) (i : Nat) (hi : i < n) (u : Value) :
    JW X d w1 (.slice (some ⟨g, 0, none⟩) n c) v2 (l1.set i u) l2 S sf wt (w.setCell ⟨g, i, none⟩ u) ∧ Keep X w (w.setCell ⟨g, i, none⟩ u) := by
  have ho := h.o1
  rw [hn] at ho
  have hs := ho.set i hi u
  have hl : (l1.set i u).length = n := by rw [List.length_set, hn]
  have hk : ∀ k, k ≠ g → (w.setCell ⟨g, i, none⟩ u).heap[k]? = w.heap[k]? := fun k hk => Below.heap_setCell _ _ _ _ hk
  refine ⟨⟨by rw [hl]; exact hs, h.o2.block hs.bel (by simp) (fun k e => hk k (fun q => h.ne k (by rw [q]; rfl) e)), ?_, h.ne, h.x1⟩, by simp, fun k e => hk k (fun q => (h.x1 k e).1 (by rw [q]; rfl))⟩
  exact h.dv.wideW hs.bel (by simp) (fun k _ hn => hk k (fun q => hn (.inr (.inr (.inl (by rw [q]; rfl)))))) (fun k hq => .inl hq)
theorem JW.wideX (h : JW X d w1 v1 v2 l1 l2 S sf wt w) (hb : Below w.heap.size w w') {X' : Nat → Prop} (hX : ∀ k, X' k → X k ∨ k < d ∨ (w.heap.size ≤ k ∧ k < w'.heap.size)) : JW X' d w1 v1 v2 l1 l2 S sf wt w' := by
  refine ⟨h.o1.keep hb (Nat.le_refl _), h.o2.keep hb (Nat.le_refl _), h.dv.wide hb (fun k hk => ?_), h.ne, fun k hk => ?_⟩
  · rcases hk with hk | hk | hk | hk
    · exact .inl (.inl hk)
    · rcases hX k hk with r | r | r
      · exact .inl (.inr (.inl r))
      · exact .inl (.inl r)
      · exact .inr r
    · exact .inl (.inr (.inr (.inl hk)))
    · exact .inl (.inr (.inr (.inr hk)))
  · rcases hX k hk with r | r | r
    · exact h.x1 k r
    · exact ⟨fun e => by have := (h.o1.lt k e).1; omega, fun e => by have := (h.o2.lt k e).1; omega⟩
    · exact ⟨fun e => by have := (h.o1.lt k e).2; omega, fun e => by have := (h.o2.lt k e).2; omega⟩
theorem JW.lessX (h : JW X d w1 v1 v2 l1 l2 S sf wt w) {X' : Nat → Prop} (hX : ∀ k, X' k → X k) : JW X' d w1 v1 v2 l1 l2 S sf wt w :=
  ⟨h.o1, h.o2, h.dv.less (fun k hk => by
    rcases hk with hk | hk | hk | hk
    · exact .inl hk
    · exact .inr (.inl (hX k hk))
    · exact .inr (.inr (.inl hk))
    · exact .inr (.inr (.inr hk))), h.ne, fun k hk => h.x1 k (hX k hk)⟩
/-- What came in lies below. -/
theorem JW.below (h : JW X d w1 v1 v2 l1 l2 S sf wt w) : Below d w1 w := h.o1.bel
end
end Go.Proofs.Ytidpffgdndjgpaa
