/- A device in memory: a block with a slice of slices, and two numbers; each slice owns its own block. It speaks of no program. -/
import Derived.Test.YtidpffgdndjgpaaOb
import Derived.Test.YtidpffgdndjgpaaCs
namespace Go.Proofs.Ytidpffgdndjgpaa
open Go.RowKit
set_option linter.unusedVariables false

/-- What is foreign has not turned. -/
def Keep (F : Nat → Prop) (w w' : World) : Prop := w.heap.size ≤ w'.heap.size ∧ ∀ k, F k → w'.heap[k]? = w.heap[k]?
theorem Keep.refl (F : Nat → Prop) (w : World) : Keep F w w := ⟨Nat.le_refl _, fun _ _ => rfl⟩
theorem Keep.trans {F : Nat → Prop} {w w' w'' : World} (h : Keep F w w') (h' : Keep F w' w'') : Keep F w w'' := ⟨Nat.le_trans h.1 h'.1, fun k hk => (h'.2 k hk).trans (h.2 k hk)⟩
theorem Keep.below {F : Nat → Prop} {w w' : World} (hF : ∀ k, F k → k < w.heap.size) (h : Below w.heap.size w w') : Keep F w w' := ⟨h.size, fun k hk => h.block k (hF k hk)⟩
theorem Keep.sl {F : Nat → Prop} {w w' : World} {A : Option Addr} {n C : Nat} {xs : List Value} (h : Keep F w w') (hA : Sl w C 1 A n xs) (hF : ∀ a, A = some a → 0 < n → F a.block) : Sl w' C 1 A n xs := by
  refine ⟨hA.1, fun hn => ?_⟩
  obtain ⟨b, off, e, hb, hc⟩ := hA.2 hn
  exact ⟨b, off, e, hb, fun j u hu => (World.cell?_of_block (w := w) (a := ⟨b, off + j, none⟩) (h.2 b (hF _ e hn))).trans (hc j u hu)⟩
/-- A device at block d: its segments' bytes, how many of the last one are safe, and how often was written. F: the blocks that are not its own, and never will be. -/
structure Dev (F : Nat → Prop) (B : Nat) (W : World) (d : Nat) (SV : Value) (vals : List Value) (segs : List (List UInt8)) (safe writes : Nat) (w : World) : Prop where
  fl : ∀ k, F k → k < w.heap.size
  fd : ¬ F d
  fs : ∀ k, SV.ownBlock = some k → ¬ F k
  fv : ∀ v ∈ vals, ∀ k, v.ownBlock = some k → ¬ F k
  bd : B ≤ d
  cs : Cs w d [SV, .int .i64 safe, .int .i64 writes]
  ob : OB B W SV segs.length vals w
  sd : SV.ownBlock ≠ some d
  each : ∀ (i : Nat) (v : Value) (s : List UInt8), vals[i]? = some v → segs[i]? = some s → OB B W v s.length (s.map bv) w
  vd : ∀ v ∈ vals, v.ownBlock ≠ some d
  vs : ∀ v ∈ vals, ∀ k, v.ownBlock = some k → SV.ownBlock ≠ some k
  apart : ∀ (i j : Nat) (u v : Value) (k : Nat), i ≠ j → vals[i]? = some u → vals[j]? = some v → u.ownBlock = some k → v.ownBlock ≠ some k
def DevE (F : Nat → Prop) (B : Nat) (W : World) (d : Nat) (segs : List (List UInt8)) (safe writes : Nat) (w : World) : Prop := ∃ SV vals, Dev F B W d SV vals segs safe writes w
section
variable {F : Nat → Prop} {B : Nat} {W : World} {d : Nat} {SV : Value} {vals : List Value} {segs : List (List UInt8)} {safe writes : Nat} {w w' : World}
theorem Dev.len (h : Dev F B W d SV vals segs safe writes w) : vals.length = segs.length := h.ob.len
theorem Dev.of (h : Dev F B W d SV vals segs safe writes w) (i : Nat) (v : Value) (hv : vals[i]? = some v) : ∃ s, segs[i]? = some s ∧ OB B W v s.length (s.map bv) w := by
  have hi := (List.getElem?_eq_some_iff.1 hv).1
  rw [h.len] at hi
  exact ⟨segs[i], List.getElem?_eq_getElem hi, h.each i v _ hv (List.getElem?_eq_getElem hi)⟩
theorem Dev.vlt (h : Dev F B W d SV vals segs safe writes w) (v : Value) (hv : v ∈ vals) (k : Nat) (hk : v.ownBlock = some k) : B ≤ k ∧ k < w.heap.size := by
  obtain ⟨i, hi⟩ := List.getElem?_of_mem hv
  obtain ⟨s, _, ho⟩ := h.of i v hi
  exact ho.lt k hk
theorem Dev.move (h : Dev F B W d SV vals segs safe writes w) (hb : Below B W w') (hs : w.heap.size ≤ w'.heap.size) (hk : ∀ k, k < w.heap.size → ¬ F k → w'.heap[k]? = w.heap[k]?) : Dev F B W d SV vals segs safe writes w' := by
  refine ⟨fun k q => Nat.lt_of_lt_of_le (h.fl k q) hs, h.fd, h.fs, h.fv, h.bd, h.cs.block (hk d h.cs.lt h.fd) hs, h.ob.block hb hs (fun k e => hk k (h.ob.lt k e).2 (h.fs k e)), h.sd, ?_, h.vd, h.vs, h.apart⟩
  intro i v s hv hseg
  have ho := h.each i v s hv hseg
  exact ho.block hb hs (fun k e => hk k (ho.lt k e).2 (h.fv v (List.mem_of_getElem? hv) k e))
theorem Dev.keep (h : Dev F B W d SV vals segs safe writes w) (hb : Below w.heap.size w w') : Dev F B W d SV vals segs safe writes w' :=
  h.move (h.ob.bel.trans (hb.mono h.ob.base)) hb.size (fun k hk _ => hb.block k hk)
theorem Dev.less {F' : Nat → Prop} (h : Dev F B W d SV vals segs safe writes w) (hF : ∀ k, F' k → F k) : Dev F' B W d SV vals segs safe writes w :=
  ⟨fun k q => h.fl k (hF k q), fun q => h.fd (hF _ q), fun k e q => h.fs k e (hF _ q), fun v hv k e q => h.fv v hv k e (hF _ q), h.bd, h.cs, h.ob, h.sd, h.each, h.vd, h.vs, h.apart⟩
/-- New blocks are foreign. -/
theorem Dev.wide {F' : Nat → Prop} (h : Dev F B W d SV vals segs safe writes w) (hb : Below w.heap.size w w') (hF : ∀ k, F' k → F k ∨ (w.heap.size ≤ k ∧ k < w'.heap.size)) : Dev F' B W d SV vals segs safe writes w' := by
  have h' := h.keep hb
  refine ⟨fun k q => ?_, fun q => ?_, fun k e q => ?_, fun v hv k e q => ?_, h'.bd, h'.cs, h'.ob, h'.sd, h'.each, h'.vd, h'.vs, h'.apart⟩
  · rcases hF k q with q | q
    · exact h'.fl k q
    · exact q.2
  · rcases hF _ q with q | q
    · exact h.fd q
    · have := h.cs.lt; omega
  · rcases hF _ q with q | q
    · exact h.fs k e q
    · have := (h.ob.lt k e).2; omega
  · rcases hF _ q with q | q
    · exact h.fv v hv k e q
    · have := (h.vlt v hv k e).2; omega
/-- New blocks are foreign, and foreign blocks may have turned. -/
theorem Dev.wide' {F' : Nat → Prop} (h : Dev F B W d SV vals segs safe writes w) (hb : Below B W w') (hs : w.heap.size ≤ w'.heap.size) (hk : ∀ k, k < w.heap.size → ¬ F k → w'.heap[k]? = w.heap[k]?) (hF : ∀ k, F' k → F k ∨ (w.heap.size ≤ k ∧ k < w'.heap.size)) : Dev F' B W d SV vals segs safe writes w' := by
  have h' := h.move hb hs hk
  refine ⟨fun k q => ?_, fun q => ?_, fun k e q => ?_, fun v hv k e q => ?_, h'.bd, h'.cs, h'.ob, h'.sd, h'.each, h'.vd, h'.vs, h'.apart⟩
  · rcases hF k q with q | q
    · exact h'.fl k q
    · exact q.2
  · rcases hF _ q with q | q
    · exact h.fd q
    · have := h.cs.lt; omega
  · rcases hF _ q with q | q
    · exact h.fs k e q
    · have := (h.ob.lt k e).2; omega
  · rcases hF _ q with q | q
    · exact h.fv v hv k e q
    · have := (h.vlt v hv k e).2; omega
theorem Dev.setSafe (h : Dev F B W d SV vals segs safe writes w) (u : Nat) : Dev F B W d SV vals segs u writes (w.setCell ⟨d, 1, none⟩ (.int .i64 u)) ∧ Keep F w (w.setCell ⟨d, 1, none⟩ (.int .i64 u)) := by
  have hk : ∀ k, k ≠ d → (w.setCell ⟨d, 1, none⟩ (.int .i64 u)).heap[k]? = w.heap[k]? := fun k hk => Below.heap_setCell w ⟨d, 1, none⟩ _ k hk
  have hb : Below B W (w.setCell ⟨d, 1, none⟩ (.int .i64 u)) := h.ob.bel.setCell (p := ⟨d, 1, none⟩) h.bd _
  have hs : w.heap.size ≤ (w.setCell ⟨d, 1, none⟩ (.int .i64 u)).heap.size := by simp
  refine ⟨⟨fun k q => Nat.lt_of_lt_of_le (h.fl k q) hs, h.fd, h.fs, h.fv, h.bd, h.cs.set' 1 (.int .i64 u) (by simp), h.ob.block hb hs (fun k e => hk k (fun q => h.sd (by rw [e, q]))), h.sd, ?_, h.vd, h.vs, h.apart⟩, hs, fun k q => hk k (fun e => h.fd (e ▸ q))⟩
  intro i v s hv hseg
  exact (h.each i v s hv hseg).block hb hs (fun k e => hk k (fun q => h.vd v (List.mem_of_getElem? hv) (by rw [e, q])))
theorem Dev.setWrites (h : Dev F B W d SV vals segs safe writes w) (u : Nat) : Dev F B W d SV vals segs safe u (w.setCell ⟨d, 2, none⟩ (.int .i64 u)) ∧ Keep F w (w.setCell ⟨d, 2, none⟩ (.int .i64 u)) := by
  have hk : ∀ k, k ≠ d → (w.setCell ⟨d, 2, none⟩ (.int .i64 u)).heap[k]? = w.heap[k]? := fun k hk => Below.heap_setCell w ⟨d, 2, none⟩ _ k hk
  have hb : Below B W (w.setCell ⟨d, 2, none⟩ (.int .i64 u)) := h.ob.bel.setCell (p := ⟨d, 2, none⟩) h.bd _
  have hs : w.heap.size ≤ (w.setCell ⟨d, 2, none⟩ (.int .i64 u)).heap.size := by simp
  refine ⟨⟨fun k q => Nat.lt_of_lt_of_le (h.fl k q) hs, h.fd, h.fs, h.fv, h.bd, h.cs.set' 2 (.int .i64 u) (by simp), h.ob.block hb hs (fun k e => hk k (fun q => h.sd (by rw [e, q]))), h.sd, ?_, h.vd, h.vs, h.apart⟩, hs, fun k q => hk k (fun e => h.fd (e ▸ q))⟩
  intro i v s hv hseg
  exact (h.each i v s hv hseg).block hb hs (fun k e => hk k (fun q => h.vd v (List.mem_of_getElem? hv) (by rw [e, q])))
/-- The slice of segments has grown by one. -/
theorem Dev.snoc (h : Dev F B W d SV vals segs safe writes w) {SV' : Value} (ho : OB B W SV' (segs.length + 1) (vals ++ [.slice none 0 0]) w') (hs : w.heap.size ≤ w'.heap.size) (hk : ∀ k, k < w.heap.size → some k ≠ SV.ownBlock → w'.heap[k]? = w.heap[k]?)
    (hv : ∀ k, SV'.ownBlock = some k → SV.ownBlock = some k ∨ w.heap.size ≤ k) :
    Dev F B W d SV' (vals ++ [.slice none 0 0]) (segs ++ [[]]) safe writes (w'.setCell ⟨d, 0, none⟩ SV') ∧ Keep F w (w'.setCell ⟨d, 0, none⟩ SV') := by
  have hdl := h.cs.lt
  have hsd : SV'.ownBlock ≠ some d := fun e => by
    rcases hv d e with q | q
    · exact h.sd q
    · omega
  have hk0 : ∀ k, k ≠ d → (w'.setCell ⟨d, 0, none⟩ SV').heap[k]? = w'.heap[k]? := fun k hk => Below.heap_setCell w' ⟨d, 0, none⟩ _ k hk
  have hb : Below B W (w'.setCell ⟨d, 0, none⟩ SV') := ho.bel.setCell (p := ⟨d, 0, none⟩) h.bd _
  have hs1 : w'.heap.size ≤ (w'.setCell ⟨d, 0, none⟩ SV').heap.size := by simp
  have hs2 := Nat.le_trans hs hs1
  have hk2 : ∀ k, k < w.heap.size → some k ≠ SV.ownBlock → k ≠ d → (w'.setCell ⟨d, 0, none⟩ SV').heap[k]? = w.heap[k]? := fun k q1 q2 q3 => (hk0 k q3).trans (hk k q1 q2)
  have hcs : Cs (w'.setCell ⟨d, 0, none⟩ SV') d [SV', .int .i64 safe, .int .i64 writes] := (h.cs.block (hk d hdl (fun e => h.sd e.symm)) hs).set' 0 SV' (by simp)
  refine ⟨⟨fun k q => Nat.lt_of_lt_of_le (h.fl k q) hs2, h.fd, fun k e q => ?_, fun v hm k e q => ?_, h.bd, hcs, ?_, hsd, ?_, ?_, ?_, ?_⟩, hs2, fun k q => ?_⟩
  · rcases hv k e with r | r
    · exact h.fs k r q
    · have := h.fl k q; omega
  · rcases List.mem_append.1 hm with hm | hm
    · exact h.fv v hm k e q
    · simp at hm; subst hm; cases e
  · rw [List.length_append]
    exact ho.block hb hs1 (fun k e => hk0 k (fun q => hsd (by rw [e, q])))
  · intro i v s hi hseg
    rw [List.getElem?_append] at hi hseg
    by_cases hlt : i < vals.length
    · rw [if_pos hlt] at hi
      rw [if_pos (by rw [← h.len]; exact hlt)] at hseg
      have hm := List.mem_of_getElem? hi
      have hoo := h.each i v s hi hseg
      exact hoo.block hb hs2 (fun k e => hk2 k (hoo.lt k e).2 (fun q => h.vs v hm k e q.symm) (fun q => h.vd v hm (by rw [e, q])))
    · rw [if_neg hlt] at hi
      rw [if_neg (by rw [← h.len]; exact hlt)] at hseg
      have hv0 : v = .slice none 0 0 := by
        have := List.mem_of_getElem? hi; simpa using this
      have hs0 : s = [] := by
        have := List.mem_of_getElem? hseg; simpa using this
      subst hv0 hs0
      exact OB.nil hb (Nat.le_trans h.ob.base hs2)
  · intro v hm
    rcases List.mem_append.1 hm with hm | hm
    · exact h.vd v hm
    · simp at hm; subst hm; simp [Value.ownBlock]
  · intro v hm k e q
    rcases List.mem_append.1 hm with hm | hm
    · rcases hv k q with r | r
      · exact h.vs v hm k e r
      · have := (h.vlt v hm k e).2; omega
    · simp at hm; subst hm; cases e
  · intro i j u v k hij hi hj e q
    rw [List.getElem?_append] at hi hj
    split at hi
    · split at hj
      · exact h.apart i j u v k hij hi hj e q
      · have := List.mem_of_getElem? hj; simp at this; subst this; cases q
    · have := List.mem_of_getElem? hi; simp at this; subst this; cases e
  · exact hk2 k (h.fl k q) (fun e => h.fs k e.symm q) (fun e => h.fd (e ▸ q))
/-- The last segment has another slice. -/
theorem Dev.setLast {g n cap : Nat} (h : Dev F B W d (.slice (some ⟨g, 0, none⟩) (n + 1) cap) vals segs safe writes w) (hn : segs.length = n + 1) {v v' : Value} (hv : vals[n]? = some v) (s' : List UInt8)
    (ho : OB B W v' s'.length (s'.map bv) w') (hs : w.heap.size ≤ w'.heap.size) (hk : ∀ k, k < w.heap.size → some k ≠ v.ownBlock → w'.heap[k]? = w.heap[k]?) (hv' : ∀ k, v'.ownBlock = some k → v.ownBlock = some k ∨ w.heap.size ≤ k) :
    Dev F B W d (.slice (some ⟨g, 0, none⟩) (n + 1) cap) (vals.set n v') (segs.set n s') safe writes (w'.setCell ⟨g, n, none⟩ v') ∧ Keep F w (w'.setCell ⟨g, n, none⟩ v') := by
  have hm := List.mem_of_getElem? hv
  have hgo : (Value.slice (some ⟨g, 0, none⟩) (n + 1) cap).ownBlock = some g := rfl
  have hgl := h.ob.lt g hgo
  have hdl := h.cs.lt
  have hgd : g ≠ d := fun e => h.sd (by rw [hgo, e])
  have hgv : ∀ u ∈ vals, u.ownBlock ≠ some g := fun u hu e => h.vs u hu g e hgo
  have hv'g : v'.ownBlock ≠ some g := fun e => by
    rcases hv' g e with q | q
    · exact hgv v hm q
    · omega
  have hv'd : v'.ownBlock ≠ some d := fun e => by
    rcases hv' d e with q | q
    · exact h.vd v hm q
    · omega
  have hk0 : ∀ k, k ≠ g → (w'.setCell ⟨g, n, none⟩ v').heap[k]? = w'.heap[k]? := fun k hk => Below.heap_setCell w' ⟨g, n, none⟩ _ k hk
  have hb : Below B W (w'.setCell ⟨g, n, none⟩ v') := ho.bel.setCell (p := ⟨g, n, none⟩) hgl.1 _
  have hs1 : w'.heap.size ≤ (w'.setCell ⟨g, n, none⟩ v').heap.size := by simp
  have hs2 := Nat.le_trans hs hs1
  have hk2 : ∀ k, k < w.heap.size → some k ≠ v.ownBlock → k ≠ g → (w'.setCell ⟨g, n, none⟩ v').heap[k]? = w.heap[k]? := fun k q1 q2 q3 => (hk0 k q3).trans (hk k q1 q2)
  have hnl : n < vals.length := (List.getElem?_eq_some_iff.1 hv).1
  have hob1 : OB B W (.slice (some ⟨g, 0, none⟩) (n + 1) cap) segs.length vals w' := h.ob.block ho.bel hs (fun k e => by
    injection e with e; subst e; exact hk g hgl.2 (fun e => hgv v hm e.symm))
  rw [hn] at hob1
  refine ⟨⟨fun k q => Nat.lt_of_lt_of_le (h.fl k q) hs2, h.fd, h.fs, fun u hu k e q => ?_, h.bd, ?_, ?_, h.sd, ?_, ?_, ?_, ?_⟩, hs2, fun k q => ?_⟩
  · rcases List.mem_or_eq_of_mem_set hu with hu | rfl
    · exact h.fv u hu k e q
    · rcases hv' k e with r | r
      · exact h.fv v hm k r q
      · have := h.fl k q; omega
  · exact h.cs.block (hk2 d hdl (fun e => h.vd v hm e.symm) (fun e => hgd e.symm)) hs2
  · rw [List.length_set, hn]
    exact hob1.set n (by omega) v'
  · intro i u s hi hseg
    by_cases e : n = i
    · subst e
      rw [List.getElem?_set_self hnl] at hi
      rw [List.getElem?_set_self (by omega)] at hseg
      injection hi with hi
      injection hseg with hseg
      subst hi hseg
      exact ho.block hb hs1 (fun k e => hk0 k (fun q => hv'g (by rw [e, q])))
    · rw [List.getElem?_set_ne e] at hi hseg
      have hoo := h.each i u s hi hseg
      exact hoo.block hb hs2 (fun k q => hk2 k (hoo.lt k q).2 (fun r => h.apart i n u v k (fun x => e x.symm) hi hv q r.symm) (fun r => hgv u (List.mem_of_getElem? hi) (by rw [q, r])))
  · intro u hu
    rcases List.mem_or_eq_of_mem_set hu with hu | rfl
    · exact h.vd u hu
    · exact hv'd
  · intro u hu k e q
    rcases List.mem_or_eq_of_mem_set hu with hu | rfl
    · exact h.vs u hu k e q
    · injection q with q; subst q; exact hv'g e
  · intro i j u x k hij hi hj e q
    by_cases e1 : n = i
    · subst e1
      rw [List.getElem?_set_self hnl] at hi
      rw [List.getElem?_set_ne hij] at hj
      injection hi with hi
      subst hi
      rcases hv' k e with r | r
      · exact h.apart n j v x k hij hv hj r q
      · have := (h.vlt x (List.mem_of_getElem? hj) k q).2; omega
    · rw [List.getElem?_set_ne e1] at hi
      by_cases e2 : n = j
      · subst e2
        rw [List.getElem?_set_self hnl] at hj
        injection hj with hj
        subst hj
        rcases hv' k q with r | r
        · exact h.apart i n u v k hij hi hv e r
        · have := (h.vlt u (List.mem_of_getElem? hi) k e).2; omega
      · rw [List.getElem?_set_ne e2] at hj
        exact h.apart i j u x k hij hi hj e q
  · exact hk2 k (h.fl k q) (fun e => h.fv v hm k e.symm q) (fun e => h.fs g hgo (e ▸ q))
theorem segs_cases {α : Type} (l : List α) : l = [] ∨ ∃ init s, l = init ++ [s] := by
  rcases List.eq_nil_or_concat l with h | ⟨a, b, h⟩
  · exact .inl h
  · exact .inr ⟨a, b, by rw [h, List.concat_eq_append]⟩
/-- What is at the end. -/
def lastN (segs : List (List UInt8)) : Nat := (segs.getLast?.map List.length).getD 0
theorem lastN_snoc (init : List (List UInt8)) (s : List UInt8) : lastN (init ++ [s]) = s.length := by simp [lastN]
theorem Dev.last {init : List (List UInt8)} {s : List UInt8} (h : Dev F B W d SV vals (init ++ [s]) safe writes w) :
    ∃ g cap A c, SV = .slice (some ⟨g, 0, none⟩) (init.length + 1) cap ∧ vals[init.length]? = some (.slice A s.length c) ∧ w.cell? ⟨g, init.length, none⟩ = some (.slice A s.length c) ∧ w.frozen? ⟨g, init.length, none⟩ = false ∧
      s.length ≤ c ∧ c ≤ maxLen ∧ (A = none → s.length = 0) ∧ init.length + 1 ≤ cap ∧ cap ≤ maxLen := by
  have hl := h.len
  have hll : (init ++ [s]).length = init.length + 1 := by simp
  have hv : vals[init.length]? = some (vals[init.length]'(by omega)) := List.getElem?_eq_getElem (by omega)
  have ho := h.each init.length _ s hv (by simp)
  obtain ⟨A, c, e, h1, h2, h3⟩ := ho.slice
  have hob := h.ob
  rw [hll] at hob
  rcases hob.own with ⟨_, h0⟩ | ⟨g, cap, hv0, _, _, q1, q2, q3, q4⟩
  · omega
  · rw [e] at hv
    exact ⟨g, cap, A, c, hv0, hv, q4 _ _ hv, (q3 _ (by omega)).2, h1, h2, fun e => (h3 e).1, q1, q2⟩
/-- A segment, by its number. -/
theorem Dev.at_ {A0 : Option Addr} {m c0 : Nat} (h : Dev F B W d (.slice A0 m c0) vals segs safe writes w) (k : Nat) (hk : k < segs.length) :
    ∃ g A c, A0 = some ⟨g, 0, none⟩ ∧ w.cell? ⟨g, k, none⟩ = some (.slice A segs[k].length c) ∧ segs[k].length ≤ c ∧ c ≤ maxLen ∧ (A = none → segs[k].length = 0 ∧ c = 0) ∧ OB B W (.slice A segs[k].length c) segs[k].length (segs[k].map bv) w := by
  have hl := h.len
  have hv : vals[k]? = some (vals[k]'(by omega)) := List.getElem?_eq_getElem (by omega)
  have ho := h.each k _ _ hv (List.getElem?_eq_getElem hk)
  obtain ⟨A, c, e, h1, h2, h3⟩ := ho.slice
  rw [e] at hv ho
  rcases h.ob.own with ⟨_, h0⟩ | ⟨g, cap, hv0, _, _, q1, q2, q3, q4⟩
  · omega
  · injection hv0 with hv0
    exact ⟨g, A, c, hv0, q4 _ _ hv, h1, h2, h3, ho⟩
theorem Dev.none (h : Dev F B W d SV vals [] safe writes w) : SV = .slice none 0 0 ∨ ∃ g cap, SV = .slice (some ⟨g, 0, none⟩) 0 cap := by
  rcases h.ob.own with ⟨h1, _⟩ | ⟨g, cap, h1, _⟩
  · exact .inl h1
  · exact .inr ⟨g, cap, h1⟩
end
end Go.Proofs.Ytidpffgdndjgpaa
