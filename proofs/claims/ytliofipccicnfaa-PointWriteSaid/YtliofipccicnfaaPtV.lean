/- The writer beside a map that the statement keeps. -/
import Derived.Test.YtliofipccicnfaaPtXq
import Derived.Test.YtliofipccicnfaaPtZ
namespace Go.Proofs.Ytliofipccicnfaa
open Go.RowKit
set_option linter.unusedVariables false
set_option linter.unusedSimpArgs false
/-- The foreign block has turned. -/
theorem WSq.swap {W w w' : World} {B b q : Nat} {ob : Obj} {L : List UInt8} {es : List (ByteArray × Nat)} (h : WSq W B b q ob L es w) (hq : B ≤ q) (hg : w.grownBy w' (some q)) : ∃ ob', WSq W B b q ob' L es w' := by
  have ql : q < w'.heap.size := Nat.lt_of_lt_of_le (by
    rcases h with ⟨_, _, _, _, _, _, hf⟩ | ⟨_, _, _, hf⟩
    · exact hf.lt
    · exact hf.lt) hg.size
  have hbel : Below B W w' := h.ws.bel.grown hg (Nat.le_trans h.base (Nat.le_of_lt h.ws.lt)) (fun k hk => by injection hk with hk; omega)
  refine ⟨w'.heap[q]'ql, ?_⟩
  have hob : w'.heap[q]? = some (w'.heap[q]'ql) := Array.getElem?_eq_getElem ql
  rcases h with ⟨h0, v, ho, hc, hv, hB, hf⟩ | ⟨v, g, h, hf⟩
  · exact .inl ⟨h0, v, ho.block hbel hg.size (fun k hk => hg.block k (ho.lt k hk).2 (fun e => hf.2.2.1 (by rw [hk, e]))), hc.grown hg (fun e => hf.2.1 (by injection e)), hv, hB, hob, hf.2⟩
  · exact .inr ⟨v, g, ⟨h.ob.block hbel hg.size (fun k hk => hg.block k (h.ob.lt k hk).2 (fun e => hf.2.2.1 (by rw [hk, e]))), h.cs.grown hg (fun e => hf.2.1 (by injection e)), h.sm.block (hg.block g h.sm.lt (fun e => hf.2.2.2 (by rw [e]))), h.bg, h.base, h.nb, h.ng⟩, hob, hf.2⟩
/-- What is still to be written of a name. -/
def InJ (R : List UInt8 × List (ByteArray × Nat)) (at_ : Nat) (rest : NameL) (dn : List UInt8) (es : List (ByteArray × Nat)) : Prop :=
  R = (dn ++ (wrS es (at_ + dn.length) rest).1, (wrS es (at_ + dn.length) rest).2) ∧ (∀ x ∈ rest, okLabel x = true) ∧ dn.length + (wire rest).length ≤ 84
theorem InJ.start (es : List (ByteArray × Nat)) (at_ : Nat) (n : NameL) (hg : GoodN n) : InJ (wrS es at_ n) at_ n [] es := ⟨by simp, hg.1, by simpa using hg.2.1⟩
theorem InJ.known {R : List UInt8 × List (ByteArray × Nat)} {at_ tq : Nat} {x : List UInt8} {rest : NameL} {dn : List UInt8} {es : List (ByteArray × Nat)} (h : InJ R at_ (x :: rest) dn es) (hl : lk es (keyOf (x :: rest)) = some tq) : R = (dn ++ ptrB tq, es) := by
  rw [h.1]
  unfold wrS
  rw [hl]
theorem InJ.next {R : List UInt8 × List (ByteArray × Nat)} {at_ : Nat} {x : List UInt8} {rest : NameL} {dn : List UInt8} {es : List (ByteArray × Nat)} (h : InJ R at_ (x :: rest) dn es) (hl : lk es (keyOf (x :: rest)) = none) : InJ R at_ rest (dn ++ (UInt8.ofNat x.length :: x)) (es ++ [(keyOf (x :: rest), at_ + dn.length)]) := by
  obtain ⟨h1, h2, h3⟩ := h
  have hw : (wire (x :: rest)).length = x.length + 1 + (wire rest).length := by rw [wire_cons]; simp; omega
  refine ⟨?_, fun y hy => h2 y (by simp [hy]), by simp; omega⟩
  have e : wrS es (at_ + dn.length) (x :: rest) = ((UInt8.ofNat x.length :: x) ++ (wrS (es ++ [(keyOf (x :: rest), at_ + dn.length)]) (at_ + dn.length + (x.length + 1)) rest).1, (wrS (es ++ [(keyOf (x :: rest), at_ + dn.length)]) (at_ + dn.length + (x.length + 1)) rest).2) := by
    conv => lhs; unfold wrS
    rw [hl]
  rw [h1, e]
  have e2 : at_ + (dn ++ UInt8.ofNat x.length :: x).length = at_ + dn.length + (x.length + 1) := by simp; omega
  rw [e2, List.append_assoc]
theorem InJ.done {R : List UInt8 × List (ByteArray × Nat)} {at_ : Nat} {dn : List UInt8} {es : List (ByteArray × Nat)} (h : InJ R at_ [] dn es) : R = (dn ++ [0], es) := h.1
/-- The bytes behind a place, as a slice. -/
theorem sl_drop {w : World} {C g n : Nat} {L T : List UInt8} (h : Sl w C 1 (some ⟨g, 0, none⟩) n ((L ++ T).map bv)) (hn : n = L.length + T.length) : Sl w C 1 (some ⟨g, L.length, none⟩) T.length (T.map bv) := by
  refine ⟨by simp, fun h0 => ?_⟩
  obtain ⟨b, off, e, hb, hc⟩ := h.2 (by omega)
  injection e with e
  injection e with e1 e2
  subst e1 e2
  refine ⟨_, _, rfl, hb, fun j u hu => ?_⟩
  have := hc (L.length + j) u (by
    rw [List.map_append, List.getElem?_append_right (by simp)]
    simpa using hu)
  rw [Nat.zero_add] at this
  exact this
end Go.Proofs.Ytliofipccicnfaa
