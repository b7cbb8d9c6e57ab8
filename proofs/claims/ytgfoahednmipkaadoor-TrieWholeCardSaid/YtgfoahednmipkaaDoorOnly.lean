/- What a call may have turned of the blocks that there were: these alone. It speaks of no program. -/
import Derived.Test.YtgfoahednmipkaaDoorCs
import Derived.Test.YtgfoahednmipkaaDoorMm
namespace Go.Proofs.YtgfoahednmipkaaDoor
open Go.RowKit
set_option linter.unusedVariables false
/-- Of the blocks that there were none has turned but those of S. -/
structure Only (S : Nat → Prop) (w w' : World) : Prop where
  os : w'.os = w.os
  tape : w'.tape = w.tape
  output : w'.output = w.output
  size : w.heap.size ≤ w'.heap.size
  block : ∀ k, k < w.heap.size → ¬ S k → w'.heap[k]? = w.heap[k]?
section
variable {S S' : Nat → Prop} {w w1 w2 : World}
theorem Only.refl (S : Nat → Prop) (w : World) : Only S w w := ⟨rfl, rfl, rfl, Nat.le_refl _, fun _ _ _ => rfl⟩
theorem Only.of_below (S : Nat → Prop) (h : Below w.heap.size w w1) : Only S w w1 := ⟨h.os, h.tape, h.output, h.size, fun k hk _ => h.block k hk⟩
theorem Only.mono (h : Only S w w1) (hs : ∀ k, k < w.heap.size → S k → S' k) : Only S' w w1 := ⟨h.os, h.tape, h.output, h.size, fun k hk hn => h.block k hk (fun e => hn (hs k hk e))⟩
theorem Only.trans (h : Only S w w1) (h' : Only S' w1 w2) (hs : ∀ k, k < w.heap.size → S' k → S k) : Only S w w2 :=
  ⟨h'.os.trans h.os, h'.tape.trans h.tape, h'.output.trans h.output, Nat.le_trans h.size h'.size, fun k hk hn => (h'.block k (Nat.lt_of_lt_of_le hk h.size) (fun e => hn (hs k hk e))).trans (h.block k hk hn)⟩
theorem Only.alloc (h : Only S w w1) (o : Obj) : Only S w (w1.alloc o) := h.trans (Only.of_below S ((Below.refl _ _).alloc (Nat.le_refl _) o)) (fun _ _ e => e)
theorem Only.drewN (h : Only S w w1) (n : Nat) : Only S w (w1.drewN n) := ⟨h.os, h.tape, h.output, h.size, h.block⟩
theorem Only.drew (h : Only S w w1) : Only S w w1.drew := ⟨h.os, h.tape, h.output, h.size, h.block⟩
theorem Only.setCell (h : Only S w w1) (p : Addr) (u : Value) (hp : p.block < w.heap.size → S p.block) : Only S w (w1.setCell p u) :=
  ⟨h.os, h.tape, h.output, Nat.le_trans h.size (by simp [World.setCell]), fun k hk hn => (Below.heap_setCell _ _ _ _ (fun e => hn (by subst e; exact hp hk))).trans (h.block k hk hn)⟩
theorem Only.grown {row : Option Nat} (h : Only S w w1) (hg : w1.grownBy w2 row) (hr : ∀ k, row = some k → k < w.heap.size → S k) : Only S w w2 :=
  ⟨hg.os.trans h.os, hg.tape.trans h.tape, hg.output.trans h.output, Nat.le_trans h.size hg.size, fun k hk hn => (hg.block k (Nat.lt_of_lt_of_le hk h.size) (fun e => hn (hr k e.symm hk))).trans (h.block k hk hn)⟩
theorem Only.below (h : Only S w w1) {B : Nat} (hB : B ≤ w.heap.size) (hs : ∀ k, k < B → ¬ S k) : Below B w w1 := ⟨h.os, h.tape, h.output, h.size, fun k hk => h.block k (by omega) (hs k hk)⟩
theorem Only.cs {b : Nat} {vs : List Value} (h : Only S w w1) (hc : Cs w b vs) (hb : ¬ S b) : Cs w1 b vs := hc.block (h.block b hc.lt hb) h.size
theorem Only.mm {κ : Type} {K : κ → Value} {b n : Nat} {M : κ → Option Value} (h : Only S w w1) (hc : MM K w b M n) (hb : ¬ S b) : MM K w1 b M n := hc.block (h.block b hc.lt hb)
theorem Only.sl {B n size : Nat} {A : Option Addr} {xs : List Value} (h : Only S w w1) (hs : Sl w B size A n xs) (hB : B ≤ w.heap.size) (hn : ∀ a, A = some a → 0 < n → ¬ S a.block) : Sl w1 B size A n xs :=
  ⟨hs.1, fun h0 => by
    obtain ⟨b, off, e, hb, hc⟩ := hs.2 h0
    refine ⟨b, off, e, hb, fun j u hu => ?_⟩
    rw [World.cell?_of_block (w := w) (h.block b (by omega) (hn _ e h0))]
    exact hc j u hu⟩
end
end Go.Proofs.YtgfoahednmipkaaDoor
