/- A statement whose order is open, and that writes into one block of the call's own besides new memory. It speaks of no program. -/
import Derived.Test.YtodpaejakgjblaaDoorReg2
import Derived.Test.YtodpaejakgjblaaDoorOb
namespace Go.Proofs.YtodpaejakgjblaaDoor
open Go.RowKit
set_option linter.unusedVariables false
/-- The world goes on: nothing that was there turns but block g. -/
def GoesBut (g : Nat) (w w' : World) : Prop := w.heap.size ≤ w'.heap.size ∧ ∀ k, k < w.heap.size → k ≠ g → w'.heap[k]? = w.heap[k]?
theorem GoesBut.refl (g : Nat) (w : World) : GoesBut g w w := ⟨Nat.le_refl _, fun _ _ _ => rfl⟩
theorem GoesBut.alloc (g : Nat) (w : World) (o : Obj) : GoesBut g w (w.alloc o) := ⟨by simp, fun k hk _ => Below.heap_alloc w o k hk⟩
theorem GoesBut.set (g j : Nat) (w : World) (u : Value) : GoesBut g w (w.setCell ⟨g, j, none⟩ u) := ⟨by simp, fun k _ hk => Below.heap_setCell w _ u k hk⟩
theorem GoesBut.below {g : Nat} {w w' : World} (h : Below w.heap.size w w') : GoesBut g w w' := ⟨h.size, fun k hk _ => h.block k hk⟩
theorem GoesBut.cell {g : Nat} {w w' : World} (h : GoesBut g w w') {b j : Nat} (hb : b < w.heap.size) (hg : b ≠ g) : w'.cell? ⟨b, j, none⟩ = w.cell? ⟨b, j, none⟩ := World.cell?_of_block (w := w) (h.2 b hb hg)
def AllStayX (Ext : World → World → Prop) : List (Value → World → Prop) → Prop
  | [] => True
  | p :: ps => (∀ v w w', p v w → Ext w w' → p v w') ∧ AllStayX Ext ps
theorem AllStayX.mem {Ext : World → World → Prop} : ∀ {l : List (Value → World → Prop)}, AllStayX Ext l → ∀ p ∈ l, ∀ v w w', p v w → Ext w w' → p v w'
  | q :: l, h, p, hp => by
    rcases List.mem_cons.1 hp with rfl | hp
    · exact h.1
    · exact AllStayX.mem h.2 p hp
theorem isV_stayX (Ext : World → World → Prop) (u : Value) : ∀ v w w', isV u v w → Ext w w' → isV u v w' := fun _ _ _ h _ => h
section
variable {P : Program} {ops : Array Oper} {Q : Exit → Act → World → Prop}
theorem wp_region_ext {id : Nat} {base : Act} {w0 : World} (hm : P.follows .mixedOrders = true) {FF : (Nat → Value) → Act} (hFF : ∀ x, putsF x 0 (ops.toList.map (·.dst)) base = FF x) (R : World → Prop) (Ext : World → World → Prop) (Ws : List (Value → World → Prop))
    (hn : noTwice (ops.toList.map (·.dst)) = true) (hg : guardsIn ops base.tmps.size = true) (hwf : wellFormed ops = true) (hlen : Ws.length = ops.size) (stays : AllStayX Ext Ws) (refl : ∀ w, Ext w w) (start : R w0.drew)
    (steps : OpStepsG P ops Q Ws R Ext FF 0 ops.toList)
    (fin : ∀ (x : Nat → Value) (w : World), R w → AllWords Ws x w 0 Ws → Q .normal (FF x) w) :
    (Code.region id ops true).wp P Q base w0 :=
  wp_region_words hm Ws R Ext hn hwf hlen stays.mem refl start (OpStepsG.steps hn hg hFF ops.toList 0 (fun _ h => h) steps) (fun x w hr hw => by rw [hFF x]; exact fin x w hr hw)
end
theorem next_of {A a' : Act} {d : Option Tmp} {p : Value → World → Prop} {R : World → Prop} {Ext : World → World → Prop} {w w' : World} (v : Value) (ha : a' = A.put d v) (hp : p v w') (hR : R w') (he : Ext w w') : Next A d p R Ext w a' w' := ⟨v, ha, hp, hR, he⟩
end Go.Proofs.YtodpaejakgjblaaDoor
