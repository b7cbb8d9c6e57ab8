/- Entries that wait, nineteen cells each; sets of numbers at the operation; which number is the first that is free. -/
import Derived.Test.YtpopnlbpeboiiaaDoorIm
import Derived.Test.YtpopnlbpeboiiaaDoorCs
import Derived.Test.YtpopnlbpeboiiaaDoorActE
import Derived.Test.YtpopnlbpeboiiaaDoorData
import Derived.StillTailTactics
import Derived.Deep.MidRow
import Derived.Outline
namespace Go.Proofs.YtpopnlbpeboiiaaDoor
open Go.RowKit
set_option linter.unusedVariables false
set_option linter.unusedSimpArgs false
set_option maxRecDepth 20000
theorem wpList_update_im {P : Program} (w : World) {ops : Array Oper} {rest : List Oper} {o : Oper} {a : Act} {Q : Exit → Act → World → Prop}
    (hg : o.guard = none) (m x v : Operand) (t : TypeId) (hop : o.op = Op.mapUpdate t m x v) (k e : TypeId) (kd : IntKind) (ht : P.underlying t = some (.map k e)) (hk : P.underlying k = some (.int kd)) (b : Nat) (ks : List Int)
    (hm : a.eval m = .map (some b)) (u : Value) (hown : IM kd u w b ks) (s : Int) (hx : a.eval x = .int kd s) (hv : a.eval v = u)
    (hK : ∀ w', IM kd u w' b (if ks.contains s then ks else ks ++ [s]) → w.grownBy w' (some b) → wpList P ops Q rest (a.put o.dst undef) w') :
    wpList P ops Q (o :: rest) a w := by
  refine wpList_plain hg fun K' hK' => ?_
  obtain ⟨w', hrun, r1, r2⟩ := hown.insert ht hk s
  unfold Oper.wp
  simp [execOp, hop, hm, hx, hv, hrun, Result.andThen]
  exact hK' _ _ (hK w' r1 r2)
/-- An entry that waits: its number, the name and the type that are asked for, the client, its port, until when. -/
abbrev EntT := Int × ByteArray × Int × ByteArray × Int × Int
def entCells (e : EntT) : List Value := [.int .u16 e.1, .int .u16 0, .bool false, .int .i64 0, .bool false, .bool false, .bool false, .bool false, .int .i64 0, .string e.2.1, .int .u16 e.2.2.1, .slice none 0 0, .slice none 0 0, .slice none 0 0, .int .i64 0, .string e.2.2.2.1, .int .i64 e.2.2.2.2.1, .bool false, .int .i64 e.2.2.2.2.2]
/-- Entries lie one behind the other. -/
def Ents (w : World) (A : Option Addr) (es : List EntT) : Prop :=
  ∀ i e, es[i]? = some e → ∃ b off, A = some ⟨b, off, none⟩ ∧ b < w.heap.size ∧ ∀ j u, (entCells e)[j]? = some u → w.cell? ⟨b, off + i * 19 + j, none⟩ = some u
theorem Ents.below {w w' : World} {A : Option Addr} {es : List EntT} (h : Ents w A es) (hb : Below w.heap.size w w') : Ents w' A es := by
  intro i e he
  obtain ⟨b, off, rfl, hl, hc⟩ := h i e he
  exact ⟨b, off, rfl, Nat.lt_of_lt_of_le hl hb.size, fun j u hu => (hb.cell (p := ⟨b, _, none⟩) hl).trans (hc j u hu)⟩
def idsE (es : List EntT) : List Int := es.map (·.1)
/-- The first number from one on that none has, going round; 0, if all are taken. -/
def FreeR (ids : List Int) (id : Nat) (r : Int) : Prop := (∃ j : Nat, j < 65536 ∧ (∀ i, i < j → ids.contains (((id + i) % 65536 : Nat) : Int) = true) ∧ ids.contains (((id + j) % 65536 : Nat) : Int) = false ∧ r = ((id + j) % 65536 : Nat)) ∨ (r = 0 ∧ ∀ i, i < 65536 → ids.contains (((id + i) % 65536 : Nat) : Int) = true)
def flatE (es : List EntT) : List Value := es.flatMap entCells
theorem entCells_len (e : EntT) : (entCells e).length = 19 := rfl
theorem flatE_get : ∀ (es : List EntT) (i j : Nat) (e : EntT) (u : Value), es[i]? = some e → (entCells e)[j]? = some u → (flatE es)[i * 19 + j]? = some u
  | [], i, j, e, u, h, _ => by simp at h
  | q :: es, 0, j, e, u, h, hu => by
    simp at h
    subst h
    have hj := (List.getElem?_eq_some_iff.1 hu).1
    rw [show flatE (q :: es) = entCells q ++ flatE es from rfl, Nat.zero_mul, Nat.zero_add, List.getElem?_append_left hj]
    exact hu
  | q :: es, i + 1, j, e, u, h, hu => by
    have := flatE_get es i j e u (by simpa using h) hu
    rw [show flatE (q :: es) = entCells q ++ flatE es from rfl, List.getElem?_append_right (by rw [entCells_len]; omega), entCells_len, show (i + 1) * 19 + j - 19 = i * 19 + j by omega]
    exact this
theorem Cs.ents {w : World} {b : Nat} {es : List EntT} (h : Cs w b (flatE es)) : Ents w (some ⟨b, 0, none⟩) es := by
  intro i e he
  refine ⟨b, 0, rfl, h.lt, fun j u hu => ?_⟩
  have := flatE_get es i j e u he hu
  rw [Nat.zero_add]
  exact h.get _ _ this
/-- The first that is free is one number. -/
theorem FreeR.at_ {ids : List Int} {id : Nat} {r : Int} (h : FreeR ids id r) (j : Nat) (hj : j < 65536) (h1 : ∀ i, i < j → ids.contains (((id + i) % 65536 : Nat) : Int) = true) (h2 : ids.contains (((id + j) % 65536 : Nat) : Int) = false) : r = ((id + j) % 65536 : Nat) := by
  rcases h with ⟨k, hk, k1, k2, rfl⟩ | ⟨-, k1⟩
  · rcases Nat.lt_trichotomy j k with hlt | rfl | hlt
    · rw [k1 j hlt] at h2; cases h2
    · rfl
    · rw [h1 k hlt] at k2; cases k2
  · rw [k1 j hj] at h2; cases h2
def e26 (id : Int) : EntT := (id, ⟨#[]⟩, 0, ⟨#[]⟩, 0, 0)
end Go.Proofs.YtpopnlbpeboiiaaDoor
