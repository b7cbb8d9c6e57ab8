/- slices.Clone of records, in general. -/
import Derived.Test.YtkdknfedieeenaaDoorNameW
import Derived.Test.YtkdknfedieeenaaDoorObz
import Derived.Lib.SliceRun
namespace Go.Proofs.YtkdknfedieeenaaDoor
open Go.RowKit
set_option linter.unusedVariables false
set_option maxRecDepth 20000
/-- A type's row, by its parts. -/
theorem info_parts4 {P : Program} {t : TypeId} {z : Value} {a b : Nat} (h : (P.info? t).map (fun i => (i.zero, i.size, i.bytes)) = some (some z, a, b)) : ∃ i, P.info? t = some i ∧ i.zero = some z ∧ i.size = a ∧ i.bytes = b := by
  cases hi : P.info? t with
  | none => rw [hi] at h; cases h
  | some i =>
    rw [hi] at h
    simp only [Option.map_some, Option.some.injEq, Prod.mk.injEq] at h
    exact ⟨i, rfl, h.1, h.2.1, h.2.2⟩
theorem rec_info : (Tryd.prog.info? 59).map (fun i => (i.zero, i.size, i.bytes)) = some (some (Value.agg #[.string ⟨#[]⟩, .int .u16 0, .int .u32 0, .string ⟨#[]⟩]), 4, 40) := by kernel_rfl
set_option maxHeartbeats 800000 in
theorem clone_recs (A : Option Addr) (n c : Nat) (l : List Value) (w : World) (C : Nat) (h : Sl w C 4 A n l) (h1 : ∀ u ∈ l, u.oneCell' = true) (hA0 : A = none → n = 0 ∧ c = 0) (hn : n ≤ 1000000000) :
    Calls Tryd.prog 43 #[.slice A n c] w fun e w' => ∃ v, e = .returned v ∧ OBM 4 w.heap.size w v n l w' := by
  have hl : l.length = n * 4 := h.1
  obtain ⟨i0, hi, hz0, hz1, hz2⟩ := info_parts4 rec_info
  cases A with
  | none =>
    obtain ⟨rfl, rfl⟩ := hA0 rfl
    have hq := fun w => Lib.run_eql_slice_nil (P := Tryd.prog) w 48 _ none 0 0 0 0 Tryd.underlying48
    clear hA0 h
    go_enter Tryd.func43, Tryd.ntmps43
    go_wp2_with fail
    go_ret
    obtain rfl : l = [] := List.eq_nil_of_length_eq_zero (by omega)
    exact ⟨_, rfl, OBM.start _⟩
  | some a =>
    have ho := OBM.fresh (sz := 4) (Below.refl w.heap.size w) (Nat.le_refl _) #[] 59 0 [] rfl rfl (by decide)
    have hS : Src Tryd.prog 4 48 (.slice (some a) n c) n l (w.alloc (.cells #[] 59)) := by
      refine Src.ofSlice _ Tryd.underlying48 a n c _ hl ?_ h1
      intro j u hu
      have hc := h.cells_at a rfl j u hu
      exact (World.cell?_alloc_lt w _ _ (World.block_lt_of_cell? w _ hc)).trans hc
    have hq := fun w => Lib.run_eql_slice_nil (P := Tryd.prog) w 48 _ (some a) n c 0 0 Tryd.underlying48
    clear hA0 h
    go_enter Tryd.func43, Tryd.ntmps43
    go_wp2_with (at_builtin; go_loud (refine wpList_append_obm rfl _ _ 48 48 rfl 59 i0 _ 40 Tryd.underlying48 hi hz0 hz1 hz2 rfl ho rfl rfl hS hl (by unfold maxLen; omega) (by omega) ?_))
    intro v' w' q1 q2 q3 q4
    have q1 : OBM 4 w.heap.size w v' n l w' := by simpa using q1
    go_wp2
    go_ret
    exact ⟨_, rfl, q1⟩
end Go.Proofs.YtkdknfedieeenaaDoor
