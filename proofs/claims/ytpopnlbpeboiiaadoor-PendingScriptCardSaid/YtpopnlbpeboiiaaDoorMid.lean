/- Cells of a block written and read as one value; a result that lies in a cell; the tail of a region. It speaks of no program. -/
import Derived.Test.YtpopnlbpeboiiaaDoorCs
import Derived.Test.YtpopnlbpeboiiaaDoorOb
import Derived.Test.YtpopnlbpeboiiaaDoorReg7
import Derived.Deep.MidRow
namespace Go.Proofs.YtpopnlbpeboiiaaDoor
open Go.RowKit
set_option linter.unusedVariables false
set_option linter.unusedSimpArgs false
theorem Cs.mid {w : World} {b : Nat} {vs : List Value} (h : Cs w b vs) (news : List Value) (hl : news.length = vs.length) : Cs (w.setCells b 0 news) b news := by
  obtain ⟨k1, k2⟩ := setCells_heap w b news 0
  refine ⟨by rw [k1]; exact h.1, fun j hj => ⟨?_, by rw [World.frozen?_setCells]; exact (h.2 j (by omega)).2⟩⟩
  have := World.cell?_setCells_in b news 0 w (fun i hi => by rw [Nat.zero_add, (h.2 i (by omega)).1]; rfl) j hj
  rwa [Nat.zero_add] at this
theorem Cs.there {w : World} {b : Nat} {vs : List Value} (h : Cs w b vs) (n : Nat) (hn : vs.length = n) : w.there b 0 n := fun j hj => by
  rw [Nat.zero_add]; exact ⟨by rw [(h.2 j (by omega)).1]; rfl, (h.2 j (by omega)).2⟩
theorem Cs.range {w : World} {b : Nat} {vs : List Value} (h : Cs w b vs) : w.rangeAt b 0 vs := fun j v hv => by
  obtain ⟨hj, e⟩ := List.getElem?_eq_some_iff.1 hv
  rw [Nat.zero_add, ← e]; exact (h.2 j hj).1
theorem Cs.part {w : World} {b : Nat} {vs : List Value} (h : Cs w b vs) (o n : Nat) (cs : List Value) (hc : (vs.drop o).take n = cs := by rfl) : w.rangeAt b o cs := fun j v hv => by
  rw [← hc, List.getElem?_take] at hv
  split at hv
  · rw [List.getElem?_drop] at hv
    exact h.get _ _ hv
  · cases hv
theorem tail_cons {P : Program} {Q : Exit → Act → World → Prop} (o : Oper) (os : List Oper) (a : Act) (w : World) : tailWp P Q (o :: os) a w = Oper.wp P o a w (fun a' w' => ∃ v, a' = a.put o.dst v ∧ tailWp P Q os a' w') Q := rfl
theorem tail_nil {P : Program} {Q : Exit → Act → World → Prop} (a : Act) (w : World) : tailWp P Q [] a w = Q .normal a w := rfl
theorem results_cell1 {fn : Func} {p : Tmp} {ty : TypeId} (h : fn.results = #[.cell p ty]) (tmps : Array Value) (P : Program) (w : World) (b o : Nat) (cs : List Value) (d : TypeDesc) (hp : tmps.getD p undef = .pointer (some ⟨b, o, none⟩)) (hc : w.rangeAt b o cs)
    (hu : P.underlying ty = some d) (hd : d.isRow = true) (hi : (P.info? ty).map (·.size) = some cs.length) : (results fn tmps).run P w = .ok (.agg cs.toArray) w := by
  have hp2 : tmps[p]?.getD undef = .pointer (some ⟨b, o, none⟩) := by rw [← hp, Array.getD_eq_getD_getElem?]
  simp only [results, h]
  simp [Sem.run_bind, Result.andThen, hp2, asAddr, run_loadVar_mid w b o ty cs d hc hu hd hi]
end Go.Proofs.YtpopnlbpeboiiaaDoor
