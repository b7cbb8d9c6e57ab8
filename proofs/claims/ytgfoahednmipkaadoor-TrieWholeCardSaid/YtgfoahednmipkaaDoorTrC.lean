/- trie.needed, trie.count of any tree. -/
import Derived.Test.YtgfoahednmipkaaDoorTrB
import Derived.Deep.TreeCalls
namespace Go.Proofs.YtgfoahednmipkaaDoor
open Go.RowKit
set_option linter.unusedVariables false
set_option maxRecDepth 20000
/-- A pointer stands as one. -/
theorem ptrV_none : ptrV none = .pointer none := rfl
theorem ptrV_some (b : Nat) : ptrV (some b) = .pointer (some ⟨b, 0, none⟩) := rfl
/-- How many nodes there are. -/
theorem count_any (t : Tr) : ∀ (p : Option Nat) (bs : List Nat) (w : World), TrM w t p bs → t.nodes ≤ 4611686018427387904 →
    Calls Tryd.prog 21 #[ptrV p] w fun e w' => e = .returned (.int .i64 (t.nodes : Nat)) ∧ ∃ n, w' = w.drewN n := by
  induction t with
  | nil =>
    intro p bs w hm hn
    obtain ⟨rfl, rfl⟩ := hm
    rw [ptrV_none]
    go_enter Tryd.func21, Tryd.ntmps21
    go_wp2
    go_ret
    exact ⟨rfl, 0, rfl⟩
  | node k v h c ih =>
    intro p bs w hm hn
    obtain ⟨b, ps, bb, rfl, rfl, hc, hk⟩ := hm
    rw [ptrV_some]
    simp only [Tr.nodes] at hn ⊢
    have i0 := Lib.hid (fun n => ih false (ps false) (bb false) (w.drewN n) ((hk false).drewN n) (by omega))
    have i1 := Lib.hid (fun n => ih true (ps true) (bb true) (w.drewN n) ((hk true).drewN n) (by omega))
    obtain ⟨n0, hn0⟩ : ∃ n0, (c false).nodes = n0 := ⟨_, rfl⟩
    obtain ⟨n1, hn1⟩ : ∃ n1, (c true).nodes = n1 := ⟨_, rfl⟩
    rw [hn0] at i0 hn ⊢
    rw [hn1] at i1 hn ⊢
    have c3 := hc.get 3 _
    have c4 := hc.get 4 _
    have hb := hc.lt
    obtain ⟨p0, hp0⟩ : ∃ p0, ps false = p0 := ⟨_, rfl⟩
    obtain ⟨p1, hp1⟩ : ∃ p1, ps true = p1 := ⟨_, rfl⟩
    rw [hp0] at i0 c3
    rw [hp1] at i1 c4
    clear ih hk hc hn0 hn1 hp0 hp1
    have e1 : ((1 + n0 + n1 : Nat) : Int) = 1 + (n0 : Int) + n1 := by simp
    have e2 : IntKind.wrap .i64 (1 + (n0 : Int)) = 1 + (n0 : Int) := IntWalk.i64_in _ (by omega)
    have e3 : IntKind.wrap .i64 (1 + (n0 : Int) + n1) = 1 + (n0 : Int) + n1 := IntWalk.i64_in _ (by omega)
    rw [e1]
    clear e1
    go_enter Tryd.func21, Tryd.ntmps21
    go_upto_region 3 with fail
    go_quiet (first
      | (go_at_call_of 21 (ptrV p0); exact Calls.quiet_of (i0.out _))
      | (go_at_call_of 21 (ptrV p1); exact Calls.quiet_of (i1.out _)))
    go_wp2
    go_ret
    exact ⟨rfl, _, rfl⟩
end Go.Proofs.YtgfoahednmipkaaDoor
