/- The statement 'PendingScriptCardSaid': PendingScript returns true for every input, and each argument reads afterwards as before. The step from the walk to the statement. -/
import Derived.Test.YtpopnlbpeboiiaaDoorView
import Derived.Test.YtpopnlbpeboiiaaDoorMgLawPendU
import Derived.Handed
import Derived.SevenTiedAt
import Derived.Test.YtpopnlbpeboiiaaDoorCards
import Derived.Test.YtpopnlbpeboiiaaDoorMgSA
import Derived.Test.YtpopnlbpeboiiaaDoorTie
import Derived.Test.YtpopnlbpeboiiaaDoorViewP
namespace Go.Proofs.YtpopnlbpeboiiaaDoor.pendingScriptDone
open Go.ChangeShapes Go.WideShapes Go.ChangeAt Go.RowKit
open Go.ChangeMaps (open_string shut_string)
set_option linter.unusedVariables false

set_option maxRecDepth 100000 in
theorem lifted (os : Os) (started : os.Started) (H : Type) (enc : TypeId × Value → H) :
    ReturnsInHanded {} Tryd.checked os 3 .any (fun w args => (Rows.pendingScriptSpec.pre enc Tryd.prog Tryd.f3 [] false w args ∧ laidMetH Tryd.prog laidE w) ∧ sizedMet enc Tryd.prog Tryd.f3 (OpenSpec.ofChange Rows.pendingScriptSpec) false w args) (Rows.pendingScriptSpec.post enc Tryd.prog Tryd.f3 false true false false) := by
  refine returnsInHanded_of_change_and (C := Tryd.checked) (X := fun w _ => laidMetH Tryd.prog laidE w) (fun _ _ _ hh h => h.of_heap hh) own started (by kernel_rfl) Tryd.func3
    (ChangeSpec.witness_at (enc := enc) (C := Tryd.checked) (os := os) (X := fun w _ => laidMetH Tryd.prog laidE w) false (laidWorld os) #[.slice none 0 0] 8 rfl (by kernel_rfl) (by kernel_rfl) (by kernel_rfl) (by kernel_rfl) (by kernel_rfl) (laidWorld_met os _)) ?_
  intro W base args ds gs before hval0 hW hcnd hsz0 hL _
  have hE : Etype W := etype_of_laid hL
  have hsz : (DataW.weightsEach Tryd.prog (Tryd.f3.params.toList ++ Rows.pendingScriptSpec.plain.varTypes Tryd.prog) (ds ++ gs)).all (· ≤ reachBytes) = true := hsz0
  have hval : ∀ (j : Nat) t v, Tryd.f3.params[j]? = some t → args[j]? = some v → Value.okWide Tryd.prog W .any base t v := hval0
  have hW' := hW
  obtain ⟨p, q, hA0, hV, rfl, hfz, hnd⟩ := hW
  have hA : DataW.TrodAll enc Tryd.prog W 0 (fun _ => true) true Tryd.f3.params.toList args.toList ds p := hA0
  rw [Tryd.params3] at hA hval hsz
  obtain ⟨v0, vs0, d0, ds0, p0, q0, hargs, rfl, rfl, h0, r0⟩ := trodAll_cons hA
  obtain ⟨rfl, rfl, rfl⟩ := trodAll_nil r0
  obtain rfl : args = #[v0] := by cases args; simp_all
  obtain ⟨rfl, rfl⟩ := trodVars_none hV
  have k0 := h0
  have lt0 : ∀ x ∈ p0, x.block < W.heap.size := by obtain ⟨m, hm⟩ := k0; exact DataW.trod_lt m _ _ _ hm
  obtain ⟨m0, f0⟩ := trod_cells h0 (okWide_slice Tryd.underlying22 (hval 0 22 v0 rfl rfl))
  obtain ⟨A0, n0, c0, z0, el0, e0, S0, he0, hd0⟩ := view_deedsP Tryd.underlying22 Tryd.underlying29 (by kernel_rfl) (by kernel_rfl) Tryd.underlying5 Tryd.underlying5 Tryd.underlying26 Tryd.underlying5 (by kernel_rfl) Tryd.underlying5 Tryd.underlying27 f0
  obtain rfl : v0 = .slice A0 n0 c0 := by simpa using e0
  have B0 : c0 ≤ 3518437208780 := by
    have hle := S0.le
    rcases hd0 with ⟨_, _, h0⟩ | ⟨sp, rfl, hsp⟩
    · omega
    · have hb := sized_slice hsz (j := 0) (t := 22) (e := 29) rfl rfl Tryd.underlying22
      rw [show Tryd.prog.bytesOf 29 = 40 by kernel_rfl] at hb
      simp only [reachBytes, he0, hsp] at hb
      omega
  clear hA0 hval0
  refine (pendingScript_walk W hE A0 n0 c0 z0 S0 B0).mono fun e W' ⟨he, bel⟩ => ?_
  subst he
  exact ⟨_, rfl, _, _, _, [], _, [], hW', trodAll_mk1 (shut_bool Tryd.underlying4 _), (trodAll_cons_mk (Below.trod laidOut (by kernel_rfl) (of_decide_eq_true (by kernel_rfl)) k0 bel lt0) trodAll_mk0), rfl, bel.frame _, fun h => by cases h⟩

theorem over : Rows.pendingScriptRow.holds Tryd.pinned (OpenSpec.ofChange Rows.pendingScriptSpec) :=
  OpenClaim.holds_of_wide 3 Tryd.f3 rfl rfl rfl rfl rfl rfl rfl ⟨rfl, rfl, rfl, rfl, rfl⟩ rfl rfl rfl rfl rfl (by kernel_rfl) Tryd.func3 (by kernel_rfl)
    (of_decide_eq_true (by kernel_rfl)) (by unfold Func.isWrapper; first | (rw [if_pos (by decide +kernel)]; kernel_rfl) | (rw [if_neg (by decide +kernel)]; exact ⟨rfl, rfl⟩))
    (fun os started H enc _ => lifted os started H enc)

/-- The statement: the row's, closed by the given tie. -/
theorem proved : Rows.PendingScriptCardSaid :=
  Claim7.holds_tied_plain_at .later [] [.handle] true (true, "51e0f282ec1891168f192a6c8a50f0d93b3d4670c8ecf22d20a47d4525f14e88") true
    over (fun _ h => by cases h) (by kernel_rfl) (fun _ h => by cases h) pendingScript_row_tie rfl ⟨rfl, rfl⟩ (by kernel_rfl) rfl
    (fun f fn hf hfn => by
      obtain rfl : f = 3 := Option.some.inj ((show Tryd.prog.funcNamed "bolter/bolterlaw26.PendingScript" = some 3 by kernel_rfl).symm.trans hf) |>.symm
      obtain rfl : fn = Tryd.f3 := (Option.some.inj (Tryd.func3.symm.trans hfn)).symm
      exact ⟨by kernel_rfl, fun j t ht => by
        rw [Tryd.params3] at ht
        have hm := Array.mem_of_getElem? ht
        simp at hm
        subst hm
        exact (show Tryd.prog.wantsStandIn 22 = false by kernel_rfl)⟩)
    (by kernel_rfl)
#print axioms proved
end Go.Proofs.YtpopnlbpeboiiaaDoor.pendingScriptDone
