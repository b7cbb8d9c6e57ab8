/- The statement 'JournalWriteCardSaid': JournalWrite returns true for every input, and each argument reads afterwards as before. The step from the walk to the statement. -/
import Derived.Test.YtidpffgdndjgpaaDoorView
import Derived.Test.YtidpffgdndjgpaaDoorLawJrnW
import Derived.Handed
import Derived.SevenTiedAt
import Derived.Test.YtidpffgdndjgpaaDoorCards
import Derived.Test.YtidpffgdndjgpaaDoorLaid
import Derived.Test.YtidpffgdndjgpaaDoorTie
import Derived.Test.YtidpffgdndjgpaaDoorView3
namespace Go.Proofs.YtidpffgdndjgpaaDoor.journalWriteDone
open Go.ChangeShapes Go.WideShapes Go.ChangeAt Go.RowKit
open Go.ChangeMaps (open_string shut_string)
set_option linter.unusedVariables false

set_option maxRecDepth 100000 in
theorem lifted (os : Os) (started : os.Started) (H : Type) (enc : TypeId × Value → H) :
    ReturnsInHanded {} Tryd.checked os 3 .any (fun w args => (Rows.journalWriteSpec.pre enc Tryd.prog Tryd.f3 [] false w args ∧ laidMetH Tryd.prog laidE w) ∧ sizedMet enc Tryd.prog Tryd.f3 (OpenSpec.ofChange Rows.journalWriteSpec) false w args) (Rows.journalWriteSpec.post enc Tryd.prog Tryd.f3 false true false false) := by
  refine returnsInHanded_of_change_and (C := Tryd.checked) (X := fun w _ => laidMetH Tryd.prog laidE w) (fun _ _ _ hh h => h.of_heap hh) own started (by kernel_rfl) Tryd.func3
    (ChangeSpec.witness_at (enc := enc) (C := Tryd.checked) (os := os) (X := fun w _ => laidMetH Tryd.prog laidE w) false (laidWorld os) #[.slice none 0 0] 8 rfl (by kernel_rfl) (by kernel_rfl) (by kernel_rfl) (by kernel_rfl) (by kernel_rfl) (laidWorld_met os _)) ?_
  intro W base args ds gs before hval0 hW hcnd hsz0 hL _
  have hE : Etype W := etype_of_laid hL
  have hsz : (DataW.weightsEach Tryd.prog (Tryd.f3.params.toList ++ Rows.journalWriteSpec.plain.varTypes Tryd.prog) (ds ++ gs)).all (· ≤ reachBytes) = true := hsz0
  have hval : ∀ (j : Nat) t v, Tryd.f3.params[j]? = some t → args[j]? = some v → Value.okWide Tryd.prog W .any base t v := hval0
  have hW' := hW
  obtain ⟨p, q, hA0, hV, rfl, hfz, hnd⟩ := hW
  have hA : DataW.TrodAll enc Tryd.prog W 0 (fun _ => true) true Tryd.f3.params.toList args.toList ds p := hA0
  rw [Tryd.params3] at hA hval hsz
  obtain ⟨v0, vs0, d0, ds0, p0, q0, hargs, rfl, rfl, h0, r0⟩ := trodAll_cons hA
  obtain ⟨rfl, rfl, rfl⟩ := trodAll_nil r0
  obtain rfl : args = #[v0] := by cases args; simp_all
  obtain ⟨rfl, rfl⟩ := trodVars_none hV
  have k0 := h0
  have lt0 : ∀ x ∈ p0, x.block < W.heap.size := by obtain ⟨m, hm⟩ := k0; exact DataW.trod_lt m _ _ _ hm
  obtain ⟨m0, f0⟩ := trod_cells h0 (okWide_slice Tryd.underlying22 (hval 0 22 v0 rfl rfl))
  obtain ⟨A0, n0, c0, z0, el0, e0, S0, he0, hd0, hw0⟩ := view_deeds4 Tryd.underlying22 Tryd.underlying35 (by kernel_rfl) (by kernel_rfl) Tryd.underlying5 Tryd.underlying32 Tryd.underlying5 (by kernel_rfl) (by kernel_rfl) Tryd.underlying5 Tryd.underlying33 f0
  obtain rfl : v0 = .slice A0 n0 c0 := by simpa using e0
  have B0 : c0 ≤ 3518437208780 := by
    have hle := S0.le
    rcases hd0 with ⟨_, _, h0⟩ | ⟨sp, rfl, hsp⟩
    · omega
    · have hb := sized_slice hsz (j := 0) (t := 22) (e := 35) rfl rfl Tryd.underlying22
      rw [show Tryd.prog.bytesOf 35 = 40 by kernel_rfl] at hb
      simp only [reachBytes, he0, hsp] at hb
      omega
  have R0 : ∀ r ∈ z0, r.2.1.2.2.1 ≤ 140737488351232 := by
    intro r hr
    rcases hw0 r hr with h0 | ⟨D, hD, hn⟩
    · rw [h0]; exact Nat.zero_le _
    · rcases hd0 with ⟨_, h0, _⟩ | ⟨sp, rfl, hsp⟩
      · rw [List.eq_nil_of_length_eq_zero (he0.trans h0)] at hD; cases hD
      · exact row_sized hsz (j := 0) (t := 22) (e := 35) rfl rfl Tryd.underlying22 hD hn
  clear hA0 hval0
  refine (journalWrite_walk W hE A0 n0 c0 z0 S0 R0 B0).mono fun e W' ⟨he, bel⟩ => ?_
  subst he
  exact ⟨_, rfl, _, _, _, [], _, [], hW', trodAll_mk1 (shut_bool Tryd.underlying4 _), (trodAll_cons_mk (Below.trod laidOut (by kernel_rfl) (of_decide_eq_true (by kernel_rfl)) k0 bel lt0) trodAll_mk0), rfl, bel.frame _, fun h => by cases h⟩

theorem over : Rows.journalWriteRow.holds Tryd.pinned (OpenSpec.ofChange Rows.journalWriteSpec) :=
  OpenClaim.holds_of_wide 3 Tryd.f3 rfl rfl rfl rfl rfl rfl rfl ⟨rfl, rfl, rfl, rfl, rfl⟩ rfl rfl rfl rfl rfl (by kernel_rfl) Tryd.func3 (by kernel_rfl)
    (of_decide_eq_true (by kernel_rfl)) (by unfold Func.isWrapper; first | (rw [if_pos (by decide +kernel)]; kernel_rfl) | (rw [if_neg (by decide +kernel)]; exact ⟨rfl, rfl⟩))
    (fun os started H enc _ => lifted os started H enc)

/-- The statement: the row's, closed by the given tie. -/
theorem proved : Rows.JournalWriteCardSaid :=
  Claim7.holds_tied_plain_at .later [] [.handle] true (true, "814a2ef9ba7d2863e675473e973e9dda331dd888f4949a2c7a652b78ff9cca47") true
    over (fun _ h => by cases h) (by kernel_rfl) (fun _ h => by cases h) journalWrite_row_tie rfl ⟨rfl, rfl⟩ (by kernel_rfl) rfl
    (fun f fn hf hfn => by
      obtain rfl : f = 3 := Option.some.inj ((show Tryd.prog.funcNamed "bolter/bolterlaw24.JournalWrite" = some 3 by kernel_rfl).symm.trans hf) |>.symm
      obtain rfl : fn = Tryd.f3 := (Option.some.inj (Tryd.func3.symm.trans hfn)).symm
      exact ⟨by kernel_rfl, fun j t ht => by
        rw [Tryd.params3] at ht
        have hm := Array.mem_of_getElem? ht
        simp at hm
        subst hm
        exact (show Tryd.prog.wantsStandIn 22 = false by kernel_rfl)⟩)
    (by kernel_rfl)
#print axioms proved
end Go.Proofs.YtidpffgdndjgpaaDoor.journalWriteDone
