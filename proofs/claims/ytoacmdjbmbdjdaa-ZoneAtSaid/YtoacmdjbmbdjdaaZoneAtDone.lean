/- The statement 'ZoneAtSaid': ZoneAt returns true for every input, and each argument reads afterwards as before. The step from the walk to the statement. -/
import Derived.Test.YtoacmdjbmbdjdaaView
import Derived.Test.YtoacmdjbmbdjdaaLawZonA
import Derived.Test.YtoacmdjbmbdjdaaViewA
namespace Go.Proofs.Ytoacmdjbmbdjdaa.zoneAtDone
open Go.ChangeShapes Go.WideShapes Go.ChangeAt Go.RowKit
open Go.ChangeMaps (open_string shut_string)
set_option linter.unusedVariables false

set_option maxRecDepth 100000 in
theorem lifted (os : Os) (started : os.Started) (H : Type) (enc : TypeId × Value → H) :
    ReturnsInHanded {} Try.checked os 6 .any (Rows.zoneAtSpec.pre6 enc Try.prog Try.f6 Rows.zoneAtRow.domain false) (Rows.zoneAtSpec.post enc Try.prog Try.f6 false true false false) := by
  refine returnsInHanded_of_change_sized (C := Try.checked) own started (by kernel_rfl) Try.func6
    (ChangeSpec.witness6 (enc := enc) (C := Try.checked) false ⟨#[], #[.slice none 0 0, .slice none 0 0], []⟩ 8 (by kernel_rfl) (by kernel_rfl) (by kernel_rfl) (by kernel_rfl)) ?_
  intro W base args ds gs before hval0 hW hcnd hsz0 _
  have hsz : (DataW.weightsEach Try.prog (Try.f6.params.toList ++ Rows.zoneAtSpec.plain.varTypes Try.prog) (ds ++ gs)).all (· ≤ reachBytes) = true := hsz0
  have hval : ∀ (j : Nat) t v, Try.f6.params[j]? = some t → args[j]? = some v → Value.okWide Try.prog W .any base t v := hval0
  have hW' := hW
  obtain ⟨p, q, hA0, hV, rfl, hfz, hnd⟩ := hW
  have hA : DataW.TrodAll enc Try.prog W 0 (fun _ => true) true Try.f6.params.toList args.toList ds p := hA0
  rw [Try.params6] at hA hval hsz
  obtain ⟨v0, vs0, d0, ds0, p0, q0, hargs, rfl, rfl, h0, r0⟩ := trodAll_cons hA
  obtain ⟨v1, vs1, d1, ds1, p1, q1, rfl, rfl, rfl, h1, r1⟩ := trodAll_cons r0
  obtain ⟨rfl, rfl, rfl⟩ := trodAll_nil r1
  obtain rfl : args = #[v0, v1] := by cases args; simp_all
  obtain ⟨rfl, rfl⟩ := trodVars_none hV
  have k0 := h0
  have lt0 : ∀ x ∈ p0, x.block < W.heap.size := by obtain ⟨m, hm⟩ := k0; exact DataW.trod_lt m _ _ _ hm
  have k1 := h1
  have lt1 : ∀ x ∈ p1, x.block < W.heap.size := by obtain ⟨m, hm⟩ := k1; exact DataW.trod_lt m _ _ _ hm
  obtain ⟨m0, f0⟩ := trod_cells h0 (okWide_slice Try.underlying37 (hval 0 37 v0 rfl rfl))
  obtain ⟨A0, n0, c0, z0, el0, e0, S0, he0, hd0, hw0⟩ := view_acts5 Try.underlying37 Try.underlying45 (by kernel_rfl) (by kernel_rfl) Try.underlying33 Try.underlying5 (by kernel_rfl) (by kernel_rfl) Try.underlying5 Try.underlying25 Try.underlying33 Try.underlying5 (by kernel_rfl) (by kernel_rfl) Try.underlying9 f0
  obtain rfl : v0 = .slice A0 n0 c0 := by simpa using e0
  obtain ⟨m1, f1⟩ := trod_cells h1 (okWide_slice Try.underlying33 (hval 1 33 v1 rfl rfl))
  obtain ⟨A1, n1, c1, z1, e1, S1, hl1, hz1, hd1⟩ := view_ints Try.underlying33 Try.underlying5 (by kernel_rfl) f1
  obtain rfl : v1 = .slice A1 n1 c1 := by simpa using e1
  have B1 : c1 ≤ 140737488351232 := by
    have hle := S1.le
    rcases hd1 with ⟨_, _, h0⟩ | ⟨sp, rfl, hsp⟩
    · omega
    · have hb := sized_slice hsz (j := 1) (t := 33) (e := 5) rfl rfl Try.underlying33
      rw [show Try.prog.bytesOf 5 = 1 by kernel_rfl] at hb
      simp only [reachBytes, List.length_map, hl1, hsp] at hb
      omega
  clear hA0 hval0
  refine (zoneAt_walk W A0 n0 c0 z0 S0 A1 n1 c1 z1 S1 hl1 hz1 B1).mono fun e W' ⟨he, bel⟩ => ?_
  subst he
  exact ⟨_, rfl, _, _, _, [], _, [], hW', trodAll_mk1 (shut_bool Try.underlying4 _), (trodAll_cons_mk (Below.trod laidOut (by kernel_rfl) (of_decide_eq_true (by kernel_rfl)) k0 bel lt0) (trodAll_cons_mk (Below.trod laidOut (by kernel_rfl) (of_decide_eq_true (by kernel_rfl)) k1 bel lt1) trodAll_mk0)), rfl, bel.frame _, fun h => by cases h⟩

theorem over : Rows.zoneAtRow.holds Try.pinned (OpenSpec.ofChange Rows.zoneAtSpec) :=
  OpenClaim.holds_of_wide 6 Try.f6 rfl rfl rfl rfl rfl rfl rfl ⟨rfl, rfl, rfl, rfl, rfl⟩ rfl rfl rfl rfl rfl (by kernel_rfl) Try.func6 (by kernel_rfl)
    (of_decide_eq_true (by kernel_rfl)) (by unfold Func.isWrapper; first | (rw [if_pos (by decide +kernel)]; kernel_rfl) | (rw [if_neg (by decide +kernel)]; exact ⟨rfl, rfl⟩))
    (fun os started H enc _ => lifted os started H enc)

/-- The statement. -/
theorem proved : Rows.ZoneAtSaid := over
#print axioms proved
end Go.Proofs.Ytoacmdjbmbdjdaa.zoneAtDone
