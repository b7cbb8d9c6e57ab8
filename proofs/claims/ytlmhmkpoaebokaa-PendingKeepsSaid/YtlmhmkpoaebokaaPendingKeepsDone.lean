/- The statement 'PendingKeepsSaid': PendingKeeps returns true for every input, and each argument reads afterwards as before. The step from the walk to the statement. -/
import Derived.Test.YtlmhmkpoaebokaaView
import Derived.Test.YtlmhmkpoaebokaaLawPendK
import Derived.Test.YtlmhmkpoaebokaaView5
import Derived.Test.YtlmhmkpoaebokaaViewP
namespace Go.Proofs.Ytlmhmkpoaebokaa.pendingKeepsDone
open Go.ChangeShapes Go.WideShapes Go.ChangeAt Go.RowKit
open Go.ChangeMaps (open_string shut_string)
set_option linter.unusedVariables false

set_option maxRecDepth 100000 in
theorem lifted (os : Os) (started : os.Started) (H : Type) (enc : TypeId × Value → H) :
    ReturnsInHanded {} Try.checked os 8 .any (Rows.pendingKeepsSpec.pre6 enc Try.prog Try.f8 Rows.pendingKeepsRow.domain false) (Rows.pendingKeepsSpec.post enc Try.prog Try.f8 false true false false) := by
  refine returnsInHanded_of_change_sized (C := Try.checked) own started (by kernel_rfl) Try.func8
    (ChangeSpec.witness6 (enc := enc) (C := Try.checked) false ⟨#[], #[.slice none 0 0, .agg #[.int .u8 0, .int .u8 0, .slice none 0 0, .int .u8 0, .int .i8 0]], []⟩ 8 (by kernel_rfl) (by kernel_rfl) (by kernel_rfl) (by kernel_rfl)) ?_
  intro W base args ds gs before hval0 hW hcnd hsz0 _
  have hsz : (DataW.weightsEach Try.prog (Try.f8.params.toList ++ Rows.pendingKeepsSpec.plain.varTypes Try.prog) (ds ++ gs)).all (· ≤ reachBytes) = true := hsz0
  have hval : ∀ (j : Nat) t v, Try.f8.params[j]? = some t → args[j]? = some v → Value.okWide Try.prog W .any base t v := hval0
  have hW' := hW
  obtain ⟨p, q, hA0, hV, rfl, hfz, hnd⟩ := hW
  have hA : DataW.TrodAll enc Try.prog W 0 (fun _ => true) true Try.f8.params.toList args.toList ds p := hA0
  rw [Try.params8] at hA hval hsz
  obtain ⟨v0, vs0, d0, ds0, p0, q0, hargs, rfl, rfl, h0, r0⟩ := trodAll_cons hA
  obtain ⟨v1, vs1, d1, ds1, p1, q1, rfl, rfl, rfl, h1, r1⟩ := trodAll_cons r0
  obtain ⟨rfl, rfl, rfl⟩ := trodAll_nil r1
  obtain rfl : args = #[v0, v1] := by cases args; simp_all
  obtain ⟨rfl, rfl⟩ := trodVars_none hV
  have k0 := h0
  have lt0 : ∀ x ∈ p0, x.block < W.heap.size := by obtain ⟨m, hm⟩ := k0; exact DataW.trod_lt m _ _ _ hm
  have k1 := h1
  have lt1 : ∀ x ∈ p1, x.block < W.heap.size := by obtain ⟨m, hm⟩ := k1; exact DataW.trod_lt m _ _ _ hm
  obtain ⟨m0, f0⟩ := trod_cells h0 (okWide_slice Try.underlying66 (hval 0 66 v0 rfl rfl))
  obtain ⟨A0, n0, c0, z0, el0, e0, S0, he0, hd0⟩ := view_deedsP Try.underlying66 Try.underlying72 (by kernel_rfl) (by kernel_rfl) Try.underlying5 Try.underlying5 Try.underlying49 Try.underlying5 (by kernel_rfl) Try.underlying5 Try.underlying70 f0
  obtain rfl : v0 = .slice A0 n0 c0 := by simpa using e0
  have B0 : c0 ≤ 3518437208780 := by
    have hle := S0.le
    rcases hd0 with ⟨_, _, h0⟩ | ⟨sp, rfl, hsp⟩
    · omega
    · have hb := sized_slice hsz (j := 0) (t := 66) (e := 72) rfl rfl Try.underlying66
      rw [show Try.prog.bytesOf 72 = 40 by kernel_rfl] at hb
      simp only [reachBytes, he0, hsp] at hb
      omega
  obtain ⟨u1_0, u1_1, u1_2, u1_3, u1_4, y1_0, y1_1, y1_2, y1_3, y1_4, nn1, rfl, rfl, rfl, t1_0, t1_1, t1_2, t1_3, t1_4⟩ := open_agg5 Try.underlying72 (by kernel_rfl) (by kernel_rfl) (hval 1 72 v1 rfl rfl) h1
  obtain ⟨a1_0, e1_0, g1_0, w1_0⟩ := DataW.trod_int Try.underlying5 t1_0
  simp only [List.cons.injEq, and_true] at e1_0
  subst e1_0 g1_0
  obtain ⟨a1_1, e1_1, g1_1, w1_1⟩ := DataW.trod_int Try.underlying5 t1_1
  simp only [List.cons.injEq, and_true] at e1_1
  subst e1_1 g1_1
  obtain ⟨A1_2, n1_2, c1_2, z1_2, e1_2, S1_2, hl1_2, hz1_2, hd1_2⟩ := view_ints Try.underlying49 Try.underlying5 (by kernel_rfl) t1_2
  obtain rfl : u1_2 = .slice A1_2 n1_2 c1_2 := by simpa using e1_2
  obtain ⟨y1_2, p1_2⟩ := y1_2
  simp only at hd1_2
  obtain ⟨a1_3, e1_3, g1_3, w1_3⟩ := DataW.trod_int Try.underlying5 t1_3
  simp only [List.cons.injEq, and_true] at e1_3
  subst e1_3 g1_3
  obtain ⟨a1_4, e1_4, g1_4, w1_4⟩ := DataW.trod_int Try.underlying70 t1_4
  simp only [List.cons.injEq, and_true] at e1_4
  subst e1_4 g1_4
  have B1_2 : c1_2 ≤ 140737488351232 := by
    have hle := S1_2.le
    rcases hd1_2 with ⟨_, _, h0⟩ | ⟨sp, rfl, hsp⟩
    · omega
    · have hb := sized_any hsz (j := 1) (t := 72) rfl rfl (n := ((z1_2.map fun z => DataW.lit (H := H) (.int .u8 z)).length + sp.length) * Try.prog.bytesOf 5) (by simp [DataW.weights, Try.underlying72, Try.underlying49, DataW.weightsEach])
      rw [show Try.prog.bytesOf 5 = 1 by kernel_rfl] at hb
      simp only [reachBytes, List.length_map, hl1_2, hsp] at hb
      omega
  clear hA0 hval0
  refine (pendingKeeps_walk W A0 n0 c0 z0 S0 B0 a1_0 w1_0 a1_1 w1_1 A1_2 n1_2 c1_2 z1_2 S1_2 hl1_2 hz1_2 B1_2 a1_3 w1_3 a1_4 w1_4).mono fun e W' ⟨he, bel⟩ => ?_
  subst he
  exact ⟨_, rfl, _, _, _, [], _, [], hW', trodAll_mk1 (shut_bool Try.underlying4 _), (trodAll_cons_mk (Below.trod laidOut (by kernel_rfl) (of_decide_eq_true (by kernel_rfl)) k0 bel lt0) (trodAll_cons_mk (Below.trod laidOut (by kernel_rfl) (of_decide_eq_true (by kernel_rfl)) k1 bel lt1) trodAll_mk0)), rfl, bel.frame _, fun h => by cases h⟩

theorem over : Rows.pendingKeepsRow.holds Try.pinned (OpenSpec.ofChange Rows.pendingKeepsSpec) :=
  OpenClaim.holds_of_wide 8 Try.f8 rfl rfl rfl rfl rfl rfl rfl ⟨rfl, rfl, rfl, rfl, rfl⟩ rfl rfl rfl rfl rfl (by kernel_rfl) Try.func8 (by kernel_rfl)
    (of_decide_eq_true (by kernel_rfl)) (by unfold Func.isWrapper; first | (rw [if_pos (by decide +kernel)]; kernel_rfl) | (rw [if_neg (by decide +kernel)]; exact ⟨rfl, rfl⟩))
    (fun os started H enc _ => lifted os started H enc)

/-- The statement. -/
theorem proved : Rows.PendingKeepsSaid := over
#print axioms proved
end Go.Proofs.Ytlmhmkpoaebokaa.pendingKeepsDone
