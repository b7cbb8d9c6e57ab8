/- The statement 'ZoneCompareSaid': ZoneCompare returns true for every input, and each argument reads afterwards as before. The step from the walk to the statement. -/
import Derived.Test.YtoacmdjbmbdjdaaView
import Derived.Test.YtoacmdjbmbdjdaaLawZonC
import Derived.Lib.SmallJoins
namespace Go.Proofs.Ytoacmdjbmbdjdaa.zoneCompareDone
open Go.ChangeShapes Go.WideShapes Go.ChangeAt Go.RowKit
open Go.ChangeMaps (open_string shut_string)
set_option linter.unusedVariables false

set_option maxRecDepth 100000 in
theorem lifted (os : Os) (started : os.Started) (H : Type) (enc : TypeId × Value → H) :
    ReturnsInHanded {} Try.checked os 3 .any (Rows.zoneCompareSpec.pre6 enc Try.prog Try.f3 Rows.zoneCompareRow.domain false) (Rows.zoneCompareSpec.post enc Try.prog Try.f3 false true false false) := by
  refine returnsInHanded_of_change_sized (C := Try.checked) own started (by kernel_rfl) Try.func3
    (ChangeSpec.witness6 (enc := enc) (C := Try.checked) false ⟨#[], #[.agg #[.string ByteArray.empty, .int .u16 0, .int .u32 0, .string ByteArray.empty], .agg #[.string ByteArray.empty, .int .u16 0, .int .u32 0, .string ByteArray.empty], .agg #[.string ByteArray.empty, .int .u16 0, .int .u32 0, .string ByteArray.empty]], []⟩ 8 (by kernel_rfl) (by kernel_rfl) (by kernel_rfl) (by kernel_rfl)) ?_
  intro W base args ds gs before hval0 hW hcnd hsz0 _
  have hsz : (DataW.weightsEach Try.prog (Try.f3.params.toList ++ Rows.zoneCompareSpec.plain.varTypes Try.prog) (ds ++ gs)).all (· ≤ reachBytes) = true := hsz0
  have hval : ∀ (j : Nat) t v, Try.f3.params[j]? = some t → args[j]? = some v → Value.okWide Try.prog W .any base t v := hval0
  have hW' := hW
  obtain ⟨p, q, hA0, hV, rfl, hfz, hnd⟩ := hW
  have hA : DataW.TrodAll enc Try.prog W 0 (fun _ => true) true Try.f3.params.toList args.toList ds p := hA0
  rw [Try.params3] at hA hval hsz
  obtain ⟨v0, vs0, d0, ds0, p0, q0, hargs, rfl, rfl, h0, r0⟩ := trodAll_cons hA
  obtain ⟨v1, vs1, d1, ds1, p1, q1, rfl, rfl, rfl, h1, r1⟩ := trodAll_cons r0
  obtain ⟨v2, vs2, d2, ds2, p2, q2, rfl, rfl, rfl, h2, r2⟩ := trodAll_cons r1
  obtain ⟨rfl, rfl, rfl⟩ := trodAll_nil r2
  obtain rfl : args = #[v0, v1, v2] := by cases args; simp_all
  obtain ⟨rfl, rfl⟩ := trodVars_none hV
  have k0 := h0
  have lt0 : ∀ x ∈ p0, x.block < W.heap.size := by obtain ⟨m, hm⟩ := k0; exact DataW.trod_lt m _ _ _ hm
  have k1 := h1
  have lt1 : ∀ x ∈ p1, x.block < W.heap.size := by obtain ⟨m, hm⟩ := k1; exact DataW.trod_lt m _ _ _ hm
  have k2 := h2
  have lt2 : ∀ x ∈ p2, x.block < W.heap.size := by obtain ⟨m, hm⟩ := k2; exact DataW.trod_lt m _ _ _ hm
  obtain ⟨u0_0, u0_1, u0_2, u0_3, y0_0, y0_1, y0_2, y0_3, nn0, rfl, rfl, rfl, t0_0, t0_1, t0_2, t0_3⟩ := Joins.open_agg4 Try.underlying27 (by kernel_rfl) (by kernel_rfl) (hval 0 27 v0 rfl rfl) h0
  obtain ⟨a0_0, e0_0, g0_0, w0_0⟩ := DataW.trod_string Try.underlying22 t0_0
  simp only [List.cons.injEq, and_true] at e0_0
  subst e0_0 g0_0
  obtain ⟨a0_1, e0_1, g0_1, w0_1⟩ := DataW.trod_int Try.underlying24 t0_1
  simp only [List.cons.injEq, and_true] at e0_1
  subst e0_1 g0_1
  obtain ⟨a0_2, e0_2, g0_2, w0_2⟩ := DataW.trod_int Try.underlying25 t0_2
  simp only [List.cons.injEq, and_true] at e0_2
  subst e0_2 g0_2
  obtain ⟨a0_3, e0_3, g0_3, w0_3⟩ := DataW.trod_string Try.underlying9 t0_3
  simp only [List.cons.injEq, and_true] at e0_3
  subst e0_3 g0_3
  have w0_0b : a0_0.size ≤ 140737488351232 := by have hb := sized_any hsz (j := 0) (t := 27) rfl rfl (n := a0_0.data.toList.length) (by simp [DataW.weights, Try.underlying27, DataW.weightsEach]); simp only [reachBytes, Array.length_toList] at hb; show a0_0.data.size ≤ _; omega
  have w0_3b : a0_3.size ≤ 140737488351232 := by have hb := sized_any hsz (j := 0) (t := 27) rfl rfl (n := a0_3.data.toList.length) (by simp [DataW.weights, Try.underlying27, DataW.weightsEach]); simp only [reachBytes, Array.length_toList] at hb; show a0_3.data.size ≤ _; omega
  obtain ⟨u1_0, u1_1, u1_2, u1_3, y1_0, y1_1, y1_2, y1_3, nn1, rfl, rfl, rfl, t1_0, t1_1, t1_2, t1_3⟩ := Joins.open_agg4 Try.underlying27 (by kernel_rfl) (by kernel_rfl) (hval 1 27 v1 rfl rfl) h1
  obtain ⟨a1_0, e1_0, g1_0, w1_0⟩ := DataW.trod_string Try.underlying22 t1_0
  simp only [List.cons.injEq, and_true] at e1_0
  subst e1_0 g1_0
  obtain ⟨a1_1, e1_1, g1_1, w1_1⟩ := DataW.trod_int Try.underlying24 t1_1
  simp only [List.cons.injEq, and_true] at e1_1
  subst e1_1 g1_1
  obtain ⟨a1_2, e1_2, g1_2, w1_2⟩ := DataW.trod_int Try.underlying25 t1_2
  simp only [List.cons.injEq, and_true] at e1_2
  subst e1_2 g1_2
  obtain ⟨a1_3, e1_3, g1_3, w1_3⟩ := DataW.trod_string Try.underlying9 t1_3
  simp only [List.cons.injEq, and_true] at e1_3
  subst e1_3 g1_3
  have w1_0b : a1_0.size ≤ 140737488351232 := by have hb := sized_any hsz (j := 1) (t := 27) rfl rfl (n := a1_0.data.toList.length) (by simp [DataW.weights, Try.underlying27, DataW.weightsEach]); simp only [reachBytes, Array.length_toList] at hb; show a1_0.data.size ≤ _; omega
  have w1_3b : a1_3.size ≤ 140737488351232 := by have hb := sized_any hsz (j := 1) (t := 27) rfl rfl (n := a1_3.data.toList.length) (by simp [DataW.weights, Try.underlying27, DataW.weightsEach]); simp only [reachBytes, Array.length_toList] at hb; show a1_3.data.size ≤ _; omega
  obtain ⟨u2_0, u2_1, u2_2, u2_3, y2_0, y2_1, y2_2, y2_3, nn2, rfl, rfl, rfl, t2_0, t2_1, t2_2, t2_3⟩ := Joins.open_agg4 Try.underlying27 (by kernel_rfl) (by kernel_rfl) (hval 2 27 v2 rfl rfl) h2
  obtain ⟨a2_0, e2_0, g2_0, w2_0⟩ := DataW.trod_string Try.underlying22 t2_0
  simp only [List.cons.injEq, and_true] at e2_0
  subst e2_0 g2_0
  obtain ⟨a2_1, e2_1, g2_1, w2_1⟩ := DataW.trod_int Try.underlying24 t2_1
  simp only [List.cons.injEq, and_true] at e2_1
  subst e2_1 g2_1
  obtain ⟨a2_2, e2_2, g2_2, w2_2⟩ := DataW.trod_int Try.underlying25 t2_2
  simp only [List.cons.injEq, and_true] at e2_2
  subst e2_2 g2_2
  obtain ⟨a2_3, e2_3, g2_3, w2_3⟩ := DataW.trod_string Try.underlying9 t2_3
  simp only [List.cons.injEq, and_true] at e2_3
  subst e2_3 g2_3
  have w2_0b : a2_0.size ≤ 140737488351232 := by have hb := sized_any hsz (j := 2) (t := 27) rfl rfl (n := a2_0.data.toList.length) (by simp [DataW.weights, Try.underlying27, DataW.weightsEach]); simp only [reachBytes, Array.length_toList] at hb; show a2_0.data.size ≤ _; omega
  have w2_3b : a2_3.size ≤ 140737488351232 := by have hb := sized_any hsz (j := 2) (t := 27) rfl rfl (n := a2_3.data.toList.length) (by simp [DataW.weights, Try.underlying27, DataW.weightsEach]); simp only [reachBytes, Array.length_toList] at hb; show a2_3.data.size ≤ _; omega
  clear hA0 hval0
  refine (zoneCompare_walk W a0_0 w0_0b a0_1 w0_1 a0_2 w0_2 a0_3 w0_3b a1_0 w1_0b a1_1 w1_1 a1_2 w1_2 a1_3 w1_3b a2_0 w2_0b a2_1 w2_1 a2_2 w2_2 a2_3 w2_3b).mono fun e W' ⟨he, bel⟩ => ?_
  subst he
  exact ⟨_, rfl, _, _, _, [], _, [], hW', trodAll_mk1 (shut_bool Try.underlying4 _), (trodAll_cons_mk (Below.trod laidOut (by kernel_rfl) (of_decide_eq_true (by kernel_rfl)) k0 bel lt0) (trodAll_cons_mk (Below.trod laidOut (by kernel_rfl) (of_decide_eq_true (by kernel_rfl)) k1 bel lt1) (trodAll_cons_mk (Below.trod laidOut (by kernel_rfl) (of_decide_eq_true (by kernel_rfl)) k2 bel lt2) trodAll_mk0))), rfl, bel.frame _, fun h => by cases h⟩

theorem over : Rows.zoneCompareRow.holds Try.pinned (OpenSpec.ofChange Rows.zoneCompareSpec) :=
  OpenClaim.holds_of_wide 3 Try.f3 rfl rfl rfl rfl rfl rfl rfl ⟨rfl, rfl, rfl, rfl, rfl⟩ rfl rfl rfl rfl rfl (by kernel_rfl) Try.func3 (by kernel_rfl)
    (of_decide_eq_true (by kernel_rfl)) (by unfold Func.isWrapper; first | (rw [if_pos (by decide +kernel)]; kernel_rfl) | (rw [if_neg (by decide +kernel)]; exact ⟨rfl, rfl⟩))
    (fun os started H enc _ => lifted os started H enc)

/-- The statement. -/
theorem proved : Rows.ZoneCompareSaid := over
#print axioms proved
end Go.Proofs.Ytoacmdjbmbdjdaa.zoneCompareDone
