/- The statement 'RankBetterSaid': RankBetter returns true for every input, and each argument reads afterwards as before. The step from the walk to the statement. -/
import Derived.Test.YtdekaaclheoapaaView
import Derived.Test.YtdekaaclheoapaaLawRankB
import Derived.Lib.SmallJoins
namespace Go.Proofs.Ytdekaaclheoapaa.rankBetterDone
open Go.ChangeShapes Go.WideShapes Go.ChangeAt Go.RowKit
open Go.ChangeMaps (open_string shut_string)
set_option linter.unusedVariables false

set_option maxRecDepth 100000 in
theorem lifted (os : Os) (started : os.Started) (H : Type) (enc : TypeId × Value → H) :
    ReturnsInHanded {} Try.checked os 9 .any (Rows.rankBetterSpec.pre6 enc Try.prog Try.f9 Rows.rankBetterRow.domain false) (Rows.rankBetterSpec.post enc Try.prog Try.f9 false true false false) := by
  refine returnsInHanded_of_change_sized (C := Try.checked) own started (by kernel_rfl) Try.func9
    (ChangeSpec.witness6 (enc := enc) (C := Try.checked) false ⟨#[], #[.int .u8 0, .agg #[.int .u8 0, .slice none 0 0, .bool false, .int .u8 0], .int .u8 0, .agg #[.int .u8 0, .slice none 0 0, .bool false, .int .u8 0]], []⟩ 8 (by kernel_rfl) (by kernel_rfl) (by kernel_rfl) (by kernel_rfl)) ?_
  intro W base args ds gs before hval0 hW hcnd hsz0 _
  have hsz : (DataW.weightsEach Try.prog (Try.f9.params.toList ++ Rows.rankBetterSpec.plain.varTypes Try.prog) (ds ++ gs)).all (· ≤ reachBytes) = true := hsz0
  have hval : ∀ (j : Nat) t v, Try.f9.params[j]? = some t → args[j]? = some v → Value.okWide Try.prog W .any base t v := hval0
  have hW' := hW
  obtain ⟨p, q, hA0, hV, rfl, hfz, hnd⟩ := hW
  have hA : DataW.TrodAll enc Try.prog W 0 (fun _ => true) true Try.f9.params.toList args.toList ds p := hA0
  rw [Try.params9] at hA hval hsz
  obtain ⟨v0, vs0, d0, ds0, p0, q0, hargs, rfl, rfl, h0, r0⟩ := trodAll_cons hA
  obtain ⟨v1, vs1, d1, ds1, p1, q1, rfl, rfl, rfl, h1, r1⟩ := trodAll_cons r0
  obtain ⟨v2, vs2, d2, ds2, p2, q2, rfl, rfl, rfl, h2, r2⟩ := trodAll_cons r1
  obtain ⟨v3, vs3, d3, ds3, p3, q3, rfl, rfl, rfl, h3, r3⟩ := trodAll_cons r2
  obtain ⟨rfl, rfl, rfl⟩ := trodAll_nil r3
  obtain rfl : args = #[v0, v1, v2, v3] := by cases args; simp_all
  obtain ⟨rfl, rfl⟩ := trodVars_none hV
  have k0 := h0
  have lt0 : ∀ x ∈ p0, x.block < W.heap.size := by obtain ⟨m, hm⟩ := k0; exact DataW.trod_lt m _ _ _ hm
  have k1 := h1
  have lt1 : ∀ x ∈ p1, x.block < W.heap.size := by obtain ⟨m, hm⟩ := k1; exact DataW.trod_lt m _ _ _ hm
  have k2 := h2
  have lt2 : ∀ x ∈ p2, x.block < W.heap.size := by obtain ⟨m, hm⟩ := k2; exact DataW.trod_lt m _ _ _ hm
  have k3 := h3
  have lt3 : ∀ x ∈ p3, x.block < W.heap.size := by obtain ⟨m, hm⟩ := k3; exact DataW.trod_lt m _ _ _ hm
  obtain ⟨a0, rfl, rfl, rfl, w0⟩ := open_int Try.underlying5 (hval 0 5 v0 rfl rfl) h0
  obtain ⟨u1_0, u1_1, u1_2, u1_3, y1_0, y1_1, y1_2, y1_3, nn1, rfl, rfl, rfl, t1_0, t1_1, t1_2, t1_3⟩ := Joins.open_agg4 Try.underlying60 (by kernel_rfl) (by kernel_rfl) (hval 1 60 v1 rfl rfl) h1
  obtain ⟨a1_0, e1_0, g1_0, w1_0⟩ := DataW.trod_int Try.underlying5 t1_0
  simp only [List.cons.injEq, and_true] at e1_0
  subst e1_0 g1_0
  obtain ⟨A1_1, n1_1, c1_1, z1_1, e1_1, S1_1, hl1_1, hz1_1, hd1_1⟩ := view_ints Try.underlying22 Try.underlying5 (by kernel_rfl) t1_1
  obtain rfl : u1_1 = .slice A1_1 n1_1 c1_1 := by simpa using e1_1
  obtain ⟨y1_1, p1_1⟩ := y1_1
  simp only at hd1_1
  obtain ⟨a1_2, e1_2, g1_2⟩ := DataW.trod_bool Try.underlying4 t1_2
  simp only [List.cons.injEq, and_true] at e1_2
  subst e1_2 g1_2
  obtain ⟨a1_3, e1_3, g1_3, w1_3⟩ := DataW.trod_int Try.underlying5 t1_3
  simp only [List.cons.injEq, and_true] at e1_3
  subst e1_3 g1_3
  have B1_1 : c1_1 ≤ 140737488351232 := by
    have hle := S1_1.le
    rcases hd1_1 with ⟨_, _, h0⟩ | ⟨sp, rfl, hsp⟩
    · omega
    · have hb := sized_any hsz (j := 1) (t := 60) rfl rfl (n := ((z1_1.map fun z => DataW.lit (H := H) (.int .u8 z)).length + sp.length) * Try.prog.bytesOf 5) (by simp [DataW.weights, Try.underlying60, Try.underlying22, DataW.weightsEach])
      rw [show Try.prog.bytesOf 5 = 1 by kernel_rfl] at hb
      simp only [reachBytes, List.length_map, hl1_1, hsp] at hb
      omega
  obtain ⟨a2, rfl, rfl, rfl, w2⟩ := open_int Try.underlying5 (hval 2 5 v2 rfl rfl) h2
  obtain ⟨u3_0, u3_1, u3_2, u3_3, y3_0, y3_1, y3_2, y3_3, nn3, rfl, rfl, rfl, t3_0, t3_1, t3_2, t3_3⟩ := Joins.open_agg4 Try.underlying60 (by kernel_rfl) (by kernel_rfl) (hval 3 60 v3 rfl rfl) h3
  obtain ⟨a3_0, e3_0, g3_0, w3_0⟩ := DataW.trod_int Try.underlying5 t3_0
  simp only [List.cons.injEq, and_true] at e3_0
  subst e3_0 g3_0
  obtain ⟨A3_1, n3_1, c3_1, z3_1, e3_1, S3_1, hl3_1, hz3_1, hd3_1⟩ := view_ints Try.underlying22 Try.underlying5 (by kernel_rfl) t3_1
  obtain rfl : u3_1 = .slice A3_1 n3_1 c3_1 := by simpa using e3_1
  obtain ⟨y3_1, p3_1⟩ := y3_1
  simp only at hd3_1
  obtain ⟨a3_2, e3_2, g3_2⟩ := DataW.trod_bool Try.underlying4 t3_2
  simp only [List.cons.injEq, and_true] at e3_2
  subst e3_2 g3_2
  obtain ⟨a3_3, e3_3, g3_3, w3_3⟩ := DataW.trod_int Try.underlying5 t3_3
  simp only [List.cons.injEq, and_true] at e3_3
  subst e3_3 g3_3
  have B3_1 : c3_1 ≤ 140737488351232 := by
    have hle := S3_1.le
    rcases hd3_1 with ⟨_, _, h0⟩ | ⟨sp, rfl, hsp⟩
    · omega
    · have hb := sized_any hsz (j := 3) (t := 60) rfl rfl (n := ((z3_1.map fun z => DataW.lit (H := H) (.int .u8 z)).length + sp.length) * Try.prog.bytesOf 5) (by simp [DataW.weights, Try.underlying60, Try.underlying22, DataW.weightsEach])
      rw [show Try.prog.bytesOf 5 = 1 by kernel_rfl] at hb
      simp only [reachBytes, List.length_map, hl3_1, hsp] at hb
      omega
  clear hA0 hval0
  refine (rankBetter_walk W a0 w0 a1_0 w1_0 A1_1 n1_1 c1_1 z1_1 S1_1 hl1_1 hz1_1 B1_1 a1_2 a1_3 w1_3 a2 w2 a3_0 w3_0 A3_1 n3_1 c3_1 z3_1 S3_1 hl3_1 hz3_1 B3_1 a3_2 a3_3 w3_3).mono fun e W' ⟨he, bel⟩ => ?_
  subst he
  exact ⟨_, rfl, _, _, _, [], _, [], hW', trodAll_mk1 (shut_bool Try.underlying4 _), (trodAll_cons_mk (Below.trod laidOut (by kernel_rfl) (of_decide_eq_true (by kernel_rfl)) k0 bel lt0) (trodAll_cons_mk (Below.trod laidOut (by kernel_rfl) (of_decide_eq_true (by kernel_rfl)) k1 bel lt1) (trodAll_cons_mk (Below.trod laidOut (by kernel_rfl) (of_decide_eq_true (by kernel_rfl)) k2 bel lt2) (trodAll_cons_mk (Below.trod laidOut (by kernel_rfl) (of_decide_eq_true (by kernel_rfl)) k3 bel lt3) trodAll_mk0)))), rfl, bel.frame _, fun h => by cases h⟩

theorem over : Rows.rankBetterRow.holds Try.pinned (OpenSpec.ofChange Rows.rankBetterSpec) :=
  OpenClaim.holds_of_wide 9 Try.f9 rfl rfl rfl rfl rfl rfl rfl ⟨rfl, rfl, rfl, rfl, rfl⟩ rfl rfl rfl rfl rfl (by kernel_rfl) Try.func9 (by kernel_rfl)
    (of_decide_eq_true (by kernel_rfl)) (by unfold Func.isWrapper; first | (rw [if_pos (by decide +kernel)]; kernel_rfl) | (rw [if_neg (by decide +kernel)]; exact ⟨rfl, rfl⟩))
    (fun os started H enc _ => lifted os started H enc)

/-- The statement. -/
theorem proved : Rows.RankBetterSaid := over
#print axioms proved
end Go.Proofs.Ytdekaaclheoapaa.rankBetterDone
