/- The statement 'ReplyOfSaid': ReplyOf returns true for every input, and each argument reads afterwards as before. The step from the walk to the statement. -/
import Derived.Test.YtbjbppnjheaecaaView
import Derived.Test.YtbjbppnjheaecaaLawRepO
import Derived.Lib.SmallJoins
import Derived.Test.YtbjbppnjheaecaaRepR
import Derived.Test.YtbjbppnjheaecaaViewA
import Derived.Test.YtbjbppnjheaecaaViewR
namespace Go.Proofs.Ytbjbppnjheaecaa.replyOfDone
open Go.ChangeShapes Go.WideShapes Go.ChangeAt Go.RowKit
open Go.ChangeMaps (open_string shut_string)
set_option linter.unusedVariables false

set_option maxRecDepth 100000 in
theorem lifted (os : Os) (started : os.Started) (H : Type) (enc : TypeId × Value → H) :
    ReturnsInHanded {} Try.checked os 5 .any (Rows.replyOfSpec.pre6 enc Try.prog Try.f5 Rows.replyOfRow.domain false) (Rows.replyOfSpec.post enc Try.prog Try.f5 false true false false) := by
  refine returnsInHanded_of_change_sized (C := Try.checked) own started (by kernel_rfl) Try.func5
    (ChangeSpec.witness6 (enc := enc) (C := Try.checked) false ⟨#[], #[.agg #[.int .u16 0, .bool false, .int .i64 0, .bool false, .bool false, .bool false, .bool false, .int .i64 0, .string ByteArray.empty, .int .u16 0, .slice none 0 0, .slice none 0 0, .slice none 0 0, .int .i64 0], .agg #[.int .u16 0, .bool false, .int .i64 0, .bool false, .bool false, .bool false, .bool false, .int .i64 0, .string ByteArray.empty, .int .u16 0, .slice none 0 0, .slice none 0 0, .slice none 0 0, .int .i64 0], .agg #[.int .u8 0, .int .u8 0, .slice none 0 0, .slice none 0 0], .slice none 0 0, .bool false], []⟩ 8 (by kernel_rfl) (by kernel_rfl) (by kernel_rfl) (by kernel_rfl)) ?_
  intro W base args ds gs before hval0 hW hcnd hsz0 _
  have hsz : (DataW.weightsEach Try.prog (Try.f5.params.toList ++ Rows.replyOfSpec.plain.varTypes Try.prog) (ds ++ gs)).all (· ≤ reachBytes) = true := hsz0
  have hval : ∀ (j : Nat) t v, Try.f5.params[j]? = some t → args[j]? = some v → Value.okWide Try.prog W .any base t v := hval0
  have hW' := hW
  obtain ⟨p, q, hA0, hV, rfl, hfz, hnd⟩ := hW
  have hA : DataW.TrodAll enc Try.prog W 0 (fun _ => true) true Try.f5.params.toList args.toList ds p := hA0
  rw [Try.params5] at hA hval hsz
  obtain ⟨v0, vs0, d0, ds0, p0, q0, hargs, rfl, rfl, h0, r0⟩ := trodAll_cons hA
  obtain ⟨v1, vs1, d1, ds1, p1, q1, rfl, rfl, rfl, h1, r1⟩ := trodAll_cons r0
  obtain ⟨v2, vs2, d2, ds2, p2, q2, rfl, rfl, rfl, h2, r2⟩ := trodAll_cons r1
  obtain ⟨v3, vs3, d3, ds3, p3, q3, rfl, rfl, rfl, h3, r3⟩ := trodAll_cons r2
  obtain ⟨v4, vs4, d4, ds4, p4, q4, rfl, rfl, rfl, h4, r4⟩ := trodAll_cons r3
  obtain ⟨rfl, rfl, rfl⟩ := trodAll_nil r4
  obtain rfl : args = #[v0, v1, v2, v3, v4] := by cases args; simp_all
  obtain ⟨rfl, rfl⟩ := trodVars_none hV
  have k0 := h0
  have lt0 : ∀ x ∈ p0, x.block < W.heap.size := by obtain ⟨m, hm⟩ := k0; exact DataW.trod_lt m _ _ _ hm
  have k1 := h1
  have lt1 : ∀ x ∈ p1, x.block < W.heap.size := by obtain ⟨m, hm⟩ := k1; exact DataW.trod_lt m _ _ _ hm
  have k2 := h2
  have lt2 : ∀ x ∈ p2, x.block < W.heap.size := by obtain ⟨m, hm⟩ := k2; exact DataW.trod_lt m _ _ _ hm
  have k3 := h3
  have lt3 : ∀ x ∈ p3, x.block < W.heap.size := by obtain ⟨m, hm⟩ := k3; exact DataW.trod_lt m _ _ _ hm
  have k4 := h4
  have lt4 : ∀ x ∈ p4, x.block < W.heap.size := by obtain ⟨m, hm⟩ := k4; exact DataW.trod_lt m _ _ _ hm
  obtain ⟨m0, rfl, M0, x0, y0, z0⟩ := open_msg (te := 29) (e := 44) Try.underlying31 (by kernel_rfl) (by kernel_rfl) Try.underlying24 (by kernel_rfl) Try.underlying22 Try.underlying4 Try.underlying3 Try.underlying4 Try.underlying4 Try.underlying4 Try.underlying4 Try.underlying3 Try.underlying28 (by kernel_rfl) Try.underlying25 Try.underlying26 rfl rfl rfl Try.underlying3 Try.underlying29 Try.underlying44 (by kernel_rfl) (by kernel_rfl) Try.underlying25 Try.underlying26 Try.underlying42 Try.underlying9 (hval 0 31 v0 rfl rfl) h0
  have B0x : m0.c1 ≤ 3518437208780 := by
    rcases x0 with h0 | h0
    · rw [h0]; exact Nat.zero_le _
    · have hb := sized_any hsz (j := 0) (t := 31) rfl rfl h0
      rw [show Try.prog.bytesOf 44 = 40 by kernel_rfl] at hb
      simp only [reachBytes] at hb
      omega
  have B0y : m0.c2 ≤ 3518437208780 := by
    rcases y0 with h0 | h0
    · rw [h0]; exact Nat.zero_le _
    · have hb := sized_any hsz (j := 0) (t := 31) rfl rfl h0
      rw [show Try.prog.bytesOf 44 = 40 by kernel_rfl] at hb
      simp only [reachBytes] at hb
      omega
  have B0z : m0.c3 ≤ 3518437208780 := by
    rcases z0 with h0 | h0
    · rw [h0]; exact Nat.zero_le _
    · have hb := sized_any hsz (j := 0) (t := 31) rfl rfl h0
      rw [show Try.prog.bytesOf 44 = 40 by kernel_rfl] at hb
      simp only [reachBytes] at hb
      omega
  have B0q : m0.qn.size ≤ 140737488351232 := by have hb := sized_any hsz (j := 0) (t := 31) rfl rfl (n := m0.qn.data.toList.length) (msg_qn Try.underlying31 (by kernel_rfl) Try.underlying28 (by kernel_rfl) Try.underlying25 h0); simp only [reachBytes, Array.length_toList] at hb; show m0.qn.data.size ≤ _; omega
  obtain ⟨m1, rfl, M1, x1, y1, z1⟩ := open_msg (te := 29) (e := 44) Try.underlying31 (by kernel_rfl) (by kernel_rfl) Try.underlying24 (by kernel_rfl) Try.underlying22 Try.underlying4 Try.underlying3 Try.underlying4 Try.underlying4 Try.underlying4 Try.underlying4 Try.underlying3 Try.underlying28 (by kernel_rfl) Try.underlying25 Try.underlying26 rfl rfl rfl Try.underlying3 Try.underlying29 Try.underlying44 (by kernel_rfl) (by kernel_rfl) Try.underlying25 Try.underlying26 Try.underlying42 Try.underlying9 (hval 1 31 v1 rfl rfl) h1
  have B1x : m1.c1 ≤ 3518437208780 := by
    rcases x1 with h0 | h0
    · rw [h0]; exact Nat.zero_le _
    · have hb := sized_any hsz (j := 1) (t := 31) rfl rfl h0
      rw [show Try.prog.bytesOf 44 = 40 by kernel_rfl] at hb
      simp only [reachBytes] at hb
      omega
  have B1y : m1.c2 ≤ 3518437208780 := by
    rcases y1 with h0 | h0
    · rw [h0]; exact Nat.zero_le _
    · have hb := sized_any hsz (j := 1) (t := 31) rfl rfl h0
      rw [show Try.prog.bytesOf 44 = 40 by kernel_rfl] at hb
      simp only [reachBytes] at hb
      omega
  have B1z : m1.c3 ≤ 3518437208780 := by
    rcases z1 with h0 | h0
    · rw [h0]; exact Nat.zero_le _
    · have hb := sized_any hsz (j := 1) (t := 31) rfl rfl h0
      rw [show Try.prog.bytesOf 44 = 40 by kernel_rfl] at hb
      simp only [reachBytes] at hb
      omega
  have B1q : m1.qn.size ≤ 140737488351232 := by have hb := sized_any hsz (j := 1) (t := 31) rfl rfl (n := m1.qn.data.toList.length) (msg_qn Try.underlying31 (by kernel_rfl) Try.underlying28 (by kernel_rfl) Try.underlying25 h1); simp only [reachBytes, Array.length_toList] at hb; show m1.qn.data.size ≤ _; omega
  obtain ⟨u2_0, u2_1, u2_2, u2_3, y2_0, y2_1, y2_2, y2_3, nn2, rfl, rfl, rfl, t2_0, t2_1, t2_2, t2_3⟩ := Joins.open_agg4 Try.underlying51 (by kernel_rfl) (by kernel_rfl) (hval 2 51 v2 rfl rfl) h2
  obtain ⟨a2_0, e2_0, g2_0, w2_0⟩ := DataW.trod_int Try.underlying5 t2_0
  simp only [List.cons.injEq, and_true] at e2_0
  subst e2_0 g2_0
  obtain ⟨a2_1, e2_1, g2_1, w2_1⟩ := DataW.trod_int Try.underlying5 t2_1
  simp only [List.cons.injEq, and_true] at e2_1
  subst e2_1 g2_1
  obtain ⟨A2_2, n2_2, c2_2, z2_2, e2_2, S2_2, hl2_2, hz2_2, hd2_2⟩ := view_ints Try.underlying49 Try.underlying5 (by kernel_rfl) t2_2
  obtain rfl : u2_2 = .slice A2_2 n2_2 c2_2 := by simpa using e2_2
  obtain ⟨y2_2, p2_2⟩ := y2_2
  simp only at hd2_2
  obtain ⟨A2_3, n2_3, c2_3, z2_3, el2_3, e2_3, S2_3, he2_3, hd2_3, hw2_3⟩ := view_acts5 Try.underlying37 Try.underlying92 (by kernel_rfl) (by kernel_rfl) Try.underlying49 Try.underlying5 (by kernel_rfl) (by kernel_rfl) Try.underlying5 Try.underlying42 Try.underlying49 Try.underlying5 (by kernel_rfl) (by kernel_rfl) Try.underlying9 t2_3
  obtain rfl : u2_3 = .slice A2_3 n2_3 c2_3 := by simpa using e2_3
  have B2_2 : c2_2 ≤ 140737488351232 := by
    have hle := S2_2.le
    rcases hd2_2 with ⟨_, _, h0⟩ | ⟨sp, rfl, hsp⟩
    · omega
    · have hb := sized_any hsz (j := 2) (t := 51) rfl rfl (n := ((z2_2.map fun z => DataW.lit (H := H) (.int .u8 z)).length + sp.length) * Try.prog.bytesOf 5) (by simp [DataW.weights, Try.underlying51, Try.underlying49, DataW.weightsEach])
      rw [show Try.prog.bytesOf 5 = 1 by kernel_rfl] at hb
      simp only [reachBytes, List.length_map, hl2_2, hsp] at hb
      omega
  obtain ⟨m3, f3⟩ := trod_cells h3 (okWide_slice Try.underlying49 (hval 3 49 v3 rfl rfl))
  obtain ⟨A3, n3, c3, z3, e3, S3, hl3, hz3, hd3⟩ := view_ints Try.underlying49 Try.underlying5 (by kernel_rfl) f3
  obtain rfl : v3 = .slice A3 n3 c3 := by simpa using e3
  have B3 : c3 ≤ 140737488351232 := by
    have hle := S3.le
    rcases hd3 with ⟨_, _, h0⟩ | ⟨sp, rfl, hsp⟩
    · omega
    · have hb := sized_slice hsz (j := 3) (t := 49) (e := 5) rfl rfl Try.underlying49
      rw [show Try.prog.bytesOf 5 = 1 by kernel_rfl] at hb
      simp only [reachBytes, List.length_map, hl3, hsp] at hb
      omega
  obtain ⟨a4, rfl, rfl, rfl⟩ := open_bool Try.underlying4 (hval 4 4 v4 rfl rfl) h4
  clear hA0 hval0
  refine (replyOf_walk W m0 M0 B0x B0y B0z B0q m1 M1 B1x B1y B1z B1q a2_0 w2_0 a2_1 w2_1 A2_2 n2_2 c2_2 z2_2 S2_2 hl2_2 hz2_2 B2_2 A2_3 n2_3 c2_3 z2_3 S2_3 A3 n3 c3 z3 S3 hl3 hz3 B3 a4).mono fun e W' ⟨he, bel⟩ => ?_
  subst he
  exact ⟨_, rfl, _, _, _, [], _, [], hW', trodAll_mk1 (shut_bool Try.underlying4 _), (trodAll_cons_mk (Below.trod laidOut (by kernel_rfl) (of_decide_eq_true (by kernel_rfl)) k0 bel lt0) (trodAll_cons_mk (Below.trod laidOut (by kernel_rfl) (of_decide_eq_true (by kernel_rfl)) k1 bel lt1) (trodAll_cons_mk (Below.trod laidOut (by kernel_rfl) (of_decide_eq_true (by kernel_rfl)) k2 bel lt2) (trodAll_cons_mk (Below.trod laidOut (by kernel_rfl) (of_decide_eq_true (by kernel_rfl)) k3 bel lt3) (trodAll_cons_mk (Below.trod laidOut (by kernel_rfl) (of_decide_eq_true (by kernel_rfl)) k4 bel lt4) trodAll_mk0))))), rfl, bel.frame _, fun h => by cases h⟩

theorem over : Rows.replyOfRow.holds Try.pinned (OpenSpec.ofChange Rows.replyOfSpec) :=
  OpenClaim.holds_of_wide 5 Try.f5 rfl rfl rfl rfl rfl rfl rfl ⟨rfl, rfl, rfl, rfl, rfl⟩ rfl rfl rfl rfl rfl (by kernel_rfl) Try.func5 (by kernel_rfl)
    (of_decide_eq_true (by kernel_rfl)) (by unfold Func.isWrapper; first | (rw [if_pos (by decide +kernel)]; kernel_rfl) | (rw [if_neg (by decide +kernel)]; exact ⟨rfl, rfl⟩))
    (fun os started H enc _ => lifted os started H enc)

/-- The statement. -/
theorem proved : Rows.ReplyOfSaid := over
#print axioms proved
end Go.Proofs.Ytbjbppnjheaecaa.replyOfDone
