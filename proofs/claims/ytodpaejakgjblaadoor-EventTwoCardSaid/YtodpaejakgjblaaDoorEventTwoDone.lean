/- The statement 'EventTwoCardSaid': EventTwo returns true for every input, and each argument reads afterwards as before. The step from the walk to the statement. -/
import Derived.Test.YtodpaejakgjblaaDoorView
import Derived.Test.YtodpaejakgjblaaDoorMgEventTwo
import Derived.Handed
import Derived.Lib.SmallJoins
import Derived.SevenTiedAt
import Derived.Test.YtodpaejakgjblaaDoorCard
import Derived.Test.YtodpaejakgjblaaDoorCards
import Derived.Test.YtodpaejakgjblaaDoorLaidO
import Derived.Test.YtodpaejakgjblaaDoorTie
import Derived.Test.YtodpaejakgjblaaDoorViewE
namespace Go.Proofs.YtodpaejakgjblaaDoor.eventTwoDone
open Go.ChangeShapes Go.WideShapes Go.ChangeAt Go.RowKit
open Go.ChangeMaps (open_string shut_string)
set_option linter.unusedVariables false

set_option maxRecDepth 100000 in
theorem lifted (os : Os) (started : os.Started) (H : Type) (enc : TypeId × Value → H) :
    ReturnsInHanded {} Tryd.checked os 13 .any (fun w args => (Rows.eventTwoSpec.pre enc Tryd.prog Tryd.f13 [] false w args ∧ laidMetH Tryd.prog [("math/bits.deBruijn32tab", Rows.laid_math_bits_deBruijn32tab), ("math/bits.deBruijn64tab", Rows.laid_math_bits_deBruijn64tab), ("internal/strconv.uint64pow10", Rows.laid_internal_strconv_uint64pow10), ("strconv.ErrRange", Rows.laid_strconv_ErrRange), ("strconv.ErrSyntax", Rows.laid_strconv_ErrSyntax)] w) ∧ sizedMet enc Tryd.prog Tryd.f13 (OpenSpec.ofChange Rows.eventTwoSpec) false w args) (Rows.eventTwoSpec.post enc Tryd.prog Tryd.f13 false true false false) := by
  refine returns_change_and (C := Tryd.checked) (X := fun w _ => laidMetH Tryd.prog [("math/bits.deBruijn32tab", Rows.laid_math_bits_deBruijn32tab), ("math/bits.deBruijn64tab", Rows.laid_math_bits_deBruijn64tab), ("internal/strconv.uint64pow10", Rows.laid_internal_strconv_uint64pow10), ("strconv.ErrRange", Rows.laid_strconv_ErrRange), ("strconv.ErrSyntax", Rows.laid_strconv_ErrSyntax)] w) (fun _ _ _ hh h => h.of_heap hh) own started (by kernel_rfl) Tryd.func13
    (ChangeSpec.witness_shaped (enc := enc) (C := Tryd.checked) (os := os) (X := fun w _ => laidMetH Tryd.prog [("math/bits.deBruijn32tab", Rows.laid_math_bits_deBruijn32tab), ("math/bits.deBruijn64tab", Rows.laid_math_bits_deBruijn64tab), ("internal/strconv.uint64pow10", Rows.laid_internal_strconv_uint64pow10), ("strconv.ErrRange", Rows.laid_strconv_ErrRange), ("strconv.ErrSyntax", Rows.laid_strconv_ErrSyntax)] w) false (World.laidAll Tryd.prog os [("math/bits.deBruijn32tab", Rows.laid_math_bits_deBruijn32tab), ("math/bits.deBruijn64tab", Rows.laid_math_bits_deBruijn64tab), ("internal/strconv.uint64pow10", Rows.laid_internal_strconv_uint64pow10), ("strconv.ErrRange", Rows.laid_strconv_ErrRange), ("strconv.ErrSyntax", Rows.laid_strconv_ErrSyntax)]) #[.agg #[.int .i64 0, .string ByteArray.empty, .string ByteArray.empty, .int .u16 0, .int .i64 0, .int .i64 0, .string ByteArray.empty, .string ByteArray.empty, .int .i64 0, .int .i64 0], .agg #[.int .i64 0, .string ByteArray.empty, .string ByteArray.empty, .int .u16 0, .int .i64 0, .int .i64 0, .string ByteArray.empty, .string ByteArray.empty, .int .i64 0, .int .i64 0], .agg #[.int .u32 0, .slice none 0 0, .slice none 0 0, .int .u16 0, .int .u8 0, .int .u8 0, .slice none 0 0, .bool false, .int .u8 0, .int .u8 0], .agg #[.int .u8 0, .slice none 0 0, .bool false, .int .u8 0]] 8 (World.laidAll_os _ _ _)
      (World.shaped_of_ZipB (by kernel_rfl) (by kernel_rfl)) (by kernel_rfl) (by kernel_rfl) (by kernel_rfl)
      (by rw [MakeChecks.laidMetH_plain _ _ _ (by kernel_rfl)]; exact laidMet_laidAll _ (by kernel_rfl) (by kernel_rfl))) ?_
  intro W base args ds gs before hval0 hW hcnd hsz0 hL hshape _
  have hLT : LaidT W := laidT_of_met hL
  have hsz : (DataW.weightsEach Tryd.prog (Tryd.f13.params.toList ++ Rows.eventTwoSpec.plain.varTypes Tryd.prog) (ds ++ gs)).all (· ≤ reachBytes) = true := hsz0
  have hval : ∀ (j : Nat) t v, Tryd.f13.params[j]? = some t → args[j]? = some v → Value.okWide Tryd.prog W .any base t v := hval0
  have hW' := hW
  obtain ⟨p, q, hA0, hV, rfl, hfz, hnd⟩ := hW
  have hA : DataW.TrodAll enc Tryd.prog W 0 (fun _ => true) true Tryd.f13.params.toList args.toList ds p := hA0
  rw [Tryd.params13] at hA hval hsz
  obtain ⟨v0, vs0, d0, ds0, p0, q0, hargs, rfl, rfl, h0, r0⟩ := trodAll_cons hA
  obtain ⟨v1, vs1, d1, ds1, p1, q1, rfl, rfl, rfl, h1, r1⟩ := trodAll_cons r0
  obtain ⟨v2, vs2, d2, ds2, p2, q2, rfl, rfl, rfl, h2, r2⟩ := trodAll_cons r1
  obtain ⟨v3, vs3, d3, ds3, p3, q3, rfl, rfl, rfl, h3, r3⟩ := trodAll_cons r2
  obtain ⟨rfl, rfl, rfl⟩ := trodAll_nil r3
  obtain rfl : args = #[v0, v1, v2, v3] := by cases args; simp_all
  obtain ⟨rfl, rfl⟩ := trodVars_none hV
  have k0 := h0
  have lt0 : ∀ x ∈ p0, x.block < W.heap.size := by obtain ⟨m, hm⟩ := k0; exact DataW.trod_lt m _ _ _ hm
  have k1 := h1
  have lt1 : ∀ x ∈ p1, x.block < W.heap.size := by obtain ⟨m, hm⟩ := k1; exact DataW.trod_lt m _ _ _ hm
  have k2 := h2
  have lt2 : ∀ x ∈ p2, x.block < W.heap.size := by obtain ⟨m, hm⟩ := k2; exact DataW.trod_lt m _ _ _ hm
  have k3 := h3
  have lt3 : ∀ x ∈ p3, x.block < W.heap.size := by obtain ⟨m, hm⟩ := k3; exact DataW.trod_lt m _ _ _ hm
  obtain ⟨u0_0, u0_1, u0_2, u0_3, u0_4, u0_5_0, u0_5_1, u0_5_2, u0_5_3, u0_6, y0_0, y0_1, y0_2, y0_3, y0_4, y0_5, y0_6, nn0, rfl, rfl, rfl, t0_0, t0_1, t0_2, t0_3, t0_4, t0_5, t0_6⟩ := open_seven Tryd.underlying68 (by kernel_rfl) (by kernel_rfl) (hval 0 68 v0 rfl rfl) h0
  obtain ⟨a0_0, e0_0, g0_0, w0_0⟩ := DataW.trod_int Tryd.underlying3 t0_0
  simp only [List.cons.injEq, and_true] at e0_0
  subst e0_0 g0_0
  obtain ⟨a0_1, e0_1, g0_1, w0_1⟩ := DataW.trod_string Tryd.underlying9 t0_1
  simp only [List.cons.injEq, and_true] at e0_1
  subst e0_1 g0_1
  obtain ⟨a0_2, e0_2, g0_2, w0_2⟩ := DataW.trod_string Tryd.underlying27 t0_2
  simp only [List.cons.injEq, and_true] at e0_2
  subst e0_2 g0_2
  obtain ⟨a0_3, e0_3, g0_3, w0_3⟩ := DataW.trod_int Tryd.underlying65 t0_3
  simp only [List.cons.injEq, and_true] at e0_3
  subst e0_3 g0_3
  obtain ⟨a0_4, e0_4, g0_4, w0_4⟩ := DataW.trod_int Tryd.underlying3 t0_4
  simp only [List.cons.injEq, and_true] at e0_4
  subst e0_4 g0_4
  obtain ⟨k0_5, s0_5, a0_5, x0_5, ⟨rfl, rfl, rfl, rfl⟩, g0_5, w0_5k, w0_5x⟩ := trig_cells Tryd.underlying29 (by kernel_rfl) Tryd.underlying26 Tryd.underlying27 Tryd.underlying24 (by kernel_rfl) Tryd.underlying9 Tryd.underlying3 t0_5
  subst g0_5
  obtain ⟨a0_6, e0_6, g0_6, w0_6⟩ := DataW.trod_int Tryd.underlying66 t0_6
  simp only [List.cons.injEq, and_true] at e0_6
  subst e0_6 g0_6
  have w0_1b : a0_1.size ≤ 140737488351232 := by have hb := sized_any hsz (j := 0) (t := 68) rfl rfl (n := a0_1.data.toList.length) (by simp [DataW.weights, Tryd.underlying68, Tryd.underlying29, Tryd.underlying24, DataW.weightsEach]); simp only [reachBytes, Array.length_toList] at hb; show a0_1.data.size ≤ _; omega
  have w0_2b : a0_2.size ≤ 140737488351232 := by have hb := sized_any hsz (j := 0) (t := 68) rfl rfl (n := a0_2.data.toList.length) (by simp [DataW.weights, Tryd.underlying68, Tryd.underlying29, Tryd.underlying24, DataW.weightsEach]); simp only [reachBytes, Array.length_toList] at hb; show a0_2.data.size ≤ _; omega
  have s0_5b : s0_5.size ≤ 140737488351232 := by have hb := sized_any hsz (j := 0) (t := 68) rfl rfl (n := s0_5.data.toList.length) (by simp [DataW.weights, Tryd.underlying68, Tryd.underlying29, Tryd.underlying24, DataW.weightsEach]); simp only [reachBytes, Array.length_toList] at hb; show s0_5.data.size ≤ _; omega
  have a0_5b : a0_5.size ≤ 140737488351232 := by have hb := sized_any hsz (j := 0) (t := 68) rfl rfl (n := a0_5.data.toList.length) (by simp [DataW.weights, Tryd.underlying68, Tryd.underlying29, Tryd.underlying24, DataW.weightsEach]); simp only [reachBytes, Array.length_toList] at hb; show a0_5.data.size ≤ _; omega
  obtain ⟨u1_0, u1_1, u1_2, u1_3, u1_4, u1_5_0, u1_5_1, u1_5_2, u1_5_3, u1_6, y1_0, y1_1, y1_2, y1_3, y1_4, y1_5, y1_6, nn1, rfl, rfl, rfl, t1_0, t1_1, t1_2, t1_3, t1_4, t1_5, t1_6⟩ := open_seven Tryd.underlying68 (by kernel_rfl) (by kernel_rfl) (hval 1 68 v1 rfl rfl) h1
  obtain ⟨a1_0, e1_0, g1_0, w1_0⟩ := DataW.trod_int Tryd.underlying3 t1_0
  simp only [List.cons.injEq, and_true] at e1_0
  subst e1_0 g1_0
  obtain ⟨a1_1, e1_1, g1_1, w1_1⟩ := DataW.trod_string Tryd.underlying9 t1_1
  simp only [List.cons.injEq, and_true] at e1_1
  subst e1_1 g1_1
  obtain ⟨a1_2, e1_2, g1_2, w1_2⟩ := DataW.trod_string Tryd.underlying27 t1_2
  simp only [List.cons.injEq, and_true] at e1_2
  subst e1_2 g1_2
  obtain ⟨a1_3, e1_3, g1_3, w1_3⟩ := DataW.trod_int Tryd.underlying65 t1_3
  simp only [List.cons.injEq, and_true] at e1_3
  subst e1_3 g1_3
  obtain ⟨a1_4, e1_4, g1_4, w1_4⟩ := DataW.trod_int Tryd.underlying3 t1_4
  simp only [List.cons.injEq, and_true] at e1_4
  subst e1_4 g1_4
  obtain ⟨k1_5, s1_5, a1_5, x1_5, ⟨rfl, rfl, rfl, rfl⟩, g1_5, w1_5k, w1_5x⟩ := trig_cells Tryd.underlying29 (by kernel_rfl) Tryd.underlying26 Tryd.underlying27 Tryd.underlying24 (by kernel_rfl) Tryd.underlying9 Tryd.underlying3 t1_5
  subst g1_5
  obtain ⟨a1_6, e1_6, g1_6, w1_6⟩ := DataW.trod_int Tryd.underlying66 t1_6
  simp only [List.cons.injEq, and_true] at e1_6
  subst e1_6 g1_6
  have w1_1b : a1_1.size ≤ 140737488351232 := by have hb := sized_any hsz (j := 1) (t := 68) rfl rfl (n := a1_1.data.toList.length) (by simp [DataW.weights, Tryd.underlying68, Tryd.underlying29, Tryd.underlying24, DataW.weightsEach]); simp only [reachBytes, Array.length_toList] at hb; show a1_1.data.size ≤ _; omega
  have w1_2b : a1_2.size ≤ 140737488351232 := by have hb := sized_any hsz (j := 1) (t := 68) rfl rfl (n := a1_2.data.toList.length) (by simp [DataW.weights, Tryd.underlying68, Tryd.underlying29, Tryd.underlying24, DataW.weightsEach]); simp only [reachBytes, Array.length_toList] at hb; show a1_2.data.size ≤ _; omega
  have s1_5b : s1_5.size ≤ 140737488351232 := by have hb := sized_any hsz (j := 1) (t := 68) rfl rfl (n := s1_5.data.toList.length) (by simp [DataW.weights, Tryd.underlying68, Tryd.underlying29, Tryd.underlying24, DataW.weightsEach]); simp only [reachBytes, Array.length_toList] at hb; show s1_5.data.size ≤ _; omega
  have a1_5b : a1_5.size ≤ 140737488351232 := by have hb := sized_any hsz (j := 1) (t := 68) rfl rfl (n := a1_5.data.toList.length) (by simp [DataW.weights, Tryd.underlying68, Tryd.underlying29, Tryd.underlying24, DataW.weightsEach]); simp only [reachBytes, Array.length_toList] at hb; show a1_5.data.size ≤ _; omega
  obtain ⟨u2_0, u2_1, u2_2, u2_3, u2_4, u2_5_0, u2_5_1, u2_5_2, u2_5_3, u2_6, y2_0, y2_1, y2_2, y2_3, y2_4, y2_5, y2_6, nn2, rfl, rfl, rfl, t2_0, t2_1, t2_2, t2_3, t2_4, t2_5, t2_6⟩ := open_seven Tryd.underlying64 (by kernel_rfl) (by kernel_rfl) (hval 2 64 v2 rfl rfl) h2
  obtain ⟨a2_0, e2_0, g2_0, w2_0⟩ := DataW.trod_int Tryd.underlying61 t2_0
  simp only [List.cons.injEq, and_true] at e2_0
  subst e2_0 g2_0
  obtain ⟨A2_1, n2_1, c2_1, z2_1, e2_1, S2_1, hl2_1, hz2_1, hd2_1⟩ := view_ints Tryd.underlying22 Tryd.underlying5 (by kernel_rfl) t2_1
  obtain rfl : u2_1 = .slice A2_1 n2_1 c2_1 := by simpa using e2_1
  obtain ⟨y2_1, p2_1⟩ := y2_1
  simp only at hd2_1
  obtain ⟨A2_2, n2_2, c2_2, z2_2, e2_2, S2_2, hl2_2, hz2_2, hd2_2⟩ := view_ints Tryd.underlying22 Tryd.underlying5 (by kernel_rfl) t2_2
  obtain rfl : u2_2 = .slice A2_2 n2_2 c2_2 := by simpa using e2_2
  obtain ⟨y2_2, p2_2⟩ := y2_2
  simp only at hd2_2
  obtain ⟨a2_3, e2_3, g2_3, w2_3⟩ := DataW.trod_int Tryd.underlying62 t2_3
  simp only [List.cons.injEq, and_true] at e2_3
  subst e2_3 g2_3
  obtain ⟨a2_4, e2_4, g2_4, w2_4⟩ := DataW.trod_int Tryd.underlying5 t2_4
  simp only [List.cons.injEq, and_true] at e2_4
  subst e2_4 g2_4
  obtain ⟨y2_5_0, y2_5_1, y2_5_2, y2_5_3, mm2, rfl, t2_5_0, t2_5_1, t2_5_2, t2_5_3⟩ := four_cells Tryd.underlying55 (by kernel_rfl) t2_5
  obtain ⟨a2_5_0, e2_5_0, g2_5_0, w2_5_0⟩ := DataW.trod_int Tryd.underlying5 t2_5_0
  simp only [List.cons.injEq, and_true] at e2_5_0
  subst e2_5_0 g2_5_0
  obtain ⟨A2_5_1, n2_5_1, c2_5_1, z2_5_1, e2_5_1, S2_5_1, hl2_5_1, hz2_5_1, hd2_5_1⟩ := view_ints Tryd.underlying22 Tryd.underlying5 (by kernel_rfl) t2_5_1
  obtain rfl : u2_5_1 = .slice A2_5_1 n2_5_1 c2_5_1 := by simpa using e2_5_1
  obtain ⟨y2_5_1, p2_5_1⟩ := y2_5_1
  simp only at hd2_5_1
  obtain ⟨a2_5_2, e2_5_2, g2_5_2⟩ := DataW.trod_bool Tryd.underlying4 t2_5_2
  simp only [List.cons.injEq, and_true] at e2_5_2
  subst e2_5_2 g2_5_2
  obtain ⟨a2_5_3, e2_5_3, g2_5_3, w2_5_3⟩ := DataW.trod_int Tryd.underlying5 t2_5_3
  simp only [List.cons.injEq, and_true] at e2_5_3
  subst e2_5_3 g2_5_3
  obtain ⟨a2_6, e2_6, g2_6, w2_6⟩ := DataW.trod_int Tryd.underlying5 t2_6
  simp only [List.cons.injEq, and_true] at e2_6
  subst e2_6 g2_6
  have B2_1 : c2_1 ≤ 140737488351232 := by
    have hle := S2_1.le
    rcases hd2_1 with ⟨_, _, h0⟩ | ⟨sp, rfl, hsp⟩
    · omega
    · have hb := sized_any hsz (j := 2) (t := 64) rfl rfl (n := ((z2_1.map fun z => DataW.lit (H := H) (.int .u8 z)).length + sp.length) * Tryd.prog.bytesOf 5) (by simp [DataW.weights, Tryd.underlying64, Tryd.underlying55, Tryd.underlying22, DataW.weightsEach])
      rw [show Tryd.prog.bytesOf 5 = 1 by kernel_rfl] at hb
      simp only [reachBytes, List.length_map, hl2_1, hsp] at hb
      omega
  have B2_2 : c2_2 ≤ 140737488351232 := by
    have hle := S2_2.le
    rcases hd2_2 with ⟨_, _, h0⟩ | ⟨sp, rfl, hsp⟩
    · omega
    · have hb := sized_any hsz (j := 2) (t := 64) rfl rfl (n := ((z2_2.map fun z => DataW.lit (H := H) (.int .u8 z)).length + sp.length) * Tryd.prog.bytesOf 5) (by simp [DataW.weights, Tryd.underlying64, Tryd.underlying55, Tryd.underlying22, DataW.weightsEach])
      rw [show Tryd.prog.bytesOf 5 = 1 by kernel_rfl] at hb
      simp only [reachBytes, List.length_map, hl2_2, hsp] at hb
      omega
  have B2_5_1 : c2_5_1 ≤ 140737488351232 := by
    have hle := S2_5_1.le
    rcases hd2_5_1 with ⟨_, _, h0⟩ | ⟨sp, rfl, hsp⟩
    · omega
    · have hb := sized_any hsz (j := 2) (t := 64) rfl rfl (n := ((z2_5_1.map fun z => DataW.lit (H := H) (.int .u8 z)).length + sp.length) * Tryd.prog.bytesOf 5) (by simp [DataW.weights, Tryd.underlying64, Tryd.underlying55, Tryd.underlying22, DataW.weightsEach])
      rw [show Tryd.prog.bytesOf 5 = 1 by kernel_rfl] at hb
      simp only [reachBytes, List.length_map, hl2_5_1, hsp] at hb
      omega
  obtain ⟨u3_0, u3_1, u3_2, u3_3, y3_0, y3_1, y3_2, y3_3, nn3, rfl, rfl, rfl, t3_0, t3_1, t3_2, t3_3⟩ := Joins.open_agg4 Tryd.underlying55 (by kernel_rfl) (by kernel_rfl) (hval 3 55 v3 rfl rfl) h3
  obtain ⟨a3_0, e3_0, g3_0, w3_0⟩ := DataW.trod_int Tryd.underlying5 t3_0
  simp only [List.cons.injEq, and_true] at e3_0
  subst e3_0 g3_0
  obtain ⟨A3_1, n3_1, c3_1, z3_1, e3_1, S3_1, hl3_1, hz3_1, hd3_1⟩ := view_ints Tryd.underlying22 Tryd.underlying5 (by kernel_rfl) t3_1
  obtain rfl : u3_1 = .slice A3_1 n3_1 c3_1 := by simpa using e3_1
  obtain ⟨y3_1, p3_1⟩ := y3_1
  simp only at hd3_1
  obtain ⟨a3_2, e3_2, g3_2⟩ := DataW.trod_bool Tryd.underlying4 t3_2
  simp only [List.cons.injEq, and_true] at e3_2
  subst e3_2 g3_2
  obtain ⟨a3_3, e3_3, g3_3, w3_3⟩ := DataW.trod_int Tryd.underlying5 t3_3
  simp only [List.cons.injEq, and_true] at e3_3
  subst e3_3 g3_3
  have B3_1 : c3_1 ≤ 140737488351232 := by
    have hle := S3_1.le
    rcases hd3_1 with ⟨_, _, h0⟩ | ⟨sp, rfl, hsp⟩
    · omega
    · have hb := sized_any hsz (j := 3) (t := 55) rfl rfl (n := ((z3_1.map fun z => DataW.lit (H := H) (.int .u8 z)).length + sp.length) * Tryd.prog.bytesOf 5) (by simp [DataW.weights, Tryd.underlying55, Tryd.underlying22, DataW.weightsEach])
      rw [show Tryd.prog.bytesOf 5 = 1 by kernel_rfl] at hb
      simp only [reachBytes, List.length_map, hl3_1, hsp] at hb
      omega
  clear hA0 hval0
  refine (eventTwo_walk W hLT a0_0 w0_0 a0_1 w0_1b a0_2 w0_2b a0_3 w0_3 a0_4 w0_4 k0_5 w0_5k s0_5 s0_5b a0_5 a0_5b x0_5 w0_5x a0_6 w0_6 a1_0 w1_0 a1_1 w1_1b a1_2 w1_2b a1_3 w1_3 a1_4 w1_4 k1_5 w1_5k s1_5 s1_5b a1_5 a1_5b x1_5 w1_5x a1_6 w1_6 a2_0 w2_0 A2_1 n2_1 c2_1 z2_1 S2_1 hl2_1 hz2_1 B2_1 A2_2 n2_2 c2_2 z2_2 S2_2 hl2_2 hz2_2 B2_2 a2_3 w2_3 a2_4 w2_4 a2_5_0 w2_5_0 A2_5_1 n2_5_1 c2_5_1 z2_5_1 S2_5_1 hl2_5_1 hz2_5_1 B2_5_1 a2_5_2 a2_5_3 w2_5_3 a2_6 w2_6 a3_0 w3_0 A3_1 n3_1 c3_1 z3_1 S3_1 hl3_1 hz3_1 B3_1 a3_2 a3_3 w3_3).mono fun e W' ⟨he, bel⟩ => ?_
  subst he
  exact ⟨_, rfl, _, _, _, [], _, [], hW', trodAll_mk1 (shut_bool Tryd.underlying4 _), (trodAll_cons_mk (Below.trod laidOut (by kernel_rfl) (of_decide_eq_true (by kernel_rfl)) k0 bel lt0) (trodAll_cons_mk (Below.trod laidOut (by kernel_rfl) (of_decide_eq_true (by kernel_rfl)) k1 bel lt1) (trodAll_cons_mk (Below.trod laidOut (by kernel_rfl) (of_decide_eq_true (by kernel_rfl)) k2 bel lt2) (trodAll_cons_mk (Below.trod laidOut (by kernel_rfl) (of_decide_eq_true (by kernel_rfl)) k3 bel lt3) trodAll_mk0)))), rfl, bel.frame _, fun h => by cases h⟩

theorem over : Rows.eventTwoRow.holds Tryd.pinned (OpenSpec.ofChange Rows.eventTwoSpec) :=
  OpenClaim.holds_of_wide 13 Tryd.f13 rfl rfl rfl rfl rfl rfl rfl ⟨rfl, rfl, rfl, rfl, rfl⟩ rfl rfl rfl rfl rfl (by kernel_rfl) Tryd.func13 (by kernel_rfl)
    (of_decide_eq_true (by kernel_rfl)) (by unfold Func.isWrapper; first | (rw [if_pos (by decide +kernel)]; kernel_rfl) | (rw [if_neg (by decide +kernel)]; exact ⟨rfl, rfl⟩))
    (fun os started H enc _ => lifted os started H enc)

/-- The statement: the row's, closed by the given tie. -/
theorem proved : Rows.EventTwoCardSaid :=
  Claim7.holds_tied_plain_at .later [] [.data, .data, .data, .sentinel, .sentinel] true (true, "7ee72d13f5bb9d460ceb08dfd9dd9586a0a7e3b0b18b0041374a17a8bd44ee53") true
    over (fun _ h => by cases h) (by kernel_rfl) (fun _ h => by cases h) eventTwo_row_tie rfl ⟨rfl, rfl⟩ (by kernel_rfl) rfl
    (fun f fn hf hfn => by
      obtain rfl : f = 13 := Option.some.inj ((show Tryd.prog.funcNamed "bolter/bolterlaw25.EventTwo" = some 13 by kernel_rfl).symm.trans hf) |>.symm
      obtain rfl : fn = Tryd.f13 := (Option.some.inj (Tryd.func13.symm.trans hfn)).symm
      exact ⟨by kernel_rfl, fun j t ht => by
        rw [Tryd.params13] at ht
        have hm := Array.mem_of_getElem? ht
        simp at hm
        rcases hm with rfl | rfl | rfl
        · exact (show Tryd.prog.wantsStandIn 68 = false by kernel_rfl)
        · exact (show Tryd.prog.wantsStandIn 64 = false by kernel_rfl)
        · exact (show Tryd.prog.wantsStandIn 55 = false by kernel_rfl)⟩)
    (by kernel_rfl)
#print axioms proved
end Go.Proofs.YtodpaejakgjblaaDoor.eventTwoDone
