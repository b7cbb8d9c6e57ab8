/- The statement 'SearchMatchesCardSaid': SearchMatches returns true for every input, and each argument reads afterwards as before. The step from the walk to the statement. -/
import Derived.Test.YtkdknfedieeenaaDoorView
import Derived.Test.YtkdknfedieeenaaDoorMgSearchMatches
import Derived.Handed
import Derived.SevenTiedAt
import Derived.Test.YtkdknfedieeenaaDoorCard
import Derived.Test.YtkdknfedieeenaaDoorCards
import Derived.Test.YtkdknfedieeenaaDoorLaidO
import Derived.Test.YtkdknfedieeenaaDoorTie
import Derived.Test.YtkdknfedieeenaaDoorView5
import Derived.Test.YtkdknfedieeenaaDoorViewO
namespace Go.Proofs.YtkdknfedieeenaaDoor.searchMatchesDone
open Go.ChangeShapes Go.WideShapes Go.ChangeAt Go.RowKit
open Go.ChangeMaps (open_string shut_string)
set_option linter.unusedVariables false

set_option maxRecDepth 100000 in
theorem lifted (os : Os) (started : os.Started) (H : Type) (enc : TypeId × Value → H) :
    ReturnsInHanded {} Tryd.checked os 3 .any (fun w args => (Rows.searchMatchesSpec.pre enc Tryd.prog Tryd.f3 [] false w args ∧ laidMetH Tryd.prog [("math/bits.deBruijn32tab", Rows.laid_math_bits_deBruijn32tab), ("math/bits.deBruijn64tab", Rows.laid_math_bits_deBruijn64tab), ("internal/strconv.uint64pow10", Rows.laid_internal_strconv_uint64pow10), ("strconv.ErrRange", Rows.laid_strconv_ErrRange), ("strconv.ErrSyntax", Rows.laid_strconv_ErrSyntax)] w) ∧ sizedMet enc Tryd.prog Tryd.f3 (OpenSpec.ofChange Rows.searchMatchesSpec) false w args) (Rows.searchMatchesSpec.post enc Tryd.prog Tryd.f3 false true false false) := by
  refine returns_change_and (C := Tryd.checked) (X := fun w _ => laidMetH Tryd.prog [("math/bits.deBruijn32tab", Rows.laid_math_bits_deBruijn32tab), ("math/bits.deBruijn64tab", Rows.laid_math_bits_deBruijn64tab), ("internal/strconv.uint64pow10", Rows.laid_internal_strconv_uint64pow10), ("strconv.ErrRange", Rows.laid_strconv_ErrRange), ("strconv.ErrSyntax", Rows.laid_strconv_ErrSyntax)] w) (fun _ _ _ hh h => h.of_heap hh) own started (by kernel_rfl) Tryd.func3
    (ChangeSpec.witness_shaped (enc := enc) (C := Tryd.checked) (os := os) (X := fun w _ => laidMetH Tryd.prog [("math/bits.deBruijn32tab", Rows.laid_math_bits_deBruijn32tab), ("math/bits.deBruijn64tab", Rows.laid_math_bits_deBruijn64tab), ("internal/strconv.uint64pow10", Rows.laid_internal_strconv_uint64pow10), ("strconv.ErrRange", Rows.laid_strconv_ErrRange), ("strconv.ErrSyntax", Rows.laid_strconv_ErrSyntax)] w) false (World.laidAll Tryd.prog os [("math/bits.deBruijn32tab", Rows.laid_math_bits_deBruijn32tab), ("math/bits.deBruijn64tab", Rows.laid_math_bits_deBruijn64tab), ("internal/strconv.uint64pow10", Rows.laid_internal_strconv_uint64pow10), ("strconv.ErrRange", Rows.laid_strconv_ErrRange), ("strconv.ErrSyntax", Rows.laid_strconv_ErrSyntax)]) #[.agg #[.bool false, .slice none 0 0, .slice none 0 0, .slice none 0 0, .slice none 0 0, .slice none 0 0], .agg #[.int .u8 0, .slice none 0 0, .bool false, .int .u8 0, .int .u8 0], .agg #[.int .i64 0, .string ByteArray.empty, .string ByteArray.empty, .int .i64 0], .agg #[.string ByteArray.empty, .string ByteArray.empty, .slice none 0 0, .slice none 0 0, .slice none 0 0]] 8 (World.laidAll_os _ _ _)
      (World.shaped_of_ZipB (by kernel_rfl) (by kernel_rfl)) (by kernel_rfl) (by kernel_rfl) (by kernel_rfl)
      (by rw [MakeChecks.laidMetH_plain _ _ _ (by kernel_rfl)]; exact laidMet_laidAll _ (by kernel_rfl) (by kernel_rfl))) ?_
  intro W base args ds gs before hval0 hW hcnd hsz0 hL hshape _
  have hLT : LaidT W := laidT_of_met hL
  have hsz : (DataW.weightsEach Tryd.prog (Tryd.f3.params.toList ++ Rows.searchMatchesSpec.plain.varTypes Tryd.prog) (ds ++ gs)).all (· ≤ reachBytes) = true := hsz0
  have hval : ∀ (j : Nat) t v, Tryd.f3.params[j]? = some t → args[j]? = some v → Value.okWide Tryd.prog W .any base t v := hval0
  have hW' := hW
  obtain ⟨p, q, hA0, hV, rfl, hfz, hnd⟩ := hW
  have hA : DataW.TrodAll enc Tryd.prog W 0 (fun _ => true) true Tryd.f3.params.toList args.toList ds p := hA0
  rw [Tryd.params3] at hA hval hsz
  obtain ⟨v0, vs0, d0, ds0, p0, q0, hargs, rfl, rfl, h0, r0⟩ := trodAll_cons hA
  obtain ⟨v1, vs1, d1, ds1, p1, q1, rfl, rfl, rfl, h1, r1⟩ := trodAll_cons r0
  obtain ⟨v2, vs2, d2, ds2, p2, q2, rfl, rfl, rfl, h2, r2⟩ := trodAll_cons r1
  obtain ⟨v3, vs3, d3, ds3, p3, q3, rfl, rfl, rfl, h3, r3⟩ := trodAll_cons r2
  obtain ⟨rfl, rfl, rfl⟩ := trodAll_nil r3
  obtain rfl : args = #[v0, v1, v2, v3] := by cases args; simp_all
  obtain ⟨rfl, rfl⟩ := trodVars_none hV
  have k0 := h0
  have lt0 : ∀ x ∈ p0, x.block < W.heap.size := by obtain ⟨m, hm⟩ := k0; exact DataW.trod_lt m _ _ _ hm
  have k1 := h1
  have lt1 : ∀ x ∈ p1, x.block < W.heap.size := by obtain ⟨m, hm⟩ := k1; exact DataW.trod_lt m _ _ _ hm
  have k2 := h2
  have lt2 : ∀ x ∈ p2, x.block < W.heap.size := by obtain ⟨m, hm⟩ := k2; exact DataW.trod_lt m _ _ _ hm
  have k3 := h3
  have lt3 : ∀ x ∈ p3, x.block < W.heap.size := by obtain ⟨m, hm⟩ := k3; exact DataW.trod_lt m _ _ _ hm
  obtain ⟨u0_0, u0_1, u0_2, u0_3, u0_4, u0_5, y0_0, y0_1, y0_2, y0_3, y0_4, y0_5, nn0, rfl, rfl, rfl, t0_0, t0_1, t0_2, t0_3, t0_4, t0_5⟩ := open_agg6 Tryd.underlying25 (by kernel_rfl) (by kernel_rfl) (hval 0 25 v0 rfl rfl) h0
  obtain ⟨a0_0, e0_0, g0_0⟩ := DataW.trod_bool Tryd.underlying4 t0_0
  simp only [List.cons.injEq, and_true] at e0_0
  subst e0_0 g0_0
  obtain ⟨A0_1, n0_1, c0_1, z0_1, e0_1, S0_1, hl0_1, hz0_1, hd0_1⟩ := view_ints Tryd.underlying22 Tryd.underlying5 (by kernel_rfl) t0_1
  obtain rfl : u0_1 = .slice A0_1 n0_1 c0_1 := by simpa using e0_1
  obtain ⟨y0_1, p0_1⟩ := y0_1
  simp only at hd0_1
  obtain ⟨A0_2, n0_2, c0_2, z0_2, e0_2, S0_2, hl0_2, hz0_2, hd0_2⟩ := view_ints Tryd.underlying22 Tryd.underlying5 (by kernel_rfl) t0_2
  obtain rfl : u0_2 = .slice A0_2 n0_2 c0_2 := by simpa using e0_2
  obtain ⟨y0_2, p0_2⟩ := y0_2
  simp only at hd0_2
  obtain ⟨A0_3, n0_3, c0_3, z0_3, el0_3, e0_3, S0_3, hl0_3, hz0_3, he0_3, hd0_3⟩ := view_rows3 Tryd.underlying23 Tryd.underlying22 Tryd.underlying5 (by kernel_rfl) (by kernel_rfl) (by kernel_rfl) t0_3
  obtain rfl : u0_3 = .slice A0_3 n0_3 c0_3 := by simpa using e0_3
  obtain ⟨y0_3, p0_3⟩ := y0_3
  simp only at hd0_3
  obtain ⟨A0_4, n0_4, c0_4, z0_4, el0_4, e0_4, S0_4, hl0_4, hz0_4, he0_4, hd0_4⟩ := view_rows3 Tryd.underlying23 Tryd.underlying22 Tryd.underlying5 (by kernel_rfl) (by kernel_rfl) (by kernel_rfl) t0_4
  obtain rfl : u0_4 = .slice A0_4 n0_4 c0_4 := by simpa using e0_4
  obtain ⟨y0_4, p0_4⟩ := y0_4
  simp only at hd0_4
  obtain ⟨A0_5, n0_5, c0_5, z0_5, el0_5, e0_5, S0_5, hl0_5, hz0_5, he0_5, hd0_5⟩ := view_rows3 Tryd.underlying23 Tryd.underlying22 Tryd.underlying5 (by kernel_rfl) (by kernel_rfl) (by kernel_rfl) t0_5
  obtain rfl : u0_5 = .slice A0_5 n0_5 c0_5 := by simpa using e0_5
  obtain ⟨y0_5, p0_5⟩ := y0_5
  simp only at hd0_5
  have B0_1 : c0_1 ≤ 140737488351232 := by
    have hle := S0_1.le
    rcases hd0_1 with ⟨_, _, h0⟩ | ⟨sp, rfl, hsp⟩
    · omega
    · have hb := sized_any hsz (j := 0) (t := 25) rfl rfl (n := ((z0_1.map fun z => DataW.lit (H := H) (.int .u8 z)).length + sp.length) * Tryd.prog.bytesOf 5) (by simp [DataW.weights, Tryd.underlying25, Tryd.underlying22, DataW.weightsEach])
      rw [show Tryd.prog.bytesOf 5 = 1 by kernel_rfl] at hb
      simp only [reachBytes, List.length_map, hl0_1, hsp] at hb
      omega
  have B0_2 : c0_2 ≤ 140737488351232 := by
    have hle := S0_2.le
    rcases hd0_2 with ⟨_, _, h0⟩ | ⟨sp, rfl, hsp⟩
    · omega
    · have hb := sized_any hsz (j := 0) (t := 25) rfl rfl (n := ((z0_2.map fun z => DataW.lit (H := H) (.int .u8 z)).length + sp.length) * Tryd.prog.bytesOf 5) (by simp [DataW.weights, Tryd.underlying25, Tryd.underlying22, DataW.weightsEach])
      rw [show Tryd.prog.bytesOf 5 = 1 by kernel_rfl] at hb
      simp only [reachBytes, List.length_map, hl0_2, hsp] at hb
      omega
  have B0_3 : c0_3 ≤ 5864062014634 := by
    have hle := S0_3.le
    rcases hd0_3 with ⟨_, _, h0⟩ | ⟨sp, rfl, hsp⟩
    · omega
    · have hb := sized_any hsz (j := 0) (t := 25) rfl rfl (n := ((el0_3).length + sp.length) * Tryd.prog.bytesOf 22) (field_mem Tryd.underlying25 (i := 3) rfl rfl (slice_mem Tryd.underlying23))
      rw [show Tryd.prog.bytesOf 22 = 24 by kernel_rfl] at hb
      simp only [reachBytes, he0_3, hsp] at hb
      omega
  have R0_3 : ∀ r ∈ z0_3, RowOk W r ∧ r.2.2.1 ≤ 140737488351232 := by
    intro r hr
    refine ⟨(hz0_3 r hr).1, ?_⟩
    rcases (hz0_3 r hr).2 with h0 | ⟨D, hD, hn⟩
    · rw [h0]; exact Nat.zero_le _
    · rcases hd0_3 with ⟨_, h0, _⟩ | ⟨sp, rfl, hsp⟩
      · rw [List.eq_nil_of_length_eq_zero (he0_3.trans h0)] at hD; cases hD
      · exact sized_any hsz (j := 0) (t := 25) rfl rfl (field_mem Tryd.underlying25 (i := 3) rfl rfl (elem_mem Tryd.underlying23 hD hn))
  have B0_4 : c0_4 ≤ 5864062014634 := by
    have hle := S0_4.le
    rcases hd0_4 with ⟨_, _, h0⟩ | ⟨sp, rfl, hsp⟩
    · omega
    · have hb := sized_any hsz (j := 0) (t := 25) rfl rfl (n := ((el0_4).length + sp.length) * Tryd.prog.bytesOf 22) (field_mem Tryd.underlying25 (i := 4) rfl rfl (slice_mem Tryd.underlying23))
      rw [show Tryd.prog.bytesOf 22 = 24 by kernel_rfl] at hb
      simp only [reachBytes, he0_4, hsp] at hb
      omega
  have R0_4 : ∀ r ∈ z0_4, RowOk W r ∧ r.2.2.1 ≤ 140737488351232 := by
    intro r hr
    refine ⟨(hz0_4 r hr).1, ?_⟩
    rcases (hz0_4 r hr).2 with h0 | ⟨D, hD, hn⟩
    · rw [h0]; exact Nat.zero_le _
    · rcases hd0_4 with ⟨_, h0, _⟩ | ⟨sp, rfl, hsp⟩
      · rw [List.eq_nil_of_length_eq_zero (he0_4.trans h0)] at hD; cases hD
      · exact sized_any hsz (j := 0) (t := 25) rfl rfl (field_mem Tryd.underlying25 (i := 4) rfl rfl (elem_mem Tryd.underlying23 hD hn))
  have B0_5 : c0_5 ≤ 5864062014634 := by
    have hle := S0_5.le
    rcases hd0_5 with ⟨_, _, h0⟩ | ⟨sp, rfl, hsp⟩
    · omega
    · have hb := sized_any hsz (j := 0) (t := 25) rfl rfl (n := ((el0_5).length + sp.length) * Tryd.prog.bytesOf 22) (field_mem Tryd.underlying25 (i := 5) rfl rfl (slice_mem Tryd.underlying23))
      rw [show Tryd.prog.bytesOf 22 = 24 by kernel_rfl] at hb
      simp only [reachBytes, he0_5, hsp] at hb
      omega
  have R0_5 : ∀ r ∈ z0_5, RowOk W r ∧ r.2.2.1 ≤ 140737488351232 := by
    intro r hr
    refine ⟨(hz0_5 r hr).1, ?_⟩
    rcases (hz0_5 r hr).2 with h0 | ⟨D, hD, hn⟩
    · rw [h0]; exact Nat.zero_le _
    · rcases hd0_5 with ⟨_, h0, _⟩ | ⟨sp, rfl, hsp⟩
      · rw [List.eq_nil_of_length_eq_zero (he0_5.trans h0)] at hD; cases hD
      · exact sized_any hsz (j := 0) (t := 25) rfl rfl (field_mem Tryd.underlying25 (i := 5) rfl rfl (elem_mem Tryd.underlying23 hD hn))
  obtain ⟨u1_0, u1_1, u1_2, u1_3, u1_4, y1_0, y1_1, y1_2, y1_3, y1_4, nn1, rfl, rfl, rfl, t1_0, t1_1, t1_2, t1_3, t1_4⟩ := open_agg5 Tryd.underlying27 (by kernel_rfl) (by kernel_rfl) (hval 1 27 v1 rfl rfl) h1
  obtain ⟨a1_0, e1_0, g1_0, w1_0⟩ := DataW.trod_int Tryd.underlying5 t1_0
  simp only [List.cons.injEq, and_true] at e1_0
  subst e1_0 g1_0
  obtain ⟨A1_1, n1_1, c1_1, z1_1, e1_1, S1_1, hl1_1, hz1_1, hd1_1⟩ := view_ints Tryd.underlying22 Tryd.underlying5 (by kernel_rfl) t1_1
  obtain rfl : u1_1 = .slice A1_1 n1_1 c1_1 := by simpa using e1_1
  obtain ⟨y1_1, p1_1⟩ := y1_1
  simp only at hd1_1
  obtain ⟨a1_2, e1_2, g1_2⟩ := DataW.trod_bool Tryd.underlying4 t1_2
  simp only [List.cons.injEq, and_true] at e1_2
  subst e1_2 g1_2
  obtain ⟨a1_3, e1_3, g1_3, w1_3⟩ := DataW.trod_int Tryd.underlying5 t1_3
  simp only [List.cons.injEq, and_true] at e1_3
  subst e1_3 g1_3
  obtain ⟨a1_4, e1_4, g1_4, w1_4⟩ := DataW.trod_int Tryd.underlying5 t1_4
  simp only [List.cons.injEq, and_true] at e1_4
  subst e1_4 g1_4
  have B1_1 : c1_1 ≤ 140737488351232 := by
    have hle := S1_1.le
    rcases hd1_1 with ⟨_, _, h0⟩ | ⟨sp, rfl, hsp⟩
    · omega
    · have hb := sized_any hsz (j := 1) (t := 27) rfl rfl (n := ((z1_1.map fun z => DataW.lit (H := H) (.int .u8 z)).length + sp.length) * Tryd.prog.bytesOf 5) (by simp [DataW.weights, Tryd.underlying27, Tryd.underlying22, DataW.weightsEach])
      rw [show Tryd.prog.bytesOf 5 = 1 by kernel_rfl] at hb
      simp only [reachBytes, List.length_map, hl1_1, hsp] at hb
      omega
  obtain ⟨k2_, n2_, a2_, x2_, rfl, rfl, rfl, w2_0, w2_1, w2_2, w2_3⟩ := open_trig Tryd.underlying33 (by kernel_rfl) (by kernel_rfl) Tryd.underlying28 Tryd.underlying29 Tryd.underlying31 (by kernel_rfl) Tryd.underlying9 Tryd.underlying3 (hval 2 33 v2 rfl rfl) h2
  have b2_n : n2_.size ≤ 140737488351232 := by have hb := sized_any hsz (j := 2) (t := 33) rfl rfl (n := n2_.data.toList.length) (by simp [DataW.weights, Tryd.underlying33, Tryd.underlying31, DataW.weightsEach]); simp only [reachBytes, Array.length_toList] at hb; show n2_.data.size ≤ _; omega
  have b2_a : a2_.size ≤ 140737488351232 := by have hb := sized_any hsz (j := 2) (t := 33) rfl rfl (n := a2_.data.toList.length) (by simp [DataW.weights, Tryd.underlying33, Tryd.underlying31, DataW.weightsEach]); simp only [reachBytes, Array.length_toList] at hb; show a2_.data.size ≤ _; omega
  obtain ⟨u3_0, u3_1, u3_2, u3_3, u3_4, y3_0, y3_1, y3_2, y3_3, y3_4, nn3, rfl, rfl, rfl, t3_0, t3_1, t3_2, t3_3, t3_4⟩ := open_agg5 Tryd.underlying37 (by kernel_rfl) (by kernel_rfl) (hval 3 37 v3 rfl rfl) h3
  obtain ⟨a3_0, e3_0, g3_0, w3_0⟩ := DataW.trod_string Tryd.underlying9 t3_0
  simp only [List.cons.injEq, and_true] at e3_0
  subst e3_0 g3_0
  obtain ⟨a3_1, e3_1, g3_1, w3_1⟩ := DataW.trod_string Tryd.underlying29 t3_1
  simp only [List.cons.injEq, and_true] at e3_1
  subst e3_1 g3_1
  obtain ⟨A3_2, n3_2, c3_2, z3_2, e3_2, S3_2, hl3_2, hz3_2, hd3_2⟩ := view_strings Tryd.underlying34 Tryd.underlying9 (by kernel_rfl) t3_2
  obtain rfl : u3_2 = .slice A3_2 n3_2 c3_2 := by simpa using e3_2
  obtain ⟨y3_2, p3_2⟩ := y3_2
  simp only at hd3_2
  obtain ⟨A3_3, n3_3, c3_3, z3_3, e3_3, S3_3, hl3_3, hz3_3, hd3_3⟩ := view_strings Tryd.underlying35 Tryd.underlying29 (by kernel_rfl) t3_3
  obtain rfl : u3_3 = .slice A3_3 n3_3 c3_3 := by simpa using e3_3
  obtain ⟨y3_3, p3_3⟩ := y3_3
  simp only at hd3_3
  obtain ⟨A3_4, n3_4, c3_4, z3_4, e3_4, S3_4, hl3_4, hz3_4, hd3_4⟩ := view_strings Tryd.underlying34 Tryd.underlying9 (by kernel_rfl) t3_4
  obtain rfl : u3_4 = .slice A3_4 n3_4 c3_4 := by simpa using e3_4
  obtain ⟨y3_4, p3_4⟩ := y3_4
  simp only at hd3_4
  have w3_0b : a3_0.size ≤ 140737488351232 := by have hb := sized_any hsz (j := 3) (t := 37) rfl rfl (n := a3_0.data.toList.length) (by simp [DataW.weights, Tryd.underlying37, DataW.weightsEach]); simp only [reachBytes, Array.length_toList] at hb; show a3_0.data.size ≤ _; omega
  have w3_1b : a3_1.size ≤ 140737488351232 := by have hb := sized_any hsz (j := 3) (t := 37) rfl rfl (n := a3_1.data.toList.length) (by simp [DataW.weights, Tryd.underlying37, DataW.weightsEach]); simp only [reachBytes, Array.length_toList] at hb; show a3_1.data.size ≤ _; omega
  have B3_2 : c3_2 ≤ 8796093021952 := by
    have hle := S3_2.le
    rcases hd3_2 with ⟨_, _, h0⟩ | ⟨sp, rfl, hsp⟩
    · omega
    · have hb := sized_any hsz (j := 3) (t := 37) rfl rfl (n := ((z3_2.map fun s => DataW.lit (H := H) (.string s.data.toList)).length + sp.length) * Tryd.prog.bytesOf 9) (field_mem Tryd.underlying37 (i := 2) rfl rfl (slice_mem Tryd.underlying34))
      rw [show Tryd.prog.bytesOf 9 = 16 by kernel_rfl] at hb
      simp only [reachBytes, List.length_map, hl3_2, hsp] at hb
      omega
  have Z3_2 : ∀ s ∈ z3_2, s.size ≤ 140737488351232 := by
    intro s hs
    rcases hd3_2 with ⟨_, h0, _⟩ | ⟨sp, rfl, hsp⟩
    · rw [List.eq_nil_of_length_eq_zero (hl3_2.trans h0)] at hs; cases hs
    · have h := sized_any hsz (j := 3) (t := 37) rfl rfl (n := s.data.toList.length) (field_mem Tryd.underlying37 (i := 2) rfl rfl (elem_mem Tryd.underlying34 (List.mem_map.2 ⟨s, hs, rfl⟩) (string_mem s)))
      simp only [reachBytes, Array.length_toList] at h
      show s.data.size ≤ _; omega
  have B3_3 : c3_3 ≤ 8796093021952 := by
    have hle := S3_3.le
    rcases hd3_3 with ⟨_, _, h0⟩ | ⟨sp, rfl, hsp⟩
    · omega
    · have hb := sized_any hsz (j := 3) (t := 37) rfl rfl (n := ((z3_3.map fun s => DataW.lit (H := H) (.string s.data.toList)).length + sp.length) * Tryd.prog.bytesOf 29) (field_mem Tryd.underlying37 (i := 3) rfl rfl (slice_mem Tryd.underlying35))
      rw [show Tryd.prog.bytesOf 29 = 16 by kernel_rfl] at hb
      simp only [reachBytes, List.length_map, hl3_3, hsp] at hb
      omega
  have Z3_3 : ∀ s ∈ z3_3, s.size ≤ 140737488351232 := by
    intro s hs
    rcases hd3_3 with ⟨_, h0, _⟩ | ⟨sp, rfl, hsp⟩
    · rw [List.eq_nil_of_length_eq_zero (hl3_3.trans h0)] at hs; cases hs
    · have h := sized_any hsz (j := 3) (t := 37) rfl rfl (n := s.data.toList.length) (field_mem Tryd.underlying37 (i := 3) rfl rfl (elem_mem Tryd.underlying35 (List.mem_map.2 ⟨s, hs, rfl⟩) (string_mem s)))
      simp only [reachBytes, Array.length_toList] at h
      show s.data.size ≤ _; omega
  have B3_4 : c3_4 ≤ 8796093021952 := by
    have hle := S3_4.le
    rcases hd3_4 with ⟨_, _, h0⟩ | ⟨sp, rfl, hsp⟩
    · omega
    · have hb := sized_any hsz (j := 3) (t := 37) rfl rfl (n := ((z3_4.map fun s => DataW.lit (H := H) (.string s.data.toList)).length + sp.length) * Tryd.prog.bytesOf 9) (field_mem Tryd.underlying37 (i := 4) rfl rfl (slice_mem Tryd.underlying34))
      rw [show Tryd.prog.bytesOf 9 = 16 by kernel_rfl] at hb
      simp only [reachBytes, List.length_map, hl3_4, hsp] at hb
      omega
  have Z3_4 : ∀ s ∈ z3_4, s.size ≤ 140737488351232 := by
    intro s hs
    rcases hd3_4 with ⟨_, h0, _⟩ | ⟨sp, rfl, hsp⟩
    · rw [List.eq_nil_of_length_eq_zero (hl3_4.trans h0)] at hs; cases hs
    · have h := sized_any hsz (j := 3) (t := 37) rfl rfl (n := s.data.toList.length) (field_mem Tryd.underlying37 (i := 4) rfl rfl (elem_mem Tryd.underlying34 (List.mem_map.2 ⟨s, hs, rfl⟩) (string_mem s)))
      simp only [reachBytes, Array.length_toList] at h
      show s.data.size ≤ _; omega
  clear hA0 hval0
  refine (searchMatches_walk W hLT a0_0 A0_1 n0_1 c0_1 z0_1 S0_1 hl0_1 hz0_1 B0_1 A0_2 n0_2 c0_2 z0_2 S0_2 hl0_2 hz0_2 B0_2 A0_3 n0_3 c0_3 z0_3 S0_3 hl0_3 R0_3 B0_3 A0_4 n0_4 c0_4 z0_4 S0_4 hl0_4 R0_4 B0_4 A0_5 n0_5 c0_5 z0_5 S0_5 hl0_5 R0_5 B0_5 a1_0 w1_0 A1_1 n1_1 c1_1 z1_1 S1_1 hl1_1 hz1_1 B1_1 a1_2 a1_3 w1_3 a1_4 w1_4 k2_ w2_0 n2_ b2_n a2_ b2_a x2_ w2_3 a3_0 w3_0b a3_1 w3_1b A3_2 n3_2 c3_2 z3_2 S3_2 hl3_2 B3_2 Z3_2 A3_3 n3_3 c3_3 z3_3 S3_3 hl3_3 B3_3 Z3_3 A3_4 n3_4 c3_4 z3_4 S3_4 hl3_4 B3_4 Z3_4).mono fun e W' ⟨he, bel⟩ => ?_
  subst he
  exact ⟨_, rfl, _, _, _, [], _, [], hW', trodAll_mk1 (shut_bool Tryd.underlying4 _), (trodAll_cons_mk (Below.trod laidOut (by kernel_rfl) (of_decide_eq_true (by kernel_rfl)) k0 bel lt0) (trodAll_cons_mk (Below.trod laidOut (by kernel_rfl) (of_decide_eq_true (by kernel_rfl)) k1 bel lt1) (trodAll_cons_mk (Below.trod laidOut (by kernel_rfl) (of_decide_eq_true (by kernel_rfl)) k2 bel lt2) (trodAll_cons_mk (Below.trod laidOut (by kernel_rfl) (of_decide_eq_true (by kernel_rfl)) k3 bel lt3) trodAll_mk0)))), rfl, bel.frame _, fun h => by cases h⟩

theorem over : Rows.searchMatchesRow.holds Tryd.pinned (OpenSpec.ofChange Rows.searchMatchesSpec) :=
  OpenClaim.holds_of_wide 3 Tryd.f3 rfl rfl rfl rfl rfl rfl rfl ⟨rfl, rfl, rfl, rfl, rfl⟩ rfl rfl rfl rfl rfl (by kernel_rfl) Tryd.func3 (by kernel_rfl)
    (of_decide_eq_true (by kernel_rfl)) (by unfold Func.isWrapper; first | (rw [if_pos (by decide +kernel)]; kernel_rfl) | (rw [if_neg (by decide +kernel)]; exact ⟨rfl, rfl⟩))
    (fun os started H enc _ => lifted os started H enc)

/-- The statement: the row's, closed by the given tie. -/
theorem proved : Rows.SearchMatchesCardSaid :=
  Claim7.holds_tied_plain_at .later [] [.data, .data, .data, .sentinel, .sentinel] true (true, "1bb6dc33e7987a0f0ebe50afc25f4917e82d8c0ff77240a5a995d96de987bd41") true
    over (fun _ h => by cases h) (by kernel_rfl) (fun _ h => by cases h) searchMatches_row_tie rfl ⟨rfl, rfl⟩ (by kernel_rfl) rfl
    (fun f fn hf hfn => by
      obtain rfl : f = 3 := Option.some.inj ((show Tryd.prog.funcNamed "bolter/bolterlaw19.SearchMatches" = some 3 by kernel_rfl).symm.trans hf) |>.symm
      obtain rfl : fn = Tryd.f3 := (Option.some.inj (Tryd.func3.symm.trans hfn)).symm
      exact ⟨by kernel_rfl, fun j t ht => by
        rw [Tryd.params3] at ht
        have hm := Array.mem_of_getElem? ht
        simp at hm
        rcases hm with rfl | rfl | rfl | rfl
        · exact (show Tryd.prog.wantsStandIn 25 = false by kernel_rfl)
        · exact (show Tryd.prog.wantsStandIn 27 = false by kernel_rfl)
        · exact (show Tryd.prog.wantsStandIn 33 = false by kernel_rfl)
        · exact (show Tryd.prog.wantsStandIn 37 = false by kernel_rfl)⟩)
    (by kernel_rfl)
#print axioms proved
end Go.Proofs.YtkdknfedieeenaaDoor.searchMatchesDone
