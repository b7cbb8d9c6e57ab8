/- The statement 'IndexApartCardSaid': IndexApart returns true for every input, and each argument reads afterwards as before. The step from the walk to the statement. -/
import Derived.Test.YtkdknfedieeenaaGreatDoorView
import Derived.Test.YtkdknfedieeenaaGreatDoorMgIndexApart
import Derived.Handed
import Derived.SevenTiedAt
import Derived.Test.YtkdknfedieeenaaGreatDoorCard
import Derived.Test.YtkdknfedieeenaaGreatDoorCards
import Derived.Test.YtkdknfedieeenaaGreatDoorLaidU
import Derived.Test.YtkdknfedieeenaaGreatDoorTie
import Derived.Test.YtkdknfedieeenaaGreatDoorView5
import Derived.Test.YtkdknfedieeenaaGreatDoorViewQ
namespace Go.Proofs.YtkdknfedieeenaaGreatDoor.indexApartDone
open Go.ChangeShapes Go.WideShapes Go.ChangeAt Go.RowKit
open Go.ChangeMaps (open_string shut_string)
set_option linter.unusedVariables false

set_option maxRecDepth 100000 in
theorem lifted (os : Os) (started : os.Started) (H : Type) (enc : TypeId × Value → H) :
    ReturnsInHanded {} Tryz.checked os 8 .any (fun w args => (Rows.indexApartSpec.pre enc Tryz.prog Tryz.f8 [] false w args ∧ laidMetH Tryz.prog [("math/bits.deBruijn32tab", Rows.laid_math_bits_deBruijn32tab), ("math/bits.deBruijn64tab", Rows.laid_math_bits_deBruijn64tab), ("internal/strconv.uint64pow10", Rows.laid_internal_strconv_uint64pow10), ("unicode/utf8.acceptRanges", Rows.laid_unicode_utf8_acceptRanges), ("strconv.ErrRange", Rows.laid_strconv_ErrRange), ("strconv.ErrSyntax", Rows.laid_strconv_ErrSyntax), ("unicode/utf8.first", Rows.laid_unicode_utf8_first)] w) ∧ sizedMet enc Tryz.prog Tryz.f8 (OpenSpec.ofChange Rows.indexApartSpec) false w args) (Rows.indexApartSpec.post enc Tryz.prog Tryz.f8 false true false false) := by
  refine returns_change_and (C := Tryz.checked) (X := fun w _ => laidMetH Tryz.prog [("math/bits.deBruijn32tab", Rows.laid_math_bits_deBruijn32tab), ("math/bits.deBruijn64tab", Rows.laid_math_bits_deBruijn64tab), ("internal/strconv.uint64pow10", Rows.laid_internal_strconv_uint64pow10), ("unicode/utf8.acceptRanges", Rows.laid_unicode_utf8_acceptRanges), ("strconv.ErrRange", Rows.laid_strconv_ErrRange), ("strconv.ErrSyntax", Rows.laid_strconv_ErrSyntax), ("unicode/utf8.first", Rows.laid_unicode_utf8_first)] w) (fun _ _ _ hh h => h.of_heap hh) own started (by kernel_rfl) Tryz.func8
    (ChangeSpec.witness_shaped (enc := enc) (C := Tryz.checked) (os := os) (X := fun w _ => laidMetH Tryz.prog [("math/bits.deBruijn32tab", Rows.laid_math_bits_deBruijn32tab), ("math/bits.deBruijn64tab", Rows.laid_math_bits_deBruijn64tab), ("internal/strconv.uint64pow10", Rows.laid_internal_strconv_uint64pow10), ("unicode/utf8.acceptRanges", Rows.laid_unicode_utf8_acceptRanges), ("strconv.ErrRange", Rows.laid_strconv_ErrRange), ("strconv.ErrSyntax", Rows.laid_strconv_ErrSyntax), ("unicode/utf8.first", Rows.laid_unicode_utf8_first)] w) false (World.laidAll Tryz.prog os [("math/bits.deBruijn32tab", Rows.laid_math_bits_deBruijn32tab), ("math/bits.deBruijn64tab", Rows.laid_math_bits_deBruijn64tab), ("internal/strconv.uint64pow10", Rows.laid_internal_strconv_uint64pow10), ("unicode/utf8.acceptRanges", Rows.laid_unicode_utf8_acceptRanges), ("strconv.ErrRange", Rows.laid_strconv_ErrRange), ("strconv.ErrSyntax", Rows.laid_strconv_ErrSyntax), ("unicode/utf8.first", Rows.laid_unicode_utf8_first)]) #[.agg #[.int .u8 0, .int .u8 0, .slice none 0 0, .bool false, .int .u8 0, .int .i64 0], .agg #[.int .u8 0, .int .u8 0, .slice none 0 0, .bool false, .int .u8 0, .int .i64 0]] 8 (World.laidAll_os _ _ _)
      (World.shaped_of_ZipB (by kernel_rfl) (by kernel_rfl)) (by kernel_rfl) (by kernel_rfl) (by kernel_rfl)
      (by rw [MakeChecks.laidMetH_plain _ _ _ (by kernel_rfl)]; exact laidMet_laidAll _ (by kernel_rfl) (by kernel_rfl))) ?_
  intro W base args ds gs before hval0 hW hcnd hsz0 hL hshape _
  have hLT : LaidT W := laidT_of_metU hL
  have hsz : (DataW.weightsEach Tryz.prog (Tryz.f8.params.toList ++ Rows.indexApartSpec.plain.varTypes Tryz.prog) (ds ++ gs)).all (· ≤ reachBytes) = true := hsz0
  have hval : ∀ (j : Nat) t v, Tryz.f8.params[j]? = some t → args[j]? = some v → Value.okWide Tryz.prog W .any base t v := hval0
  have hW' := hW
  obtain ⟨p, q, hA0, hV, rfl, hfz, hnd⟩ := hW
  have hA : DataW.TrodAll enc Tryz.prog W 0 (fun _ => true) true Tryz.f8.params.toList args.toList ds p := hA0
  rw [Tryz.params8] at hA hval hsz
  obtain ⟨v0, vs0, d0, ds0, p0, q0, hargs, rfl, rfl, h0, r0⟩ := trodAll_cons hA
  obtain ⟨v1, vs1, d1, ds1, p1, q1, rfl, rfl, rfl, h1, r1⟩ := trodAll_cons r0
  obtain ⟨rfl, rfl, rfl⟩ := trodAll_nil r1
  obtain rfl : args = #[v0, v1] := by cases args; simp_all
  obtain ⟨rfl, rfl⟩ := trodVars_none hV
  have k0 := h0
  have lt0 : ∀ x ∈ p0, x.block < W.heap.size := by obtain ⟨m, hm⟩ := k0; exact DataW.trod_lt m _ _ _ hm
  have k1 := h1
  have lt1 : ∀ x ∈ p1, x.block < W.heap.size := by obtain ⟨m, hm⟩ := k1; exact DataW.trod_lt m _ _ _ hm
  obtain ⟨u0_0, u0_1, u0_2, u0_3, u0_4, u0_5, y0_0, y0_1, y0_2, y0_3, y0_4, y0_5, nn0, rfl, rfl, rfl, t0_0, t0_1, t0_2, t0_3, t0_4, t0_5⟩ := open_agg6 Tryz.underlying76 (by kernel_rfl) (by kernel_rfl) (hval 0 76 v0 rfl rfl) h0
  obtain ⟨a0_0, e0_0, g0_0, w0_0⟩ := DataW.trod_int Tryz.underlying5 t0_0
  simp only [List.cons.injEq, and_true] at e0_0
  subst e0_0 g0_0
  obtain ⟨a0_1, e0_1, g0_1, w0_1⟩ := DataW.trod_int Tryz.underlying5 t0_1
  simp only [List.cons.injEq, and_true] at e0_1
  subst e0_1 g0_1
  obtain ⟨A0_2, n0_2, c0_2, z0_2, e0_2, S0_2, hl0_2, hz0_2, hd0_2⟩ := view_ints Tryz.underlying23 Tryz.underlying5 (by kernel_rfl) t0_2
  obtain rfl : u0_2 = .slice A0_2 n0_2 c0_2 := by simpa using e0_2
  obtain ⟨y0_2, p0_2⟩ := y0_2
  simp only at hd0_2
  obtain ⟨a0_3, e0_3, g0_3⟩ := DataW.trod_bool Tryz.underlying4 t0_3
  simp only [List.cons.injEq, and_true] at e0_3
  subst e0_3 g0_3
  obtain ⟨a0_4, e0_4, g0_4, w0_4⟩ := DataW.trod_int Tryz.underlying5 t0_4
  simp only [List.cons.injEq, and_true] at e0_4
  subst e0_4 g0_4
  obtain ⟨a0_5, e0_5, g0_5, w0_5⟩ := DataW.trod_int Tryz.underlying3 t0_5
  simp only [List.cons.injEq, and_true] at e0_5
  subst e0_5 g0_5
  have B0_2 : c0_2 ≤ 140737488351232 := by
    have hle := S0_2.le
    rcases hd0_2 with ⟨_, _, h0⟩ | ⟨sp, rfl, hsp⟩
    · omega
    · have hb := sized_any hsz (j := 0) (t := 76) rfl rfl (n := ((z0_2.map fun z => DataW.lit (H := H) (.int .u8 z)).length + sp.length) * Tryz.prog.bytesOf 5) (by simp [DataW.weights, Tryz.underlying76, Tryz.underlying23, DataW.weightsEach])
      rw [show Tryz.prog.bytesOf 5 = 1 by kernel_rfl] at hb
      simp only [reachBytes, List.length_map, hl0_2, hsp] at hb
      omega
  obtain ⟨u1_0, u1_1, u1_2, u1_3, u1_4, u1_5, y1_0, y1_1, y1_2, y1_3, y1_4, y1_5, nn1, rfl, rfl, rfl, t1_0, t1_1, t1_2, t1_3, t1_4, t1_5⟩ := open_agg6 Tryz.underlying76 (by kernel_rfl) (by kernel_rfl) (hval 1 76 v1 rfl rfl) h1
  obtain ⟨a1_0, e1_0, g1_0, w1_0⟩ := DataW.trod_int Tryz.underlying5 t1_0
  simp only [List.cons.injEq, and_true] at e1_0
  subst e1_0 g1_0
  obtain ⟨a1_1, e1_1, g1_1, w1_1⟩ := DataW.trod_int Tryz.underlying5 t1_1
  simp only [List.cons.injEq, and_true] at e1_1
  subst e1_1 g1_1
  obtain ⟨A1_2, n1_2, c1_2, z1_2, e1_2, S1_2, hl1_2, hz1_2, hd1_2⟩ := view_ints Tryz.underlying23 Tryz.underlying5 (by kernel_rfl) t1_2
  obtain rfl : u1_2 = .slice A1_2 n1_2 c1_2 := by simpa using e1_2
  obtain ⟨y1_2, p1_2⟩ := y1_2
  simp only at hd1_2
  obtain ⟨a1_3, e1_3, g1_3⟩ := DataW.trod_bool Tryz.underlying4 t1_3
  simp only [List.cons.injEq, and_true] at e1_3
  subst e1_3 g1_3
  obtain ⟨a1_4, e1_4, g1_4, w1_4⟩ := DataW.trod_int Tryz.underlying5 t1_4
  simp only [List.cons.injEq, and_true] at e1_4
  subst e1_4 g1_4
  obtain ⟨a1_5, e1_5, g1_5, w1_5⟩ := DataW.trod_int Tryz.underlying3 t1_5
  simp only [List.cons.injEq, and_true] at e1_5
  subst e1_5 g1_5
  have B1_2 : c1_2 ≤ 140737488351232 := by
    have hle := S1_2.le
    rcases hd1_2 with ⟨_, _, h0⟩ | ⟨sp, rfl, hsp⟩
    · omega
    · have hb := sized_any hsz (j := 1) (t := 76) rfl rfl (n := ((z1_2.map fun z => DataW.lit (H := H) (.int .u8 z)).length + sp.length) * Tryz.prog.bytesOf 5) (by simp [DataW.weights, Tryz.underlying76, Tryz.underlying23, DataW.weightsEach])
      rw [show Tryz.prog.bytesOf 5 = 1 by kernel_rfl] at hb
      simp only [reachBytes, List.length_map, hl1_2, hsp] at hb
      omega
  clear hA0 hval0
  refine (indexApart_walk W hLT a0_0 w0_0 a0_1 w0_1 A0_2 n0_2 c0_2 z0_2 S0_2 hl0_2 hz0_2 B0_2 a0_3 a0_4 w0_4 a0_5 w0_5 a1_0 w1_0 a1_1 w1_1 A1_2 n1_2 c1_2 z1_2 S1_2 hl1_2 hz1_2 B1_2 a1_3 a1_4 w1_4 a1_5 w1_5).mono fun e W' ⟨he, bel⟩ => ?_
  subst he
  exact ⟨_, rfl, _, _, _, [], _, [], hW', trodAll_mk1 (shut_bool Tryz.underlying4 _), (trodAll_cons_mk (Below.trod laidOut (by kernel_rfl) (of_decide_eq_true (by kernel_rfl)) k0 bel lt0) (trodAll_cons_mk (Below.trod laidOut (by kernel_rfl) (of_decide_eq_true (by kernel_rfl)) k1 bel lt1) trodAll_mk0)), rfl, bel.frame _, fun h => by cases h⟩

theorem over : Rows.indexApartRow.holds Tryz.pinned (OpenSpec.ofChange Rows.indexApartSpec) :=
  OpenClaim.holds_of_wide 8 Tryz.f8 rfl rfl rfl rfl rfl rfl rfl ⟨rfl, rfl, rfl, rfl, rfl⟩ rfl rfl rfl rfl rfl (by kernel_rfl) Tryz.func8 (by kernel_rfl)
    (of_decide_eq_true (by kernel_rfl)) (by unfold Func.isWrapper; first | (rw [if_pos (by decide +kernel)]; kernel_rfl) | (rw [if_neg (by decide +kernel)]; exact ⟨rfl, rfl⟩))
    (fun os started H enc _ => lifted os started H enc)

/-- The statement: the row's, closed by the given tie. -/
theorem proved : Rows.IndexApartCardSaid :=
  Claim7.holds_tied_plain_at .later [] [.data, .data, .data, .data, .sentinel, .sentinel, .pinned] true (true, "29a457cff2603d80e16ab024e067710ba08869bdd319fef5e1f693107c2315ba") true
    over (fun _ h => by cases h) (by kernel_rfl) (fun _ h => by cases h) indexApart_row_tie rfl ⟨rfl, rfl⟩ (by kernel_rfl) rfl
    (fun f fn hf hfn => by
      obtain rfl : f = 8 := Option.some.inj ((show Tryz.prog.funcNamed "bolter/bolterlaw17.IndexApart" = some 8 by kernel_rfl).symm.trans hf) |>.symm
      obtain rfl : fn = Tryz.f8 := (Option.some.inj (Tryz.func8.symm.trans hfn)).symm
      exact ⟨by kernel_rfl, fun j t ht => by
        rw [Tryz.params8] at ht
        have hm := Array.mem_of_getElem? ht
        simp at hm
        subst hm
        exact (show Tryz.prog.wantsStandIn 76 = false by kernel_rfl)⟩)
    (by kernel_rfl)
#print axioms proved
end Go.Proofs.YtkdknfedieeenaaGreatDoor.indexApartDone
