/- The statement 'EventBytesCardSaid': EventBytes returns true for every input, and each argument reads afterwards as before. The step from the walk to the statement. -/
import Derived.Test.YtodpaejakgjblaaDoorView
import Derived.Test.YtodpaejakgjblaaDoorMgEventBytes
import Derived.Handed
import Derived.SevenTiedAt
import Derived.Test.YtodpaejakgjblaaDoorCard
import Derived.Test.YtodpaejakgjblaaDoorCards
import Derived.Test.YtodpaejakgjblaaDoorLaidO
import Derived.Test.YtodpaejakgjblaaDoorTie
import Derived.Test.YtodpaejakgjblaaDoorViewE
namespace Go.Proofs.YtodpaejakgjblaaDoor.eventBytesDone
open Go.ChangeShapes Go.WideShapes Go.ChangeAt Go.RowKit
open Go.ChangeMaps (open_string shut_string)
set_option linter.unusedVariables false

set_option maxRecDepth 100000 in
theorem lifted (os : Os) (started : os.Started) (H : Type) (enc : TypeId × Value → H) :
    ReturnsInHanded {} Tryd.checked os 10 .any (fun w args => (Rows.eventBytesSpec.pre enc Tryd.prog Tryd.f10 [] false w args ∧ laidMetH Tryd.prog [("math/bits.deBruijn32tab", Rows.laid_math_bits_deBruijn32tab), ("math/bits.deBruijn64tab", Rows.laid_math_bits_deBruijn64tab), ("internal/strconv.uint64pow10", Rows.laid_internal_strconv_uint64pow10), ("strconv.ErrRange", Rows.laid_strconv_ErrRange), ("strconv.ErrSyntax", Rows.laid_strconv_ErrSyntax)] w) ∧ sizedMet enc Tryd.prog Tryd.f10 (OpenSpec.ofChange Rows.eventBytesSpec) false w args) (Rows.eventBytesSpec.post enc Tryd.prog Tryd.f10 false true false false) := by
  refine returns_change_and (C := Tryd.checked) (X := fun w _ => laidMetH Tryd.prog [("math/bits.deBruijn32tab", Rows.laid_math_bits_deBruijn32tab), ("math/bits.deBruijn64tab", Rows.laid_math_bits_deBruijn64tab), ("internal/strconv.uint64pow10", Rows.laid_internal_strconv_uint64pow10), ("strconv.ErrRange", Rows.laid_strconv_ErrRange), ("strconv.ErrSyntax", Rows.laid_strconv_ErrSyntax)] w) (fun _ _ _ hh h => h.of_heap hh) own started (by kernel_rfl) Tryd.func10
    (ChangeSpec.witness_shaped (enc := enc) (C := Tryd.checked) (os := os) (X := fun w _ => laidMetH Tryd.prog [("math/bits.deBruijn32tab", Rows.laid_math_bits_deBruijn32tab), ("math/bits.deBruijn64tab", Rows.laid_math_bits_deBruijn64tab), ("internal/strconv.uint64pow10", Rows.laid_internal_strconv_uint64pow10), ("strconv.ErrRange", Rows.laid_strconv_ErrRange), ("strconv.ErrSyntax", Rows.laid_strconv_ErrSyntax)] w) false (World.laidAll Tryd.prog os [("math/bits.deBruijn32tab", Rows.laid_math_bits_deBruijn32tab), ("math/bits.deBruijn64tab", Rows.laid_math_bits_deBruijn64tab), ("internal/strconv.uint64pow10", Rows.laid_internal_strconv_uint64pow10), ("strconv.ErrRange", Rows.laid_strconv_ErrRange), ("strconv.ErrSyntax", Rows.laid_strconv_ErrSyntax)]) #[.agg #[.int .u32 0, .slice none 0 0, .slice none 0 0, .int .u16 0, .int .u8 0, .int .u8 0, .slice none 0 0, .bool false, .int .u8 0, .int .u8 0]] 8 (World.laidAll_os _ _ _)
      (World.shaped_of_ZipB (by kernel_rfl) (by kernel_rfl)) (by kernel_rfl) (by kernel_rfl) (by kernel_rfl)
      (by rw [MakeChecks.laidMetH_plain _ _ _ (by kernel_rfl)]; exact laidMet_laidAll _ (by kernel_rfl) (by kernel_rfl))) ?_
  intro W base args ds gs before hval0 hW hcnd hsz0 hL hshape _
  have hLT : LaidT W := laidT_of_met hL
  have hsz : (DataW.weightsEach Tryd.prog (Tryd.f10.params.toList ++ Rows.eventBytesSpec.plain.varTypes Tryd.prog) (ds ++ gs)).all (· ≤ reachBytes) = true := hsz0
  have hval : ∀ (j : Nat) t v, Tryd.f10.params[j]? = some t → args[j]? = some v → Value.okWide Tryd.prog W .any base t v := hval0
  have hW' := hW
  obtain ⟨p, q, hA0, hV, rfl, hfz, hnd⟩ := hW
  have hA : DataW.TrodAll enc Tryd.prog W 0 (fun _ => true) true Tryd.f10.params.toList args.toList ds p := hA0
  rw [Tryd.params10] at hA hval hsz
  obtain ⟨v0, vs0, d0, ds0, p0, q0, hargs, rfl, rfl, h0, r0⟩ := trodAll_cons hA
  obtain ⟨rfl, rfl, rfl⟩ := trodAll_nil r0
  obtain rfl : args = #[v0] := by cases args; simp_all
  obtain ⟨rfl, rfl⟩ := trodVars_none hV
  have k0 := h0
  have lt0 : ∀ x ∈ p0, x.block < W.heap.size := by obtain ⟨m, hm⟩ := k0; exact DataW.trod_lt m _ _ _ hm
  obtain ⟨u0_0, u0_1, u0_2, u0_3, u0_4, u0_5_0, u0_5_1, u0_5_2, u0_5_3, u0_6, y0_0, y0_1, y0_2, y0_3, y0_4, y0_5, y0_6, nn0, rfl, rfl, rfl, t0_0, t0_1, t0_2, t0_3, t0_4, t0_5, t0_6⟩ := open_seven Tryd.underlying64 (by kernel_rfl) (by kernel_rfl) (hval 0 64 v0 rfl rfl) h0
  obtain ⟨a0_0, e0_0, g0_0, w0_0⟩ := DataW.trod_int Tryd.underlying61 t0_0
  simp only [List.cons.injEq, and_true] at e0_0
  subst e0_0 g0_0
  obtain ⟨A0_1, n0_1, c0_1, z0_1, e0_1, S0_1, hl0_1, hz0_1, hd0_1⟩ := view_ints Tryd.underlying22 Tryd.underlying5 (by kernel_rfl) t0_1
  obtain rfl : u0_1 = .slice A0_1 n0_1 c0_1 := by simpa using e0_1
  obtain ⟨y0_1, p0_1⟩ := y0_1
  simp only at hd0_1
  obtain ⟨A0_2, n0_2, c0_2, z0_2, e0_2, S0_2, hl0_2, hz0_2, hd0_2⟩ := view_ints Tryd.underlying22 Tryd.underlying5 (by kernel_rfl) t0_2
  obtain rfl : u0_2 = .slice A0_2 n0_2 c0_2 := by simpa using e0_2
  obtain ⟨y0_2, p0_2⟩ := y0_2
  simp only at hd0_2
  obtain ⟨a0_3, e0_3, g0_3, w0_3⟩ := DataW.trod_int Tryd.underlying62 t0_3
  simp only [List.cons.injEq, and_true] at e0_3
  subst e0_3 g0_3
  obtain ⟨a0_4, e0_4, g0_4, w0_4⟩ := DataW.trod_int Tryd.underlying5 t0_4
  simp only [List.cons.injEq, and_true] at e0_4
  subst e0_4 g0_4
  obtain ⟨y0_5_0, y0_5_1, y0_5_2, y0_5_3, mm0, rfl, t0_5_0, t0_5_1, t0_5_2, t0_5_3⟩ := four_cells Tryd.underlying55 (by kernel_rfl) t0_5
  obtain ⟨a0_5_0, e0_5_0, g0_5_0, w0_5_0⟩ := DataW.trod_int Tryd.underlying5 t0_5_0
  simp only [List.cons.injEq, and_true] at e0_5_0
  subst e0_5_0 g0_5_0
  obtain ⟨A0_5_1, n0_5_1, c0_5_1, z0_5_1, e0_5_1, S0_5_1, hl0_5_1, hz0_5_1, hd0_5_1⟩ := view_ints Tryd.underlying22 Tryd.underlying5 (by kernel_rfl) t0_5_1
  obtain rfl : u0_5_1 = .slice A0_5_1 n0_5_1 c0_5_1 := by simpa using e0_5_1
  obtain ⟨y0_5_1, p0_5_1⟩ := y0_5_1
  simp only at hd0_5_1
  obtain ⟨a0_5_2, e0_5_2, g0_5_2⟩ := DataW.trod_bool Tryd.underlying4 t0_5_2
  simp only [List.cons.injEq, and_true] at e0_5_2
  subst e0_5_2 g0_5_2
  obtain ⟨a0_5_3, e0_5_3, g0_5_3, w0_5_3⟩ := DataW.trod_int Tryd.underlying5 t0_5_3
  simp only [List.cons.injEq, and_true] at e0_5_3
  subst e0_5_3 g0_5_3
  obtain ⟨a0_6, e0_6, g0_6, w0_6⟩ := DataW.trod_int Tryd.underlying5 t0_6
  simp only [List.cons.injEq, and_true] at e0_6
  subst e0_6 g0_6
  have B0_1 : c0_1 ≤ 140737488351232 := by
    have hle := S0_1.le
    rcases hd0_1 with ⟨_, _, h0⟩ | ⟨sp, rfl, hsp⟩
    · omega
    · have hb := sized_any hsz (j := 0) (t := 64) rfl rfl (n := ((z0_1.map fun z => DataW.lit (H := H) (.int .u8 z)).length + sp.length) * Tryd.prog.bytesOf 5) (by simp [DataW.weights, Tryd.underlying64, Tryd.underlying55, Tryd.underlying22, DataW.weightsEach])
      rw [show Tryd.prog.bytesOf 5 = 1 by kernel_rfl] at hb
      simp only [reachBytes, List.length_map, hl0_1, hsp] at hb
      omega
  have B0_2 : c0_2 ≤ 140737488351232 := by
    have hle := S0_2.le
    rcases hd0_2 with ⟨_, _, h0⟩ | ⟨sp, rfl, hsp⟩
    · omega
    · have hb := sized_any hsz (j := 0) (t := 64) rfl rfl (n := ((z0_2.map fun z => DataW.lit (H := H) (.int .u8 z)).length + sp.length) * Tryd.prog.bytesOf 5) (by simp [DataW.weights, Tryd.underlying64, Tryd.underlying55, Tryd.underlying22, DataW.weightsEach])
      rw [show Tryd.prog.bytesOf 5 = 1 by kernel_rfl] at hb
      simp only [reachBytes, List.length_map, hl0_2, hsp] at hb
      omega
  have B0_5_1 : c0_5_1 ≤ 140737488351232 := by
    have hle := S0_5_1.le
    rcases hd0_5_1 with ⟨_, _, h0⟩ | ⟨sp, rfl, hsp⟩
    · omega
    · have hb := sized_any hsz (j := 0) (t := 64) rfl rfl (n := ((z0_5_1.map fun z => DataW.lit (H := H) (.int .u8 z)).length + sp.length) * Tryd.prog.bytesOf 5) (by simp [DataW.weights, Tryd.underlying64, Tryd.underlying55, Tryd.underlying22, DataW.weightsEach])
      rw [show Tryd.prog.bytesOf 5 = 1 by kernel_rfl] at hb
      simp only [reachBytes, List.length_map, hl0_5_1, hsp] at hb
      omega
  clear hA0 hval0
  refine (eventBytes_walk W hLT a0_0 w0_0 A0_1 n0_1 c0_1 z0_1 S0_1 hl0_1 hz0_1 B0_1 A0_2 n0_2 c0_2 z0_2 S0_2 hl0_2 hz0_2 B0_2 a0_3 w0_3 a0_4 w0_4 a0_5_0 w0_5_0 A0_5_1 n0_5_1 c0_5_1 z0_5_1 S0_5_1 hl0_5_1 hz0_5_1 B0_5_1 a0_5_2 a0_5_3 w0_5_3 a0_6 w0_6).mono fun e W' ⟨he, bel⟩ => ?_
  subst he
  exact ⟨_, rfl, _, _, _, [], _, [], hW', trodAll_mk1 (shut_bool Tryd.underlying4 _), (trodAll_cons_mk (Below.trod laidOut (by kernel_rfl) (of_decide_eq_true (by kernel_rfl)) k0 bel lt0) trodAll_mk0), rfl, bel.frame _, fun h => by cases h⟩

theorem over : Rows.eventBytesRow.holds Tryd.pinned (OpenSpec.ofChange Rows.eventBytesSpec) :=
  OpenClaim.holds_of_wide 10 Tryd.f10 rfl rfl rfl rfl rfl rfl rfl ⟨rfl, rfl, rfl, rfl, rfl⟩ rfl rfl rfl rfl rfl (by kernel_rfl) Tryd.func10 (by kernel_rfl)
    (of_decide_eq_true (by kernel_rfl)) (by unfold Func.isWrapper; first | (rw [if_pos (by decide +kernel)]; kernel_rfl) | (rw [if_neg (by decide +kernel)]; exact ⟨rfl, rfl⟩))
    (fun os started H enc _ => lifted os started H enc)

/-- The statement: the row's, closed by the given tie. -/
theorem proved : Rows.EventBytesCardSaid :=
  Claim7.holds_tied_plain_at .later [] [.data, .data, .data, .sentinel, .sentinel] true (true, "7ee72d13f5bb9d460ceb08dfd9dd9586a0a7e3b0b18b0041374a17a8bd44ee53") true
    over (fun _ h => by cases h) (by kernel_rfl) (fun _ h => by cases h) eventBytes_row_tie rfl ⟨rfl, rfl⟩ (by kernel_rfl) rfl
    (fun f fn hf hfn => by
      obtain rfl : f = 10 := Option.some.inj ((show Tryd.prog.funcNamed "bolter/bolterlaw25.EventBytes" = some 10 by kernel_rfl).symm.trans hf) |>.symm
      obtain rfl : fn = Tryd.f10 := (Option.some.inj (Tryd.func10.symm.trans hfn)).symm
      exact ⟨by kernel_rfl, fun j t ht => by
        rw [Tryd.params10] at ht
        have hm := Array.mem_of_getElem? ht
        simp at hm
        subst hm
        exact (show Tryd.prog.wantsStandIn 64 = false by kernel_rfl)⟩)
    (by kernel_rfl)
#print axioms proved
end Go.Proofs.YtodpaejakgjblaaDoor.eventBytesDone
