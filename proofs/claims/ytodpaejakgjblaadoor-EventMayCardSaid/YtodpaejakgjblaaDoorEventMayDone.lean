/- The statement 'EventMayCardSaid': EventMay returns true for every input, and each argument reads afterwards as before. The step from the walk to the statement. -/
import Derived.Test.YtodpaejakgjblaaDoorView
import Derived.Test.YtodpaejakgjblaaDoorMgEventMay
import Derived.Handed
import Derived.SevenTiedAt
import Derived.Test.YtodpaejakgjblaaDoorCard
import Derived.Test.YtodpaejakgjblaaDoorCards
import Derived.Test.YtodpaejakgjblaaDoorLaidO
import Derived.Test.YtodpaejakgjblaaDoorTie
import Derived.Test.YtodpaejakgjblaaDoorViewE
namespace Go.Proofs.YtodpaejakgjblaaDoor.eventMayDone
open Go.ChangeShapes Go.WideShapes Go.ChangeAt Go.RowKit
open Go.ChangeMaps (open_string shut_string)
set_option linter.unusedVariables false

set_option maxRecDepth 100000 in
theorem lifted (os : Os) (started : os.Started) (H : Type) (enc : TypeId × Value → H) :
    ReturnsInHanded {} Tryd.checked os 11 .any (fun w args => (Rows.eventMaySpec.pre enc Tryd.prog Tryd.f11 [] false w args ∧ laidMetH Tryd.prog [("math/bits.deBruijn32tab", Rows.laid_math_bits_deBruijn32tab), ("math/bits.deBruijn64tab", Rows.laid_math_bits_deBruijn64tab), ("internal/strconv.uint64pow10", Rows.laid_internal_strconv_uint64pow10), ("strconv.ErrRange", Rows.laid_strconv_ErrRange), ("strconv.ErrSyntax", Rows.laid_strconv_ErrSyntax)] w) ∧ sizedMet enc Tryd.prog Tryd.f11 (OpenSpec.ofChange Rows.eventMaySpec) false w args) (Rows.eventMaySpec.post enc Tryd.prog Tryd.f11 false true false false) := by
  refine returns_change_and (C := Tryd.checked) (X := fun w _ => laidMetH Tryd.prog [("math/bits.deBruijn32tab", Rows.laid_math_bits_deBruijn32tab), ("math/bits.deBruijn64tab", Rows.laid_math_bits_deBruijn64tab), ("internal/strconv.uint64pow10", Rows.laid_internal_strconv_uint64pow10), ("strconv.ErrRange", Rows.laid_strconv_ErrRange), ("strconv.ErrSyntax", Rows.laid_strconv_ErrSyntax)] w) (fun _ _ _ hh h => h.of_heap hh) own started (by kernel_rfl) Tryd.func11
    (ChangeSpec.witness_shaped (enc := enc) (C := Tryd.checked) (os := os) (X := fun w _ => laidMetH Tryd.prog [("math/bits.deBruijn32tab", Rows.laid_math_bits_deBruijn32tab), ("math/bits.deBruijn64tab", Rows.laid_math_bits_deBruijn64tab), ("internal/strconv.uint64pow10", Rows.laid_internal_strconv_uint64pow10), ("strconv.ErrRange", Rows.laid_strconv_ErrRange), ("strconv.ErrSyntax", Rows.laid_strconv_ErrSyntax)] w) false (World.laidAll Tryd.prog os [("math/bits.deBruijn32tab", Rows.laid_math_bits_deBruijn32tab), ("math/bits.deBruijn64tab", Rows.laid_math_bits_deBruijn64tab), ("internal/strconv.uint64pow10", Rows.laid_internal_strconv_uint64pow10), ("strconv.ErrRange", Rows.laid_strconv_ErrRange), ("strconv.ErrSyntax", Rows.laid_strconv_ErrSyntax)]) #[.agg #[.int .i64 0, .string ByteArray.empty, .string ByteArray.empty, .int .u16 0, .int .i64 0, .int .i64 0, .string ByteArray.empty, .string ByteArray.empty, .int .i64 0, .int .i64 0]] 8 (World.laidAll_os _ _ _)
      (World.shaped_of_ZipB (by kernel_rfl) (by kernel_rfl)) (by kernel_rfl) (by kernel_rfl) (by kernel_rfl)
      (by rw [MakeChecks.laidMetH_plain _ _ _ (by kernel_rfl)]; exact laidMet_laidAll _ (by kernel_rfl) (by kernel_rfl))) ?_
  intro W base args ds gs before hval0 hW hcnd hsz0 hL hshape _
  have hLT : LaidT W := laidT_of_met hL
  have hsz : (DataW.weightsEach Tryd.prog (Tryd.f11.params.toList ++ Rows.eventMaySpec.plain.varTypes Tryd.prog) (ds ++ gs)).all (· ≤ reachBytes) = true := hsz0
  have hval : ∀ (j : Nat) t v, Tryd.f11.params[j]? = some t → args[j]? = some v → Value.okWide Tryd.prog W .any base t v := hval0
  have hW' := hW
  obtain ⟨p, q, hA0, hV, rfl, hfz, hnd⟩ := hW
  have hA : DataW.TrodAll enc Tryd.prog W 0 (fun _ => true) true Tryd.f11.params.toList args.toList ds p := hA0
  rw [Tryd.params11] at hA hval hsz
  obtain ⟨v0, vs0, d0, ds0, p0, q0, hargs, rfl, rfl, h0, r0⟩ := trodAll_cons hA
  obtain ⟨rfl, rfl, rfl⟩ := trodAll_nil r0
  obtain rfl : args = #[v0] := by cases args; simp_all
  obtain ⟨rfl, rfl⟩ := trodVars_none hV
  have k0 := h0
  have lt0 : ∀ x ∈ p0, x.block < W.heap.size := by obtain ⟨m, hm⟩ := k0; exact DataW.trod_lt m _ _ _ hm
  obtain ⟨u0_0, u0_1, u0_2, u0_3, u0_4, u0_5_0, u0_5_1, u0_5_2, u0_5_3, u0_6, y0_0, y0_1, y0_2, y0_3, y0_4, y0_5, y0_6, nn0, rfl, rfl, rfl, t0_0, t0_1, t0_2, t0_3, t0_4, t0_5, t0_6⟩ := open_seven Tryd.underlying68 (by kernel_rfl) (by kernel_rfl) (hval 0 68 v0 rfl rfl) h0
  obtain ⟨a0_0, e0_0, g0_0, w0_0⟩ := DataW.trod_int Tryd.underlying3 t0_0
  simp only [List.cons.injEq, and_true] at e0_0
  subst e0_0 g0_0
  obtain ⟨a0_1, e0_1, g0_1, w0_1⟩ := DataW.trod_string Tryd.underlying9 t0_1
  simp only [List.cons.injEq, and_true] at e0_1
  subst e0_1 g0_1
  obtain ⟨a0_2, e0_2, g0_2, w0_2⟩ := DataW.trod_string Tryd.underlying27 t0_2
  simp only [List.cons.injEq, and_true] at e0_2
  subst e0_2 g0_2
  obtain ⟨a0_3, e0_3, g0_3, w0_3⟩ := DataW.trod_int Tryd.underlying65 t0_3
  simp only [List.cons.injEq, and_true] at e0_3
  subst e0_3 g0_3
  obtain ⟨a0_4, e0_4, g0_4, w0_4⟩ := DataW.trod_int Tryd.underlying3 t0_4
  simp only [List.cons.injEq, and_true] at e0_4
  subst e0_4 g0_4
  obtain ⟨k0_5, s0_5, a0_5, x0_5, ⟨rfl, rfl, rfl, rfl⟩, g0_5, w0_5k, w0_5x⟩ := trig_cells Tryd.underlying29 (by kernel_rfl) Tryd.underlying26 Tryd.underlying27 Tryd.underlying24 (by kernel_rfl) Tryd.underlying9 Tryd.underlying3 t0_5
  subst g0_5
  obtain ⟨a0_6, e0_6, g0_6, w0_6⟩ := DataW.trod_int Tryd.underlying66 t0_6
  simp only [List.cons.injEq, and_true] at e0_6
  subst e0_6 g0_6
  have w0_1b : a0_1.size ≤ 140737488351232 := by have hb := sized_any hsz (j := 0) (t := 68) rfl rfl (n := a0_1.data.toList.length) (by simp [DataW.weights, Tryd.underlying68, Tryd.underlying29, Tryd.underlying24, DataW.weightsEach]); simp only [reachBytes, Array.length_toList] at hb; show a0_1.data.size ≤ _; omega
  have w0_2b : a0_2.size ≤ 140737488351232 := by have hb := sized_any hsz (j := 0) (t := 68) rfl rfl (n := a0_2.data.toList.length) (by simp [DataW.weights, Tryd.underlying68, Tryd.underlying29, Tryd.underlying24, DataW.weightsEach]); simp only [reachBytes, Array.length_toList] at hb; show a0_2.data.size ≤ _; omega
  have s0_5b : s0_5.size ≤ 140737488351232 := by have hb := sized_any hsz (j := 0) (t := 68) rfl rfl (n := s0_5.data.toList.length) (by simp [DataW.weights, Tryd.underlying68, Tryd.underlying29, Tryd.underlying24, DataW.weightsEach]); simp only [reachBytes, Array.length_toList] at hb; show s0_5.data.size ≤ _; omega
  have a0_5b : a0_5.size ≤ 140737488351232 := by have hb := sized_any hsz (j := 0) (t := 68) rfl rfl (n := a0_5.data.toList.length) (by simp [DataW.weights, Tryd.underlying68, Tryd.underlying29, Tryd.underlying24, DataW.weightsEach]); simp only [reachBytes, Array.length_toList] at hb; show a0_5.data.size ≤ _; omega
  clear hA0 hval0
  refine (eventMay_walk W hLT a0_0 w0_0 a0_1 w0_1b a0_2 w0_2b a0_3 w0_3 a0_4 w0_4 k0_5 w0_5k s0_5 s0_5b a0_5 a0_5b x0_5 w0_5x a0_6 w0_6).mono fun e W' ⟨he, bel⟩ => ?_
  subst he
  exact ⟨_, rfl, _, _, _, [], _, [], hW', trodAll_mk1 (shut_bool Tryd.underlying4 _), (trodAll_cons_mk (Below.trod laidOut (by kernel_rfl) (of_decide_eq_true (by kernel_rfl)) k0 bel lt0) trodAll_mk0), rfl, bel.frame _, fun h => by cases h⟩

theorem over : Rows.eventMayRow.holds Tryd.pinned (OpenSpec.ofChange Rows.eventMaySpec) :=
  OpenClaim.holds_of_wide 11 Tryd.f11 rfl rfl rfl rfl rfl rfl rfl ⟨rfl, rfl, rfl, rfl, rfl⟩ rfl rfl rfl rfl rfl (by kernel_rfl) Tryd.func11 (by kernel_rfl)
    (of_decide_eq_true (by kernel_rfl)) (by unfold Func.isWrapper; first | (rw [if_pos (by decide +kernel)]; kernel_rfl) | (rw [if_neg (by decide +kernel)]; exact ⟨rfl, rfl⟩))
    (fun os started H enc _ => lifted os started H enc)

/-- The statement: the row's, closed by the given tie. -/
theorem proved : Rows.EventMayCardSaid :=
  Claim7.holds_tied_plain_at .later [] [.data, .data, .data, .sentinel, .sentinel] true (true, "7ee72d13f5bb9d460ceb08dfd9dd9586a0a7e3b0b18b0041374a17a8bd44ee53") true
    over (fun _ h => by cases h) (by kernel_rfl) (fun _ h => by cases h) eventMay_row_tie rfl ⟨rfl, rfl⟩ (by kernel_rfl) rfl
    (fun f fn hf hfn => by
      obtain rfl : f = 11 := Option.some.inj ((show Tryd.prog.funcNamed "bolter/bolterlaw25.EventMay" = some 11 by kernel_rfl).symm.trans hf) |>.symm
      obtain rfl : fn = Tryd.f11 := (Option.some.inj (Tryd.func11.symm.trans hfn)).symm
      exact ⟨by kernel_rfl, fun j t ht => by
        rw [Tryd.params11] at ht
        have hm := Array.mem_of_getElem? ht
        simp at hm
        subst hm
        exact (show Tryd.prog.wantsStandIn 68 = false by kernel_rfl)⟩)
    (by kernel_rfl)
#print axioms proved
end Go.Proofs.YtodpaejakgjblaaDoor.eventMayDone
