/- The statement 'EventReadCardSaid': EventRead returns true for every input, and each argument reads afterwards as before. The step from the walk to the statement. -/
import Derived.Test.YtodpaejakgjblaaDoorView
import Derived.Test.YtodpaejakgjblaaDoorMgEventRead
import Derived.Handed
import Derived.SevenTiedAt
import Derived.Test.YtodpaejakgjblaaDoorCard
import Derived.Test.YtodpaejakgjblaaDoorCards
import Derived.Test.YtodpaejakgjblaaDoorLaidO
import Derived.Test.YtodpaejakgjblaaDoorTie
import Derived.Test.YtodpaejakgjblaaDoorViewE
namespace Go.Proofs.YtodpaejakgjblaaDoor.eventReadDone
open Go.ChangeShapes Go.WideShapes Go.ChangeAt Go.RowKit
open Go.ChangeMaps (open_string shut_string)
set_option linter.unusedVariables false

set_option maxRecDepth 100000 in
theorem lifted (os : Os) (started : os.Started) (H : Type) (enc : TypeId × Value → H) :
    ReturnsInHanded {} Tryd.checked os 12 .any (fun w args => (Rows.eventReadSpec.pre enc Tryd.prog Tryd.f12 [] false w args ∧ laidMetH Tryd.prog [("math/bits.deBruijn32tab", Rows.laid_math_bits_deBruijn32tab), ("math/bits.deBruijn64tab", Rows.laid_math_bits_deBruijn64tab), ("internal/strconv.uint64pow10", Rows.laid_internal_strconv_uint64pow10), ("strconv.ErrRange", Rows.laid_strconv_ErrRange), ("strconv.ErrSyntax", Rows.laid_strconv_ErrSyntax)] w) ∧ sizedMet enc Tryd.prog Tryd.f12 (OpenSpec.ofChange Rows.eventReadSpec) false w args) (Rows.eventReadSpec.post enc Tryd.prog Tryd.f12 false true false false) := by
  refine returns_change_and (C := Tryd.checked) (X := fun w _ => laidMetH Tryd.prog [("math/bits.deBruijn32tab", Rows.laid_math_bits_deBruijn32tab), ("math/bits.deBruijn64tab", Rows.laid_math_bits_deBruijn64tab), ("internal/strconv.uint64pow10", Rows.laid_internal_strconv_uint64pow10), ("strconv.ErrRange", Rows.laid_strconv_ErrRange), ("strconv.ErrSyntax", Rows.laid_strconv_ErrSyntax)] w) (fun _ _ _ hh h => h.of_heap hh) own started (by kernel_rfl) Tryd.func12
    (ChangeSpec.witness_shaped (enc := enc) (C := Tryd.checked) (os := os) (X := fun w _ => laidMetH Tryd.prog [("math/bits.deBruijn32tab", Rows.laid_math_bits_deBruijn32tab), ("math/bits.deBruijn64tab", Rows.laid_math_bits_deBruijn64tab), ("internal/strconv.uint64pow10", Rows.laid_internal_strconv_uint64pow10), ("strconv.ErrRange", Rows.laid_strconv_ErrRange), ("strconv.ErrSyntax", Rows.laid_strconv_ErrSyntax)] w) false (World.laidAll Tryd.prog os [("math/bits.deBruijn32tab", Rows.laid_math_bits_deBruijn32tab), ("math/bits.deBruijn64tab", Rows.laid_math_bits_deBruijn64tab), ("internal/strconv.uint64pow10", Rows.laid_internal_strconv_uint64pow10), ("strconv.ErrRange", Rows.laid_strconv_ErrRange), ("strconv.ErrSyntax", Rows.laid_strconv_ErrSyntax)]) #[.slice none 0 0, .agg #[.int .u32 0, .slice none 0 0, .slice none 0 0, .int .u16 0, .int .u8 0, .int .u8 0, .slice none 0 0, .bool false, .int .u8 0, .int .u8 0], .int .u8 0, .int .u8 0] 8 (World.laidAll_os _ _ _)
      (World.shaped_of_ZipB (by kernel_rfl) (by kernel_rfl)) (by kernel_rfl) (by kernel_rfl) (by kernel_rfl)
      (by rw [MakeChecks.laidMetH_plain _ _ _ (by kernel_rfl)]; exact laidMet_laidAll _ (by kernel_rfl) (by kernel_rfl))) ?_
  intro W base args ds gs before hval0 hW hcnd hsz0 hL hshape _
  have hLT : LaidT W := laidT_of_met hL
  have hsz : (DataW.weightsEach Tryd.prog (Tryd.f12.params.toList ++ Rows.eventReadSpec.plain.varTypes Tryd.prog) (ds ++ gs)).all (· ≤ reachBytes) = true := hsz0
  have hval : ∀ (j : Nat) t v, Tryd.f12.params[j]? = some t → args[j]? = some v → Value.okWide Tryd.prog W .any base t v := hval0
  have hW' := hW
  obtain ⟨p, q, hA0, hV, rfl, hfz, hnd⟩ := hW
  have hA : DataW.TrodAll enc Tryd.prog W 0 (fun _ => true) true Tryd.f12.params.toList args.toList ds p := hA0
  rw [Tryd.params12] at hA hval hsz
  obtain ⟨v0, vs0, d0, ds0, p0, q0, hargs, rfl, rfl, h0, r0⟩ := trodAll_cons hA
  obtain ⟨v1, vs1, d1, ds1, p1, q1, rfl, rfl, rfl, h1, r1⟩ := trodAll_cons r0
  obtain ⟨v2, vs2, d2, ds2, p2, q2, rfl, rfl, rfl, h2, r2⟩ := trodAll_cons r1
  obtain ⟨v3, vs3, d3, ds3, p3, q3, rfl, rfl, rfl, h3, r3⟩ := trodAll_cons r2
  obtain ⟨rfl, rfl, rfl⟩ := trodAll_nil r3
  obtain rfl : args = #[v0, v1, v2, v3] := by cases args; simp_all
  obtain ⟨rfl, rfl⟩ := trodVars_none hV
  have k0 := h0
  have lt0 : ∀ x ∈ p0, x.block < W.heap.size := by obtain ⟨m, hm⟩ := k0; exact DataW.trod_lt m _ _ _ hm
  have k1 := h1
  have lt1 : ∀ x ∈ p1, x.block < W.heap.size := by obtain ⟨m, hm⟩ := k1; exact DataW.trod_lt m _ _ _ hm
  have k2 := h2
  have lt2 : ∀ x ∈ p2, x.block < W.heap.size := by obtain ⟨m, hm⟩ := k2; exact DataW.trod_lt m _ _ _ hm
  have k3 := h3
  have lt3 : ∀ x ∈ p3, x.block < W.heap.size := by obtain ⟨m, hm⟩ := k3; exact DataW.trod_lt m _ _ _ hm
  obtain ⟨m0, f0⟩ := trod_cells h0 (okWide_slice Tryd.underlying22 (hval 0 22 v0 rfl rfl))
  obtain ⟨A0, n0, c0, z0, e0, S0, hl0, hz0, hd0⟩ := view_ints Tryd.underlying22 Tryd.underlying5 (by kernel_rfl) f0
  obtain rfl : v0 = .slice A0 n0 c0 := by simpa using e0
  have B0 : c0 ≤ 140737488351232 := by
    have hle := S0.le
    rcases hd0 with ⟨_, _, h0⟩ | ⟨sp, rfl, hsp⟩
    · omega
    · have hb := sized_slice hsz (j := 0) (t := 22) (e := 5) rfl rfl Tryd.underlying22
      rw [show Tryd.prog.bytesOf 5 = 1 by kernel_rfl] at hb
      simp only [reachBytes, List.length_map, hl0, hsp] at hb
      omega
  obtain ⟨u1_0, u1_1, u1_2, u1_3, u1_4, u1_5_0, u1_5_1, u1_5_2, u1_5_3, u1_6, y1_0, y1_1, y1_2, y1_3, y1_4, y1_5, y1_6, nn1, rfl, rfl, rfl, t1_0, t1_1, t1_2, t1_3, t1_4, t1_5, t1_6⟩ := open_seven Tryd.underlying64 (by kernel_rfl) (by kernel_rfl) (hval 1 64 v1 rfl rfl) h1
  obtain ⟨a1_0, e1_0, g1_0, w1_0⟩ := DataW.trod_int Tryd.underlying61 t1_0
  simp only [List.cons.injEq, and_true] at e1_0
  subst e1_0 g1_0
  obtain ⟨A1_1, n1_1, c1_1, z1_1, e1_1, S1_1, hl1_1, hz1_1, hd1_1⟩ := view_ints Tryd.underlying22 Tryd.underlying5 (by kernel_rfl) t1_1
  obtain rfl : u1_1 = .slice A1_1 n1_1 c1_1 := by simpa using e1_1
  obtain ⟨y1_1, p1_1⟩ := y1_1
  simp only at hd1_1
  obtain ⟨A1_2, n1_2, c1_2, z1_2, e1_2, S1_2, hl1_2, hz1_2, hd1_2⟩ := view_ints Tryd.underlying22 Tryd.underlying5 (by kernel_rfl) t1_2
  obtain rfl : u1_2 = .slice A1_2 n1_2 c1_2 := by simpa using e1_2
  obtain ⟨y1_2, p1_2⟩ := y1_2
  simp only at hd1_2
  obtain ⟨a1_3, e1_3, g1_3, w1_3⟩ := DataW.trod_int Tryd.underlying62 t1_3
  simp only [List.cons.injEq, and_true] at e1_3
  subst e1_3 g1_3
  obtain ⟨a1_4, e1_4, g1_4, w1_4⟩ := DataW.trod_int Tryd.underlying5 t1_4
  simp only [List.cons.injEq, and_true] at e1_4
  subst e1_4 g1_4
  obtain ⟨y1_5_0, y1_5_1, y1_5_2, y1_5_3, mm1, rfl, t1_5_0, t1_5_1, t1_5_2, t1_5_3⟩ := four_cells Tryd.underlying55 (by kernel_rfl) t1_5
  obtain ⟨a1_5_0, e1_5_0, g1_5_0, w1_5_0⟩ := DataW.trod_int Tryd.underlying5 t1_5_0
  simp only [List.cons.injEq, and_true] at e1_5_0
  subst e1_5_0 g1_5_0
  obtain ⟨A1_5_1, n1_5_1, c1_5_1, z1_5_1, e1_5_1, S1_5_1, hl1_5_1, hz1_5_1, hd1_5_1⟩ := view_ints Tryd.underlying22 Tryd.underlying5 (by kernel_rfl) t1_5_1
  obtain rfl : u1_5_1 = .slice A1_5_1 n1_5_1 c1_5_1 := by simpa using e1_5_1
  obtain ⟨y1_5_1, p1_5_1⟩ := y1_5_1
  simp only at hd1_5_1
  obtain ⟨a1_5_2, e1_5_2, g1_5_2⟩ := DataW.trod_bool Tryd.underlying4 t1_5_2
  simp only [List.cons.injEq, and_true] at e1_5_2
  subst e1_5_2 g1_5_2
  obtain ⟨a1_5_3, e1_5_3, g1_5_3, w1_5_3⟩ := DataW.trod_int Tryd.underlying5 t1_5_3
  simp only [List.cons.injEq, and_true] at e1_5_3
  subst e1_5_3 g1_5_3
  obtain ⟨a1_6, e1_6, g1_6, w1_6⟩ := DataW.trod_int Tryd.underlying5 t1_6
  simp only [List.cons.injEq, and_true] at e1_6
  subst e1_6 g1_6
  have B1_1 : c1_1 ≤ 140737488351232 := by
    have hle := S1_1.le
    rcases hd1_1 with ⟨_, _, h0⟩ | ⟨sp, rfl, hsp⟩
    · omega
    · have hb := sized_any hsz (j := 1) (t := 64) rfl rfl (n := ((z1_1.map fun z => DataW.lit (H := H) (.int .u8 z)).length + sp.length) * Tryd.prog.bytesOf 5) (by simp [DataW.weights, Tryd.underlying64, Tryd.underlying55, Tryd.underlying22, DataW.weightsEach])
      rw [show Tryd.prog.bytesOf 5 = 1 by kernel_rfl] at hb
      simp only [reachBytes, List.length_map, hl1_1, hsp] at hb
      omega
  have B1_2 : c1_2 ≤ 140737488351232 := by
    have hle := S1_2.le
    rcases hd1_2 with ⟨_, _, h0⟩ | ⟨sp, rfl, hsp⟩
    · omega
    · have hb := sized_any hsz (j := 1) (t := 64) rfl rfl (n := ((z1_2.map fun z => DataW.lit (H := H) (.int .u8 z)).length + sp.length) * Tryd.prog.bytesOf 5) (by simp [DataW.weights, Tryd.underlying64, Tryd.underlying55, Tryd.underlying22, DataW.weightsEach])
      rw [show Tryd.prog.bytesOf 5 = 1 by kernel_rfl] at hb
      simp only [reachBytes, List.length_map, hl1_2, hsp] at hb
      omega
  have B1_5_1 : c1_5_1 ≤ 140737488351232 := by
    have hle := S1_5_1.le
    rcases hd1_5_1 with ⟨_, _, h0⟩ | ⟨sp, rfl, hsp⟩
    · omega
    · have hb := sized_any hsz (j := 1) (t := 64) rfl rfl (n := ((z1_5_1.map fun z => DataW.lit (H := H) (.int .u8 z)).length + sp.length) * Tryd.prog.bytesOf 5) (by simp [DataW.weights, Tryd.underlying64, Tryd.underlying55, Tryd.underlying22, DataW.weightsEach])
      rw [show Tryd.prog.bytesOf 5 = 1 by kernel_rfl] at hb
      simp only [reachBytes, List.length_map, hl1_5_1, hsp] at hb
      omega
  obtain ⟨a2, rfl, rfl, rfl, w2⟩ := open_int Tryd.underlying5 (hval 2 5 v2 rfl rfl) h2
  obtain ⟨a3, rfl, rfl, rfl, w3⟩ := open_int Tryd.underlying5 (hval 3 5 v3 rfl rfl) h3
  clear hA0 hval0
  refine (eventRead_walk W hLT A0 n0 c0 z0 S0 hl0 hz0 B0 a1_0 w1_0 A1_1 n1_1 c1_1 z1_1 S1_1 hl1_1 hz1_1 B1_1 A1_2 n1_2 c1_2 z1_2 S1_2 hl1_2 hz1_2 B1_2 a1_3 w1_3 a1_4 w1_4 a1_5_0 w1_5_0 A1_5_1 n1_5_1 c1_5_1 z1_5_1 S1_5_1 hl1_5_1 hz1_5_1 B1_5_1 a1_5_2 a1_5_3 w1_5_3 a1_6 w1_6 a2 w2 a3 w3).mono fun e W' ⟨he, bel⟩ => ?_
  subst he
  exact ⟨_, rfl, _, _, _, [], _, [], hW', trodAll_mk1 (shut_bool Tryd.underlying4 _), (trodAll_cons_mk (Below.trod laidOut (by kernel_rfl) (of_decide_eq_true (by kernel_rfl)) k0 bel lt0) (trodAll_cons_mk (Below.trod laidOut (by kernel_rfl) (of_decide_eq_true (by kernel_rfl)) k1 bel lt1) (trodAll_cons_mk (Below.trod laidOut (by kernel_rfl) (of_decide_eq_true (by kernel_rfl)) k2 bel lt2) (trodAll_cons_mk (Below.trod laidOut (by kernel_rfl) (of_decide_eq_true (by kernel_rfl)) k3 bel lt3) trodAll_mk0)))), rfl, bel.frame _, fun h => by cases h⟩

theorem over : Rows.eventReadRow.holds Tryd.pinned (OpenSpec.ofChange Rows.eventReadSpec) :=
  OpenClaim.holds_of_wide 12 Tryd.f12 rfl rfl rfl rfl rfl rfl rfl ⟨rfl, rfl, rfl, rfl, rfl⟩ rfl rfl rfl rfl rfl (by kernel_rfl) Tryd.func12 (by kernel_rfl)
    (of_decide_eq_true (by kernel_rfl)) (by unfold Func.isWrapper; first | (rw [if_pos (by decide +kernel)]; kernel_rfl) | (rw [if_neg (by decide +kernel)]; exact ⟨rfl, rfl⟩))
    (fun os started H enc _ => lifted os started H enc)

/-- The statement: the row's, closed by the given tie. -/
theorem proved : Rows.EventReadCardSaid :=
  Claim7.holds_tied_plain_at .later [] [.data, .data, .data, .sentinel, .sentinel] true (true, "7ee72d13f5bb9d460ceb08dfd9dd9586a0a7e3b0b18b0041374a17a8bd44ee53") true
    over (fun _ h => by cases h) (by kernel_rfl) (fun _ h => by cases h) eventRead_row_tie rfl ⟨rfl, rfl⟩ (by kernel_rfl) rfl
    (fun f fn hf hfn => by
      obtain rfl : f = 12 := Option.some.inj ((show Tryd.prog.funcNamed "bolter/bolterlaw25.EventRead" = some 12 by kernel_rfl).symm.trans hf) |>.symm
      obtain rfl : fn = Tryd.f12 := (Option.some.inj (Tryd.func12.symm.trans hfn)).symm
      exact ⟨by kernel_rfl, fun j t ht => by
        rw [Tryd.params12] at ht
        have hm := Array.mem_of_getElem? ht
        simp at hm
        rcases hm with rfl | rfl | rfl
        · exact (show Tryd.prog.wantsStandIn 22 = false by kernel_rfl)
        · exact (show Tryd.prog.wantsStandIn 64 = false by kernel_rfl)
        · exact (show Tryd.prog.wantsStandIn 5 = false by kernel_rfl)⟩)
    (by kernel_rfl)
#print axioms proved
end Go.Proofs.YtodpaejakgjblaaDoor.eventReadDone
