/- The statement 'SearchLessCardSaid': SearchLess returns true for every input, and each argument reads afterwards as before. The step from the walk to the statement. -/
import Derived.Test.YtkdknfedieeenaaDoorView
import Derived.Test.YtkdknfedieeenaaDoorMgSC
import Derived.Handed
import Derived.SevenTiedAt
import Derived.Test.YtkdknfedieeenaaDoorCard
import Derived.Test.YtkdknfedieeenaaDoorCards
import Derived.Test.YtkdknfedieeenaaDoorLaidO
import Derived.Test.YtkdknfedieeenaaDoorTie
import Derived.Test.YtkdknfedieeenaaDoorViewO
namespace Go.Proofs.YtkdknfedieeenaaDoor.searchLessDone
open Go.ChangeShapes Go.WideShapes Go.ChangeAt Go.RowKit
open Go.ChangeMaps (open_string shut_string)
set_option linter.unusedVariables false

set_option maxRecDepth 100000 in
theorem lifted (os : Os) (started : os.Started) (H : Type) (enc : TypeId × Value → H) :
    ReturnsInHanded {} Tryd.checked os 4 .any (fun w args => (Rows.searchLessSpec.pre enc Tryd.prog Tryd.f4 [] false w args ∧ laidMetH Tryd.prog [("math/bits.deBruijn32tab", Rows.laid_math_bits_deBruijn32tab), ("math/bits.deBruijn64tab", Rows.laid_math_bits_deBruijn64tab), ("internal/strconv.uint64pow10", Rows.laid_internal_strconv_uint64pow10), ("strconv.ErrRange", Rows.laid_strconv_ErrRange), ("strconv.ErrSyntax", Rows.laid_strconv_ErrSyntax)] w) ∧ sizedMet enc Tryd.prog Tryd.f4 (OpenSpec.ofChange Rows.searchLessSpec) false w args) (Rows.searchLessSpec.post enc Tryd.prog Tryd.f4 false true false false) := by
  refine returns_change_and (C := Tryd.checked) (X := fun w _ => laidMetH Tryd.prog [("math/bits.deBruijn32tab", Rows.laid_math_bits_deBruijn32tab), ("math/bits.deBruijn64tab", Rows.laid_math_bits_deBruijn64tab), ("internal/strconv.uint64pow10", Rows.laid_internal_strconv_uint64pow10), ("strconv.ErrRange", Rows.laid_strconv_ErrRange), ("strconv.ErrSyntax", Rows.laid_strconv_ErrSyntax)] w) (fun _ _ _ hh h => h.of_heap hh) own started (by kernel_rfl) Tryd.func4
    (ChangeSpec.witness_shaped (enc := enc) (C := Tryd.checked) (os := os) (X := fun w _ => laidMetH Tryd.prog [("math/bits.deBruijn32tab", Rows.laid_math_bits_deBruijn32tab), ("math/bits.deBruijn64tab", Rows.laid_math_bits_deBruijn64tab), ("internal/strconv.uint64pow10", Rows.laid_internal_strconv_uint64pow10), ("strconv.ErrRange", Rows.laid_strconv_ErrRange), ("strconv.ErrSyntax", Rows.laid_strconv_ErrSyntax)] w) false (World.laidAll Tryd.prog os [("math/bits.deBruijn32tab", Rows.laid_math_bits_deBruijn32tab), ("math/bits.deBruijn64tab", Rows.laid_math_bits_deBruijn64tab), ("internal/strconv.uint64pow10", Rows.laid_internal_strconv_uint64pow10), ("strconv.ErrRange", Rows.laid_strconv_ErrRange), ("strconv.ErrSyntax", Rows.laid_strconv_ErrSyntax)]) #[.agg #[.int .i64 0, .string ByteArray.empty, .string ByteArray.empty, .int .i64 0], .agg #[.int .i64 0, .string ByteArray.empty, .string ByteArray.empty, .int .i64 0], .agg #[.int .i64 0, .string ByteArray.empty, .string ByteArray.empty, .int .i64 0]] 8 (World.laidAll_os _ _ _)
      (World.shaped_of_ZipB (by kernel_rfl) (by kernel_rfl)) (by kernel_rfl) (by kernel_rfl) (by kernel_rfl)
      (by rw [MakeChecks.laidMetH_plain _ _ _ (by kernel_rfl)]; exact laidMet_laidAll _ (by kernel_rfl) (by kernel_rfl))) ?_
  intro W base args ds gs before hval0 hW hcnd hsz0 hL hshape _
  have hLT : LaidT W := laidT_of_met hL
  have hsz : (DataW.weightsEach Tryd.prog (Tryd.f4.params.toList ++ Rows.searchLessSpec.plain.varTypes Tryd.prog) (ds ++ gs)).all (· ≤ reachBytes) = true := hsz0
  have hval : ∀ (j : Nat) t v, Tryd.f4.params[j]? = some t → args[j]? = some v → Value.okWide Tryd.prog W .any base t v := hval0
  have hW' := hW
  obtain ⟨p, q, hA0, hV, rfl, hfz, hnd⟩ := hW
  have hA : DataW.TrodAll enc Tryd.prog W 0 (fun _ => true) true Tryd.f4.params.toList args.toList ds p := hA0
  rw [Tryd.params4] at hA hval hsz
  obtain ⟨v0, vs0, d0, ds0, p0, q0, hargs, rfl, rfl, h0, r0⟩ := trodAll_cons hA
  obtain ⟨v1, vs1, d1, ds1, p1, q1, rfl, rfl, rfl, h1, r1⟩ := trodAll_cons r0
  obtain ⟨v2, vs2, d2, ds2, p2, q2, rfl, rfl, rfl, h2, r2⟩ := trodAll_cons r1
  obtain ⟨rfl, rfl, rfl⟩ := trodAll_nil r2
  obtain rfl : args = #[v0, v1, v2] := by cases args; simp_all
  obtain ⟨rfl, rfl⟩ := trodVars_none hV
  have k0 := h0
  have lt0 : ∀ x ∈ p0, x.block < W.heap.size := by obtain ⟨m, hm⟩ := k0; exact DataW.trod_lt m _ _ _ hm
  have k1 := h1
  have lt1 : ∀ x ∈ p1, x.block < W.heap.size := by obtain ⟨m, hm⟩ := k1; exact DataW.trod_lt m _ _ _ hm
  have k2 := h2
  have lt2 : ∀ x ∈ p2, x.block < W.heap.size := by obtain ⟨m, hm⟩ := k2; exact DataW.trod_lt m _ _ _ hm
  obtain ⟨k0_, n0_, a0_, x0_, rfl, rfl, rfl, w0_0, w0_1, w0_2, w0_3⟩ := open_trig Tryd.underlying33 (by kernel_rfl) (by kernel_rfl) Tryd.underlying28 Tryd.underlying29 Tryd.underlying31 (by kernel_rfl) Tryd.underlying9 Tryd.underlying3 (hval 0 33 v0 rfl rfl) h0
  have b0_n : n0_.size ≤ 140737488351232 := by have hb := sized_any hsz (j := 0) (t := 33) rfl rfl (n := n0_.data.toList.length) (by simp [DataW.weights, Tryd.underlying33, Tryd.underlying31, DataW.weightsEach]); simp only [reachBytes, Array.length_toList] at hb; show n0_.data.size ≤ _; omega
  have b0_a : a0_.size ≤ 140737488351232 := by have hb := sized_any hsz (j := 0) (t := 33) rfl rfl (n := a0_.data.toList.length) (by simp [DataW.weights, Tryd.underlying33, Tryd.underlying31, DataW.weightsEach]); simp only [reachBytes, Array.length_toList] at hb; show a0_.data.size ≤ _; omega
  obtain ⟨k1_, n1_, a1_, x1_, rfl, rfl, rfl, w1_0, w1_1, w1_2, w1_3⟩ := open_trig Tryd.underlying33 (by kernel_rfl) (by kernel_rfl) Tryd.underlying28 Tryd.underlying29 Tryd.underlying31 (by kernel_rfl) Tryd.underlying9 Tryd.underlying3 (hval 1 33 v1 rfl rfl) h1
  have b1_n : n1_.size ≤ 140737488351232 := by have hb := sized_any hsz (j := 1) (t := 33) rfl rfl (n := n1_.data.toList.length) (by simp [DataW.weights, Tryd.underlying33, Tryd.underlying31, DataW.weightsEach]); simp only [reachBytes, Array.length_toList] at hb; show n1_.data.size ≤ _; omega
  have b1_a : a1_.size ≤ 140737488351232 := by have hb := sized_any hsz (j := 1) (t := 33) rfl rfl (n := a1_.data.toList.length) (by simp [DataW.weights, Tryd.underlying33, Tryd.underlying31, DataW.weightsEach]); simp only [reachBytes, Array.length_toList] at hb; show a1_.data.size ≤ _; omega
  obtain ⟨k2_, n2_, a2_, x2_, rfl, rfl, rfl, w2_0, w2_1, w2_2, w2_3⟩ := open_trig Tryd.underlying33 (by kernel_rfl) (by kernel_rfl) Tryd.underlying28 Tryd.underlying29 Tryd.underlying31 (by kernel_rfl) Tryd.underlying9 Tryd.underlying3 (hval 2 33 v2 rfl rfl) h2
  have b2_n : n2_.size ≤ 140737488351232 := by have hb := sized_any hsz (j := 2) (t := 33) rfl rfl (n := n2_.data.toList.length) (by simp [DataW.weights, Tryd.underlying33, Tryd.underlying31, DataW.weightsEach]); simp only [reachBytes, Array.length_toList] at hb; show n2_.data.size ≤ _; omega
  have b2_a : a2_.size ≤ 140737488351232 := by have hb := sized_any hsz (j := 2) (t := 33) rfl rfl (n := a2_.data.toList.length) (by simp [DataW.weights, Tryd.underlying33, Tryd.underlying31, DataW.weightsEach]); simp only [reachBytes, Array.length_toList] at hb; show a2_.data.size ≤ _; omega
  clear hA0 hval0
  refine (searchLess_walk W hLT k0_ w0_0 n0_ b0_n a0_ b0_a x0_ w0_3 k1_ w1_0 n1_ b1_n a1_ b1_a x1_ w1_3 k2_ w2_0 n2_ b2_n a2_ b2_a x2_ w2_3).mono fun e W' ⟨he, bel⟩ => ?_
  subst he
  exact ⟨_, rfl, _, _, _, [], _, [], hW', trodAll_mk1 (shut_bool Tryd.underlying4 _), (trodAll_cons_mk (Below.trod laidOut (by kernel_rfl) (of_decide_eq_true (by kernel_rfl)) k0 bel lt0) (trodAll_cons_mk (Below.trod laidOut (by kernel_rfl) (of_decide_eq_true (by kernel_rfl)) k1 bel lt1) (trodAll_cons_mk (Below.trod laidOut (by kernel_rfl) (of_decide_eq_true (by kernel_rfl)) k2 bel lt2) trodAll_mk0))), rfl, bel.frame _, fun h => by cases h⟩

theorem over : Rows.searchLessRow.holds Tryd.pinned (OpenSpec.ofChange Rows.searchLessSpec) :=
  OpenClaim.holds_of_wide 4 Tryd.f4 rfl rfl rfl rfl rfl rfl rfl ⟨rfl, rfl, rfl, rfl, rfl⟩ rfl rfl rfl rfl rfl (by kernel_rfl) Tryd.func4 (by kernel_rfl)
    (of_decide_eq_true (by kernel_rfl)) (by unfold Func.isWrapper; first | (rw [if_pos (by decide +kernel)]; kernel_rfl) | (rw [if_neg (by decide +kernel)]; exact ⟨rfl, rfl⟩))
    (fun os started H enc _ => lifted os started H enc)

/-- The statement: the row's, closed by the given tie. -/
theorem proved : Rows.SearchLessCardSaid :=
  Claim7.holds_tied_plain_at .later [] [.data, .data, .data, .sentinel, .sentinel] true (true, "1bb6dc33e7987a0f0ebe50afc25f4917e82d8c0ff77240a5a995d96de987bd41") true
    over (fun _ h => by cases h) (by kernel_rfl) (fun _ h => by cases h) searchLess_row_tie rfl ⟨rfl, rfl⟩ (by kernel_rfl) rfl
    (fun f fn hf hfn => by
      obtain rfl : f = 4 := Option.some.inj ((show Tryd.prog.funcNamed "bolter/bolterlaw19.SearchLess" = some 4 by kernel_rfl).symm.trans hf) |>.symm
      obtain rfl : fn = Tryd.f4 := (Option.some.inj (Tryd.func4.symm.trans hfn)).symm
      exact ⟨by kernel_rfl, fun j t ht => by
        rw [Tryd.params4] at ht
        have hm := Array.mem_of_getElem? ht
        simp at hm
        subst hm
        exact (show Tryd.prog.wantsStandIn 33 = false by kernel_rfl)⟩)
    (by kernel_rfl)
#print axioms proved
end Go.Proofs.YtkdknfedieeenaaDoor.searchLessDone
