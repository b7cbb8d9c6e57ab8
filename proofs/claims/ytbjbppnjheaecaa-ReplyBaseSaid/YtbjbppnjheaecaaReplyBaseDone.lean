/- The statement 'ReplyBaseSaid': ReplyBase returns true for every input, and each argument reads afterwards as before. The step from the walk to the statement. -/
import Derived.Test.YtbjbppnjheaecaaView
import Derived.Test.YtbjbppnjheaecaaLawRepB
import Derived.Test.YtbjbppnjheaecaaViewR
namespace Go.Proofs.Ytbjbppnjheaecaa.replyBaseDone
open Go.ChangeShapes Go.WideShapes Go.ChangeAt Go.RowKit
open Go.ChangeMaps (open_string shut_string)
set_option linter.unusedVariables false

set_option maxRecDepth 100000 in
theorem lifted (os : Os) (started : os.Started) (H : Type) (enc : TypeId × Value → H) :
    ReturnsInHanded {} Try.checked os 3 .any (Rows.replyBaseSpec.pre6 enc Try.prog Try.f3 Rows.replyBaseRow.domain false) (Rows.replyBaseSpec.post enc Try.prog Try.f3 false true false false) := by
  refine returnsInHanded_of_change_sized (C := Try.checked) own started (by kernel_rfl) Try.func3
    (ChangeSpec.witness6 (enc := enc) (C := Try.checked) false ⟨#[], #[.agg #[.int .u16 0, .bool false, .int .i64 0, .bool false, .bool false, .bool false, .bool false, .int .i64 0, .string ByteArray.empty, .int .u16 0, .slice none 0 0, .slice none 0 0, .slice none 0 0, .int .i64 0], .int .i64 0, .agg #[.int .u16 0, .bool false, .int .i64 0, .bool false, .bool false, .bool false, .bool false, .int .i64 0, .string ByteArray.empty, .int .u16 0, .slice none 0 0, .slice none 0 0, .slice none 0 0, .int .i64 0]], []⟩ 8 (by kernel_rfl) (by kernel_rfl) (by kernel_rfl) (by kernel_rfl)) ?_
  intro W base args ds gs before hval0 hW hcnd hsz0 _
  have hsz : (DataW.weightsEach Try.prog (Try.f3.params.toList ++ Rows.replyBaseSpec.plain.varTypes Try.prog) (ds ++ gs)).all (· ≤ reachBytes) = true := hsz0
  have hval : ∀ (j : Nat) t v, Try.f3.params[j]? = some t → args[j]? = some v → Value.okWide Try.prog W .any base t v := hval0
  have hW' := hW
  obtain ⟨p, q, hA0, hV, rfl, hfz, hnd⟩ := hW
  have hA : DataW.TrodAll enc Try.prog W 0 (fun _ => true) true Try.f3.params.toList args.toList ds p := hA0
  rw [Try.params3] at hA hval hsz
  obtain ⟨v0, vs0, d0, ds0, p0, q0, hargs, rfl, rfl, h0, r0⟩ := trodAll_cons hA
  obtain ⟨v1, vs1, d1, ds1, p1, q1, rfl, rfl, rfl, h1, r1⟩ := trodAll_cons r0
  obtain ⟨v2, vs2, d2, ds2, p2, q2, rfl, rfl, rfl, h2, r2⟩ := trodAll_cons r1
  obtain ⟨rfl, rfl, rfl⟩ := trodAll_nil r2
  obtain rfl : args = #[v0, v1, v2] := by cases args; simp_all
  obtain ⟨rfl, rfl⟩ := trodVars_none hV
  have k0 := h0
  have lt0 : ∀ x ∈ p0, x.block < W.heap.size := by obtain ⟨m, hm⟩ := k0; exact DataW.trod_lt m _ _ _ hm
  have k1 := h1
  have lt1 : ∀ x ∈ p1, x.block < W.heap.size := by obtain ⟨m, hm⟩ := k1; exact DataW.trod_lt m _ _ _ hm
  have k2 := h2
  have lt2 : ∀ x ∈ p2, x.block < W.heap.size := by obtain ⟨m, hm⟩ := k2; exact DataW.trod_lt m _ _ _ hm
  obtain ⟨m0, rfl, M0, x0, y0, z0⟩ := open_msg (te := 29) (e := 44) Try.underlying31 (by kernel_rfl) (by kernel_rfl) Try.underlying24 (by kernel_rfl) Try.underlying22 Try.underlying4 Try.underlying3 Try.underlying4 Try.underlying4 Try.underlying4 Try.underlying4 Try.underlying3 Try.underlying28 (by kernel_rfl) Try.underlying25 Try.underlying26 rfl rfl rfl Try.underlying3 Try.underlying29 Try.underlying44 (by kernel_rfl) (by kernel_rfl) Try.underlying25 Try.underlying26 Try.underlying42 Try.underlying9 (hval 0 31 v0 rfl rfl) h0
  have B0x : m0.c1 ≤ 3518437208780 := by
    rcases x0 with h0 | h0
    · rw [h0]; exact Nat.zero_le _
    · have hb := sized_any hsz (j := 0) (t := 31) rfl rfl h0
      rw [show Try.prog.bytesOf 44 = 40 by kernel_rfl] at hb
      simp only [reachBytes] at hb
      omega
  have B0y : m0.c2 ≤ 3518437208780 := by
    rcases y0 with h0 | h0
    · rw [h0]; exact Nat.zero_le _
    · have hb := sized_any hsz (j := 0) (t := 31) rfl rfl h0
      rw [show Try.prog.bytesOf 44 = 40 by kernel_rfl] at hb
      simp only [reachBytes] at hb
      omega
  have B0z : m0.c3 ≤ 3518437208780 := by
    rcases z0 with h0 | h0
    · rw [h0]; exact Nat.zero_le _
    · have hb := sized_any hsz (j := 0) (t := 31) rfl rfl h0
      rw [show Try.prog.bytesOf 44 = 40 by kernel_rfl] at hb
      simp only [reachBytes] at hb
      omega
  obtain ⟨a1, rfl, rfl, rfl, w1⟩ := open_int Try.underlying3 (hval 1 3 v1 rfl rfl) h1
  obtain ⟨m2, rfl, M2, x2, y2, z2⟩ := open_msg (te := 29) (e := 44) Try.underlying31 (by kernel_rfl) (by kernel_rfl) Try.underlying24 (by kernel_rfl) Try.underlying22 Try.underlying4 Try.underlying3 Try.underlying4 Try.underlying4 Try.underlying4 Try.underlying4 Try.underlying3 Try.underlying28 (by kernel_rfl) Try.underlying25 Try.underlying26 rfl rfl rfl Try.underlying3 Try.underlying29 Try.underlying44 (by kernel_rfl) (by kernel_rfl) Try.underlying25 Try.underlying26 Try.underlying42 Try.underlying9 (hval 2 31 v2 rfl rfl) h2
  have B2x : m2.c1 ≤ 3518437208780 := by
    rcases x2 with h0 | h0
    · rw [h0]; exact Nat.zero_le _
    · have hb := sized_any hsz (j := 2) (t := 31) rfl rfl h0
      rw [show Try.prog.bytesOf 44 = 40 by kernel_rfl] at hb
      simp only [reachBytes] at hb
      omega
  have B2y : m2.c2 ≤ 3518437208780 := by
    rcases y2 with h0 | h0
    · rw [h0]; exact Nat.zero_le _
    · have hb := sized_any hsz (j := 2) (t := 31) rfl rfl h0
      rw [show Try.prog.bytesOf 44 = 40 by kernel_rfl] at hb
      simp only [reachBytes] at hb
      omega
  have B2z : m2.c3 ≤ 3518437208780 := by
    rcases z2 with h0 | h0
    · rw [h0]; exact Nat.zero_le _
    · have hb := sized_any hsz (j := 2) (t := 31) rfl rfl h0
      rw [show Try.prog.bytesOf 44 = 40 by kernel_rfl] at hb
      simp only [reachBytes] at hb
      omega
  clear hA0 hval0
  refine (replyBase_walk W m0 M0 B0x B0y B0z a1 w1 m2 M2 B2x B2y B2z).mono fun e W' ⟨he, bel⟩ => ?_
  subst he
  exact ⟨_, rfl, _, _, _, [], _, [], hW', trodAll_mk1 (shut_bool Try.underlying4 _), (trodAll_cons_mk (Below.trod laidOut (by kernel_rfl) (of_decide_eq_true (by kernel_rfl)) k0 bel lt0) (trodAll_cons_mk (Below.trod laidOut (by kernel_rfl) (of_decide_eq_true (by kernel_rfl)) k1 bel lt1) (trodAll_cons_mk (Below.trod laidOut (by kernel_rfl) (of_decide_eq_true (by kernel_rfl)) k2 bel lt2) trodAll_mk0))), rfl, bel.frame _, fun h => by cases h⟩

theorem over : Rows.replyBaseRow.holds Try.pinned (OpenSpec.ofChange Rows.replyBaseSpec) :=
  OpenClaim.holds_of_wide 3 Try.f3 rfl rfl rfl rfl rfl rfl rfl ⟨rfl, rfl, rfl, rfl, rfl⟩ rfl rfl rfl rfl rfl (by kernel_rfl) Try.func3 (by kernel_rfl)
    (of_decide_eq_true (by kernel_rfl)) (by unfold Func.isWrapper; first | (rw [if_pos (by decide +kernel)]; kernel_rfl) | (rw [if_neg (by decide +kernel)]; exact ⟨rfl, rfl⟩))
    (fun os started H enc _ => lifted os started H enc)

/-- The statement. -/
theorem proved : Rows.ReplyBaseSaid := over
#print axioms proved
end Go.Proofs.Ytbjbppnjheaecaa.replyBaseDone
