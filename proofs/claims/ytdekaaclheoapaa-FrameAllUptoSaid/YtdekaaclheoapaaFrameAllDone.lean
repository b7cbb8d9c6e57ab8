/- The statement 'FrameAllUptoSaid': FrameAll returns true for every input of the bulk that the statement names, and each argument reads afterwards as before. The step from the walk to the statement. -/
import Derived.Test.YtdekaaclheoapaaView
import Derived.Test.YtdekaaclheoapaaLawFrameA
import Derived.Test.YtdekaaclheoapaaView2
namespace Go.Proofs.Ytdekaaclheoapaa.frameAllDone
open Go.ChangeShapes Go.WideShapes Go.ChangeAt Go.RowKit
open Go.ChangeMaps (open_string shut_string)
set_option linter.unusedVariables false

set_option maxRecDepth 100000 in
theorem lifted (os : Os) (started : os.Started) (H : Type) (enc : TypeId × Value → H) (F : Stop.Interp) :
    ReturnsInHanded {} Try.checked os 12 .any ((Rows.OpenSpec.upto Rows.frameAllSpec).pre6 enc Try.prog Try.f12 Rows.frameAllUptoRow.domain false) (((Rows.OpenSpec.upto Rows.frameAllSpec).at F).post enc Try.prog Try.f12 false true false false) := by
  refine returnsInHanded_of_cond (C := Try.checked) (s := Rows.OpenSpec.upto Rows.frameAllSpec) (k := Rows.uptoSmall) rfl own started (by kernel_rfl) Try.func12
    (OpenSpec.witness (enc := enc) (C := Try.checked) (s := Rows.OpenSpec.upto Rows.frameAllSpec) (k := Rows.uptoSmall) rfl false ⟨#[], #[.slice none 0 0, .slice none 0 0], []⟩ 8 (by kernel_rfl) (by kernel_rfl) (by kernel_rfl)
      (x := ([.nil, .nil], [], [])) (by kernel_rfl) rfl (by kernel_rfl)) ?_
  intro W base args ds gs before hval0 hW hcnd hk _
  have hval : ∀ (j : Nat) t v, Try.f12.params[j]? = some t → args[j]? = some v → Value.okWide Try.prog W .any base t v := hval0
  have hW' := hW
  obtain ⟨p, q, hA0, hV, rfl, hfz, hnd⟩ := hW
  have hA : DataW.TrodAll enc Try.prog W 0 (fun _ => true) true Try.f12.params.toList args.toList ds p := hA0
  rw [Try.params12] at hA hval
  obtain ⟨v0, vs0, d0, ds0, p0, q0, hargs, rfl, rfl, h0, r0⟩ := trodAll_cons hA
  obtain ⟨v1, vs1, d1, ds1, p1, q1, rfl, rfl, rfl, h1, r1⟩ := trodAll_cons r0
  obtain ⟨rfl, rfl, rfl⟩ := trodAll_nil r1
  obtain rfl : args = #[v0, v1] := by cases args; simp_all
  obtain ⟨rfl, rfl⟩ := trodVars_none hV
  have k0 := h0
  have lt0 : ∀ x ∈ p0, x.block < W.heap.size := by obtain ⟨m, hm⟩ := k0; exact DataW.trod_lt m _ _ _ hm
  have k1 := h1
  have lt1 : ∀ x ∈ p1, x.block < W.heap.size := by obtain ⟨m, hm⟩ := k1; exact DataW.trod_lt m _ _ _ hm
  obtain ⟨m0, f0⟩ := trod_cells h0 (okWide_slice Try.underlying73 (hval 0 73 v0 rfl rfl))
  obtain ⟨A0, n0, c0, z0, el0, e0, S0, hl0, hz0, he0, hd0⟩ := view_rows Try.underlying73 Try.underlying22 Try.underlying5 (by kernel_rfl) (by kernel_rfl) f0
  obtain rfl : v0 = .slice A0 n0 c0 := by simpa using e0
  have B0 : c0 ≤ 1048576 := by
    have hb := bulk_bound hk
    have hc := bulk_cap S0.le he0 hd0
    rw [List.append_nil] at hb
    simp only [bulk_cons] at hb
    omega
  obtain ⟨m1, f1⟩ := trod_cells h1 (okWide_slice Try.underlying22 (hval 1 22 v1 rfl rfl))
  obtain ⟨A1, n1, c1, z1, e1, S1, hl1, hz1, hd1⟩ := view_ints Try.underlying22 Try.underlying5 (by kernel_rfl) f1
  obtain rfl : v1 = .slice A1 n1 c1 := by simpa using e1
  have B1 : c1 ≤ 1048576 := by
    have hb := bulk_bound hk
    have hc := bulk_cap S1.le (by simpa using hl1) hd1
    rw [List.append_nil] at hb
    simp only [bulk_cons] at hb
    omega
  clear hA0 hval0
  refine (frameAll_walk W A0 n0 c0 z0 S0 hl0 hz0 B0 A1 n1 c1 z1 S1 hl1 hz1 B1).mono fun e W' ⟨he, bel⟩ => ?_
  subst he
  exact ⟨_, rfl, _, _, _, [], _, [], hW', trodAll_mk1 (shut_bool Try.underlying4 _), (trodAll_cons_mk (Below.trod laidOut (by kernel_rfl) (of_decide_eq_true (by kernel_rfl)) k0 bel lt0) (trodAll_cons_mk (Below.trod laidOut (by kernel_rfl) (of_decide_eq_true (by kernel_rfl)) k1 bel lt1) trodAll_mk0)), rfl, bel.frame _, fun h => by cases h⟩

theorem over : Rows.frameAllUptoRow.holds Try.pinned (Rows.OpenSpec.upto Rows.frameAllSpec) :=
  OpenClaim.holds_of_cond 12 Try.f12 rfl rfl rfl rfl rfl rfl rfl ⟨rfl, rfl, rfl, rfl, rfl⟩ rfl rfl rfl rfl rfl (by kernel_rfl) Try.func12 (by kernel_rfl)
    (of_decide_eq_true (by kernel_rfl)) (by unfold Func.isWrapper; first | (rw [if_pos (by decide +kernel)]; kernel_rfl) | (rw [if_neg (by decide +kernel)]; exact ⟨rfl, rfl⟩))
    (fun os started H enc _ F => lifted os started H enc F)

/-- The statement. -/
theorem proved : Rows.FrameAllUptoSaid := over
#print axioms proved
end Go.Proofs.Ytdekaaclheoapaa.frameAllDone
