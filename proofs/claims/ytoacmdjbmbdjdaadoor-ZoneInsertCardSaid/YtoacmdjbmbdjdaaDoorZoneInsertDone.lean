/- The statement 'ZoneInsertCardSaid': ZoneInsert returns true for every input, and each argument reads afterwards as before. The step from the walk to the statement. -/
import Derived.Test.YtoacmdjbmbdjdaaDoorView
import Derived.Test.YtoacmdjbmbdjdaaDoorLawZonI
import Derived.Handed
import Derived.SevenTiedAt
import Derived.Test.YtoacmdjbmbdjdaaDoorCards
import Derived.Test.YtoacmdjbmbdjdaaDoorLaid
import Derived.Test.YtoacmdjbmbdjdaaDoorTie
import Derived.Test.YtoacmdjbmbdjdaaDoorView5
import Derived.Test.YtoacmdjbmbdjdaaDoorViewA
namespace Go.Proofs.YtoacmdjbmbdjdaaDoor.zoneInsertDone
open Go.ChangeShapes Go.WideShapes Go.ChangeAt Go.RowKit
open Go.ChangeMaps (open_string shut_string)
set_option linter.unusedVariables false

set_option maxRecDepth 100000 in
theorem lifted (os : Os) (started : os.Started) (H : Type) (enc : TypeId × Value → H) :
    ReturnsInHanded {} Tryd.checked os 3 .any (fun w args => (Rows.zoneInsertSpec.pre enc Tryd.prog Tryd.f3 [] false w args ∧ laidMetH Tryd.prog laidE w) ∧ sizedMet enc Tryd.prog Tryd.f3 (OpenSpec.ofChange Rows.zoneInsertSpec) false w args) (Rows.zoneInsertSpec.post enc Tryd.prog Tryd.f3 false true false false) := by
  refine returnsInHanded_of_change_and (C := Tryd.checked) (X := fun w _ => laidMetH Tryd.prog laidE w) (fun _ _ _ hh h => h.of_heap hh) own started (by kernel_rfl) Tryd.func3
    (ChangeSpec.witness_at (enc := enc) (C := Tryd.checked) (os := os) (X := fun w _ => laidMetH Tryd.prog laidE w) false (laidWorld os) #[.slice none 0 0, .agg #[.slice none 0 0, .int .u8 0, .int .u32 0, .slice none 0 0, .string ByteArray.empty], .agg #[.slice none 0 0, .int .u8 0, .int .u32 0, .slice none 0 0, .string ByteArray.empty]] 8 rfl (by kernel_rfl) (by kernel_rfl) (by kernel_rfl) (by kernel_rfl) (by kernel_rfl) (laidWorld_met os _)) ?_
  intro W base args ds gs before hval0 hW hcnd hsz0 hL _
  have hE : Etype W := etype_of_laid hL
  have hsz : (DataW.weightsEach Tryd.prog (Tryd.f3.params.toList ++ Rows.zoneInsertSpec.plain.varTypes Tryd.prog) (ds ++ gs)).all (· ≤ reachBytes) = true := hsz0
  have hval : ∀ (j : Nat) t v, Tryd.f3.params[j]? = some t → args[j]? = some v → Value.okWide Tryd.prog W .any base t v := hval0
  have hW' := hW
  obtain ⟨p, q, hA0, hV, rfl, hfz, hnd⟩ := hW
  have hA : DataW.TrodAll enc Tryd.prog W 0 (fun _ => true) true Tryd.f3.params.toList args.toList ds p := hA0
  rw [Tryd.params3] at hA hval hsz
  obtain ⟨v0, vs0, d0, ds0, p0, q0, hargs, rfl, rfl, h0, r0⟩ := trodAll_cons hA
  obtain ⟨v1, vs1, d1, ds1, p1, q1, rfl, rfl, rfl, h1, r1⟩ := trodAll_cons r0
  obtain ⟨v2, vs2, d2, ds2, p2, q2, rfl, rfl, rfl, h2, r2⟩ := trodAll_cons r1
  obtain ⟨rfl, rfl, rfl⟩ := trodAll_nil r2
  obtain rfl : args = #[v0, v1, v2] := by cases args; simp_all
  obtain ⟨rfl, rfl⟩ := trodVars_none hV
  have k0 := h0
  have lt0 : ∀ x ∈ p0, x.block < W.heap.size := by obtain ⟨m, hm⟩ := k0; exact DataW.trod_lt m _ _ _ hm
  have k1 := h1
  have lt1 : ∀ x ∈ p1, x.block < W.heap.size := by obtain ⟨m, hm⟩ := k1; exact DataW.trod_lt m _ _ _ hm
  have k2 := h2
  have lt2 : ∀ x ∈ p2, x.block < W.heap.size := by obtain ⟨m, hm⟩ := k2; exact DataW.trod_lt m _ _ _ hm
  obtain ⟨m0, f0⟩ := trod_cells h0 (okWide_slice Tryd.underlying22 (hval 0 22 v0 rfl rfl))
  obtain ⟨A0, n0, c0, z0, el0, e0, S0, he0, hd0, hw0⟩ := view_acts5 Tryd.underlying22 Tryd.underlying26 (by kernel_rfl) (by kernel_rfl) Tryd.underlying23 Tryd.underlying5 (by kernel_rfl) (by kernel_rfl) Tryd.underlying5 Tryd.underlying24 Tryd.underlying23 Tryd.underlying5 (by kernel_rfl) (by kernel_rfl) Tryd.underlying9 f0
  obtain rfl : v0 = .slice A0 n0 c0 := by simpa using e0
  obtain ⟨u1_0, u1_1, u1_2, u1_3, u1_4, y1_0, y1_1, y1_2, y1_3, y1_4, nn1, rfl, rfl, rfl, t1_0, t1_1, t1_2, t1_3, t1_4⟩ := open_agg5 Tryd.underlying26 (by kernel_rfl) (by kernel_rfl) (hval 1 26 v1 rfl rfl) h1
  obtain ⟨A1_0, n1_0, c1_0, z1_0, e1_0, S1_0, hl1_0, hz1_0, hd1_0⟩ := view_ints Tryd.underlying23 Tryd.underlying5 (by kernel_rfl) t1_0
  obtain rfl : u1_0 = .slice A1_0 n1_0 c1_0 := by simpa using e1_0
  obtain ⟨y1_0, p1_0⟩ := y1_0
  simp only at hd1_0
  obtain ⟨a1_1, e1_1, g1_1, w1_1⟩ := DataW.trod_int Tryd.underlying5 t1_1
  simp only [List.cons.injEq, and_true] at e1_1
  subst e1_1 g1_1
  obtain ⟨a1_2, e1_2, g1_2, w1_2⟩ := DataW.trod_int Tryd.underlying24 t1_2
  simp only [List.cons.injEq, and_true] at e1_2
  subst e1_2 g1_2
  obtain ⟨A1_3, n1_3, c1_3, z1_3, e1_3, S1_3, hl1_3, hz1_3, hd1_3⟩ := view_ints Tryd.underlying23 Tryd.underlying5 (by kernel_rfl) t1_3
  obtain rfl : u1_3 = .slice A1_3 n1_3 c1_3 := by simpa using e1_3
  obtain ⟨y1_3, p1_3⟩ := y1_3
  simp only at hd1_3
  obtain ⟨a1_4, e1_4, g1_4, w1_4⟩ := DataW.trod_string Tryd.underlying9 t1_4
  simp only [List.cons.injEq, and_true] at e1_4
  subst e1_4 g1_4
  have B1_0 : c1_0 ≤ 140737488351232 := by
    have hle := S1_0.le
    rcases hd1_0 with ⟨_, _, h0⟩ | ⟨sp, rfl, hsp⟩
    · omega
    · have hb := sized_any hsz (j := 1) (t := 26) rfl rfl (n := ((z1_0.map fun z => DataW.lit (H := H) (.int .u8 z)).length + sp.length) * Tryd.prog.bytesOf 5) (by simp [DataW.weights, Tryd.underlying26, Tryd.underlying23, DataW.weightsEach])
      rw [show Tryd.prog.bytesOf 5 = 1 by kernel_rfl] at hb
      simp only [reachBytes, List.length_map, hl1_0, hsp] at hb
      omega
  have B1_3 : c1_3 ≤ 140737488351232 := by
    have hle := S1_3.le
    rcases hd1_3 with ⟨_, _, h0⟩ | ⟨sp, rfl, hsp⟩
    · omega
    · have hb := sized_any hsz (j := 1) (t := 26) rfl rfl (n := ((z1_3.map fun z => DataW.lit (H := H) (.int .u8 z)).length + sp.length) * Tryd.prog.bytesOf 5) (by simp [DataW.weights, Tryd.underlying26, Tryd.underlying23, DataW.weightsEach])
      rw [show Tryd.prog.bytesOf 5 = 1 by kernel_rfl] at hb
      simp only [reachBytes, List.length_map, hl1_3, hsp] at hb
      omega
  have w1_4b : a1_4.size ≤ 140737488351232 := by have hb := sized_any hsz (j := 1) (t := 26) rfl rfl (n := a1_4.data.toList.length) (by simp [DataW.weights, Tryd.underlying26, DataW.weightsEach]); simp only [reachBytes, Array.length_toList] at hb; show a1_4.data.size ≤ _; omega
  obtain ⟨u2_0, u2_1, u2_2, u2_3, u2_4, y2_0, y2_1, y2_2, y2_3, y2_4, nn2, rfl, rfl, rfl, t2_0, t2_1, t2_2, t2_3, t2_4⟩ := open_agg5 Tryd.underlying26 (by kernel_rfl) (by kernel_rfl) (hval 2 26 v2 rfl rfl) h2
  obtain ⟨A2_0, n2_0, c2_0, z2_0, e2_0, S2_0, hl2_0, hz2_0, hd2_0⟩ := view_ints Tryd.underlying23 Tryd.underlying5 (by kernel_rfl) t2_0
  obtain rfl : u2_0 = .slice A2_0 n2_0 c2_0 := by simpa using e2_0
  obtain ⟨y2_0, p2_0⟩ := y2_0
  simp only at hd2_0
  obtain ⟨a2_1, e2_1, g2_1, w2_1⟩ := DataW.trod_int Tryd.underlying5 t2_1
  simp only [List.cons.injEq, and_true] at e2_1
  subst e2_1 g2_1
  obtain ⟨a2_2, e2_2, g2_2, w2_2⟩ := DataW.trod_int Tryd.underlying24 t2_2
  simp only [List.cons.injEq, and_true] at e2_2
  subst e2_2 g2_2
  obtain ⟨A2_3, n2_3, c2_3, z2_3, e2_3, S2_3, hl2_3, hz2_3, hd2_3⟩ := view_ints Tryd.underlying23 Tryd.underlying5 (by kernel_rfl) t2_3
  obtain rfl : u2_3 = .slice A2_3 n2_3 c2_3 := by simpa using e2_3
  obtain ⟨y2_3, p2_3⟩ := y2_3
  simp only at hd2_3
  obtain ⟨a2_4, e2_4, g2_4, w2_4⟩ := DataW.trod_string Tryd.underlying9 t2_4
  simp only [List.cons.injEq, and_true] at e2_4
  subst e2_4 g2_4
  have B2_0 : c2_0 ≤ 140737488351232 := by
    have hle := S2_0.le
    rcases hd2_0 with ⟨_, _, h0⟩ | ⟨sp, rfl, hsp⟩
    · omega
    · have hb := sized_any hsz (j := 2) (t := 26) rfl rfl (n := ((z2_0.map fun z => DataW.lit (H := H) (.int .u8 z)).length + sp.length) * Tryd.prog.bytesOf 5) (by simp [DataW.weights, Tryd.underlying26, Tryd.underlying23, DataW.weightsEach])
      rw [show Tryd.prog.bytesOf 5 = 1 by kernel_rfl] at hb
      simp only [reachBytes, List.length_map, hl2_0, hsp] at hb
      omega
  have B2_3 : c2_3 ≤ 140737488351232 := by
    have hle := S2_3.le
    rcases hd2_3 with ⟨_, _, h0⟩ | ⟨sp, rfl, hsp⟩
    · omega
    · have hb := sized_any hsz (j := 2) (t := 26) rfl rfl (n := ((z2_3.map fun z => DataW.lit (H := H) (.int .u8 z)).length + sp.length) * Tryd.prog.bytesOf 5) (by simp [DataW.weights, Tryd.underlying26, Tryd.underlying23, DataW.weightsEach])
      rw [show Tryd.prog.bytesOf 5 = 1 by kernel_rfl] at hb
      simp only [reachBytes, List.length_map, hl2_3, hsp] at hb
      omega
  have w2_4b : a2_4.size ≤ 140737488351232 := by have hb := sized_any hsz (j := 2) (t := 26) rfl rfl (n := a2_4.data.toList.length) (by simp [DataW.weights, Tryd.underlying26, DataW.weightsEach]); simp only [reachBytes, Array.length_toList] at hb; show a2_4.data.size ≤ _; omega
  clear hA0 hval0
  refine (zoneInsert_walk W hE A0 n0 c0 z0 S0 A1_0 n1_0 c1_0 z1_0 S1_0 hl1_0 hz1_0 B1_0 a1_1 w1_1 a1_2 w1_2 A1_3 n1_3 c1_3 z1_3 S1_3 hl1_3 hz1_3 B1_3 a1_4 w1_4b A2_0 n2_0 c2_0 z2_0 S2_0 hl2_0 hz2_0 B2_0 a2_1 w2_1 a2_2 w2_2 A2_3 n2_3 c2_3 z2_3 S2_3 hl2_3 hz2_3 B2_3 a2_4 w2_4b).mono fun e W' ⟨he, bel⟩ => ?_
  subst he
  exact ⟨_, rfl, _, _, _, [], _, [], hW', trodAll_mk1 (shut_bool Tryd.underlying4 _), (trodAll_cons_mk (Below.trod laidOut (by kernel_rfl) (of_decide_eq_true (by kernel_rfl)) k0 bel lt0) (trodAll_cons_mk (Below.trod laidOut (by kernel_rfl) (of_decide_eq_true (by kernel_rfl)) k1 bel lt1) (trodAll_cons_mk (Below.trod laidOut (by kernel_rfl) (of_decide_eq_true (by kernel_rfl)) k2 bel lt2) trodAll_mk0))), rfl, bel.frame _, fun h => by cases h⟩

theorem over : Rows.zoneInsertRow.holds Tryd.pinned (OpenSpec.ofChange Rows.zoneInsertSpec) :=
  OpenClaim.holds_of_wide 3 Tryd.f3 rfl rfl rfl rfl rfl rfl rfl ⟨rfl, rfl, rfl, rfl, rfl⟩ rfl rfl rfl rfl rfl (by kernel_rfl) Tryd.func3 (by kernel_rfl)
    (of_decide_eq_true (by kernel_rfl)) (by unfold Func.isWrapper; first | (rw [if_pos (by decide +kernel)]; kernel_rfl) | (rw [if_neg (by decide +kernel)]; exact ⟨rfl, rfl⟩))
    (fun os started H enc _ => lifted os started H enc)

/-- The statement: the row's, closed by the given tie. -/
theorem proved : Rows.ZoneInsertCardSaid :=
  Claim7.holds_tied_plain_at .later [] [.handle] true (true, "62cd11da1673cbada61ac074f30450bb8378dd7b40057ea0dc9340952b13d4d9") true
    over (fun _ h => by cases h) (by kernel_rfl) (fun _ h => by cases h) zoneInsert_row_tie rfl ⟨rfl, rfl⟩ (by kernel_rfl) rfl
    (fun f fn hf hfn => by
      obtain rfl : f = 3 := Option.some.inj ((show Tryd.prog.funcNamed "bolter/bolterlaw08.ZoneInsert" = some 3 by kernel_rfl).symm.trans hf) |>.symm
      obtain rfl : fn = Tryd.f3 := (Option.some.inj (Tryd.func3.symm.trans hfn)).symm
      exact ⟨by kernel_rfl, fun j t ht => by
        rw [Tryd.params3] at ht
        have hm := Array.mem_of_getElem? ht
        simp at hm
        rcases hm with rfl | rfl
        · exact (show Tryd.prog.wantsStandIn 22 = false by kernel_rfl)
        · exact (show Tryd.prog.wantsStandIn 26 = false by kernel_rfl)⟩)
    (by kernel_rfl)
#print axioms proved
end Go.Proofs.YtoacmdjbmbdjdaaDoor.zoneInsertDone
