/- The walk of PointRead. -/
import Derived.Test.YtliofipccicnfaaLawPtR0
namespace Go.Proofs.Ytliofipccicnfaa
open Go.RowKit
set_option linter.unusedVariables false
set_option linter.unusedSimpArgs false
set_option maxRecDepth 20000
/-- Ahead of all bytes there is none. -/
theorem read_neg (s : ByteArray) (z : Int) (w : World) (hz : z < 0) : Calls Try.prog 7 #[.string s, .int .i64 z] w fun e w' => e = .returned (ptV none) ∧ Below w.heap.size w w' := by
  go_enter Try.func7, Try.ntmps7
  go_wp2_with fail
  go_step3
  go_wp2_with fail
  go_step3
  go_wp2_with fail
  rw [Exit.noGoto_ret]
  refine bodyPost_ret (v := .tuple #[.string ⟨#[]⟩, .int .i64 0, .bool false]) (by simp [results, Try.results7, go_sem]) rfl ⟨rfl, Below.refl _ _⟩
theorem lread_neg (s : ByteArray) (z : Int) (w : World) (hz : z < 0) : Calls Try.prog 8 #[.string s, .int .i64 z] w fun e w' => e = .returned (ptV none) ∧ Below w.heap.size w w' := by
  go_enter Try.func8, Try.ntmps8
  go_wp2_with fail
  go_loopw [1, 7, 8, 9, 10] (fun vi ve vl v vn wr => vi = .int .i64 z ∧ vn = .int .i64 0 ∧ wr = w) (fun _ _ _ _ vn _ => 3100 - (intOf vn).toNat)
  case atStart => exact ⟨rfl, rfl, rfl⟩
  case round =>
    obtain ⟨rfl, rfl, rfl⟩ := hrel
    go_wp2_with fail
    refine bodyPost_ret (v := .tuple #[.string ⟨#[]⟩, .int .i64 0, .bool false]) (by simp [results, Try.results8, go_sem]) rfl ⟨rfl, Below.refl _ _⟩
set_option maxHeartbeats 1600000 in
theorem pointRead_walk (w : World) (s : ByteArray) (hs : s.size ≤ 140737488351232) (z : Int) (hz : (Lit.int .i64 z).wf = true) :
    Calls Try.prog 3 #[.string s, .int .i64 z] w fun e w' => e = .returned (.bool true) ∧ Below w.heap.size w w' := by
  by_cases hbig : s.size ≤ 3000
  · have hx : ∃ V, (∀ w, Calls Try.prog 7 #[.string s, .int .i64 z] w fun e w' => e = .returned V ∧ Below w.heap.size w w') ∧ (∀ w, Calls Try.prog 8 #[.string s, .int .i64 z] w fun e w' => e = .returned V ∧ Below w.heap.size w w') ∧ ∃ r, V = ptV r := by
      by_cases h0 : z < 0
      · exact ⟨ptV none, fun w => read_neg s z w h0, fun w => lread_neg s z w h0, none, rfl⟩
      · have hzb : z ≤ 9223372036854775807 := by
          have := bounds_i64 hz
          omega
        obtain ⟨i, rfl⟩ : ∃ i : Nat, z = i := ⟨z.toNat, by omega⟩
        obtain ⟨K, r, hK⟩ := rd_ends s i (s.size - i) i [] 0 0 (Nat.le_refl _)
        have hrf := rd_rf_start (fun ls => (makeOf ls).isSome) make_small hbig hK
        refine ⟨ptV r, fun w => read_any s i r K w hs (by omega) hK, fun w => ?_, r, rfl⟩
        have := lread_any s i w hbig (by omega)
        rw [ptV_same hrf] at this
        exact this
    obtain ⟨V, h1, h2, r, hr⟩ := hx
    have hb' : ¬ (3000 : Int) < s.size := by omega
    have MY := Lib.hid (fun (n : ByteArray) w (h : n.size ≤ 254) => may_any n w (by unfold maxLen; omega))
    have H1 := Lib.hid h1
    have H2 := Lib.hid h2
    have H3 := Lib.hid hr
    clear h1 h2 hr hz
    rcases ptV_cases r with h | ⟨n, e, h, hm, hn⟩
    · have hV : V = .tuple #[.string ⟨#[]⟩, .int .i64 0, .bool false] := by rw [H3.out, h]
      subst hV
      clear H3 h
      go_enter Try.func3, Try.ntmps3
      go_wp2_with fail
      refine (awake03 _).mono ?_
      rintro e w1 ⟨rfl, hb1⟩
      have HB1 := Lib.hid hb1
      clear hb1
      go_wp2_with fail
      refine (H1.out _).mono ?_
      rintro e w2 ⟨rfl, hb2⟩
      have HB2 := Lib.hid (below_trans HB1.out HB1.out.size hb2)
      clear hb2
      go_wp2_with fail
      refine (H2.out _).mono ?_
      rintro e w3 ⟨rfl, hb3⟩
      have HB3 := Lib.hid (below_trans HB2.out HB2.out.size hb3)
      clear hb3
      go_wp2_with fail
      go_ret
      exact ⟨rfl, HB3.out⟩
    · have hV : V = .tuple #[.string n, .int .i64 e, .bool true] := by rw [H3.out, h]
      subst hV
      clear H3 h
      have hnn : (n.toList == n.toList) = true := str_same _ _ rfl
      have HM := Lib.hid (fun w => MY.out n w hn)
      rw [hm] at HM
      clear hm hn MY
      go_enter Try.func3, Try.ntmps3
      go_wp2_with fail
      refine (awake03 _).mono ?_
      rintro e w1 ⟨rfl, hb1⟩
      have HB1 := Lib.hid hb1
      clear hb1
      go_wp2_with fail
      refine (H1.out _).mono ?_
      rintro e w2 ⟨rfl, hb2⟩
      have HB2 := Lib.hid (below_trans HB1.out HB1.out.size hb2)
      clear hb2
      go_wp2_with fail
      refine (H2.out _).mono ?_
      rintro e w3 ⟨rfl, hb3⟩
      have HB3 := Lib.hid (below_trans HB2.out HB2.out.size hb3)
      clear hb3
      go_wp2_with fail
      refine (HM.out _).mono ?_
      rintro e w4 ⟨rfl, hb4⟩
      have HB4 := Lib.hid (below_trans HB3.out HB3.out.size hb4)
      clear hb4
      go_wp2_with fail
      go_ret
      exact ⟨rfl, HB4.out⟩
  · have hb' : (3000 : Int) < s.size := by omega
    clear hbig hz hs
    go_enter Try.func3, Try.ntmps3
    go_wp2_with fail
    refine (awake03 _).mono ?_
    rintro e w1 ⟨rfl, hb1⟩
    have HB1 := Lib.hid hb1
    clear hb1
    go_wp2_with fail
    go_ret
    exact ⟨rfl, HB1.out⟩
end Go.Proofs.Ytliofipccicnfaa
