/- Whether two rows of records are the same, as the statements ask it. -/
import Derived.Test.YtpbbnpglcadimaaDoorRecB
namespace Go.Proofs.YtpbbnpglcadimaaDoor
open Go.RowKit
set_option linter.unusedVariables false
set_option maxRecDepth 20000
set_option maxHeartbeats 1600000 in
theorem same_recs (A A' : Option Addr) (c c' : Nat) (rs rs' : List RecT) (w : World) (h : Recs w A rs) (h' : Recs w A' rs') (hn : rs.length ≤ maxLen) (hn' : rs'.length ≤ maxLen) :
    Calls Tryd.prog 11 #[.slice A rs.length c, .slice A' rs'.length c'] w fun e w' => e = .returned (.bool (decide (rs = rs'))) ∧ Below w.heap.size w w' := by
  unfold maxLen at hn hn'
  by_cases hl : rs.length = rs'.length
  · have hl' : (rs.length : Int) = rs'.length := by omega
    have H := Lib.hid h
    have H' := Lib.hid h'
    clear h h'
    go_enter Tryd.func11, Tryd.ntmps11
    go_wp2_with fail
    go_loopw [13] (fun i wr => ∃ k : Nat, k ≤ rs.length ∧ i = .int .i64 k ∧ rs.take k = rs'.take k ∧ Hid (Below w.heap.size w wr)) (fun i _ => rs.length - (intOf i).toNat)
    case atStart => exact ⟨0, Nat.zero_le _, rfl, by simp, Lib.hid (Below.refl _ _)⟩
    case round =>
      obtain ⟨k, hk, rfl, hT, HB⟩ := hrel
      by_cases hlt : k < rs.length
      · have hlt' : (k : Int) < rs.length := by omega
        obtain ⟨r, hr⟩ : ∃ r, rs[k]? = some r := ⟨_, List.getElem?_eq_getElem hlt⟩
        obtain ⟨r', hr'⟩ : ∃ r, rs'[k]? = some r := ⟨_, List.getElem?_eq_getElem (by omega)⟩
        obtain ⟨b, off, rfl, hb, g0, g1, g2, g3⟩ := (H.out.below HB.out) k _ hr
        obtain ⟨b', off', rfl, hb', g0', g1', g2', g3'⟩ := (H'.out.below HB.out) k _ hr'
        have HT := Lib.hid hT
        have HR := Lib.hid hr
        have HR' := Lib.hid hr'
        obtain ⟨q, hq⟩ : ∃ q, (!(r.1.toList == r'.1.toList && (r.2.1 == r'.2.1 && (r.2.2.1 == r'.2.2.1 && r.2.2.2.toList == r'.2.2.2.toList)))) = q := ⟨_, rfl⟩
        have hnq := fun w => rec_neq r r' w
        rw [hq] at hnq
        unfold recV at hnq
        have HQ := Lib.hid hq
        clear hq hT hr hr'
        go_upto_region 6 with fail
        go_quiet (fail)
        have HB2 := Lib.hid (show Below w.heap.size w _ from ⟨HB.out.os, HB.out.tape, HB.out.output, HB.out.size, HB.out.block⟩ : Below w.heap.size w (World.drewN _ nq))
        generalize World.drewN _ nq = W1 at *
        clear g0 g1 g2 g3 g0' g1' g2' g3' hnq
        cases q with
        | false =>
          go_wp2_with fail
          go_round
          case rel => exact ⟨k + 1, by omega, by go_num, recs_snoc HT.out HR.out HR'.out (rec_eq HQ.out), HB2⟩
          case measure => simp [intOf]; omega
        | true =>
          go_wp2_with fail
          go_ret
          have hd : decide (rs = rs') = false := decide_eq_false fun e => rec_ne HQ.out (by have := HR.out; rw [e, HR'.out] at this; injection this with this; exact this.symm)
          exact ⟨by rw [hd]; rfl, HB2.out⟩
      · have hlt' : ¬ (k : Int) < rs.length := by omega
        go_wp2_with fail
        go_ret
        have hd : decide (rs = rs') = true := decide_eq_true (by rwa [List.take_of_length_le (by omega), List.take_of_length_le (by omega)] at hT)
        exact ⟨by rw [hd]; rfl, HB.out⟩
  · have hl' : ¬ (rs.length : Int) = rs'.length := by omega
    have hd : decide (rs = rs') = false := decide_eq_false fun e => hl (by rw [e])
    go_enter Tryd.func11, Tryd.ntmps11
    go_wp2_with fail
    go_ret
    exact ⟨by rw [hd]; rfl, Below.refl _ _⟩
end Go.Proofs.YtpbbnpglcadimaaDoor
