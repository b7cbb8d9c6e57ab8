/- The walk of ZoneRight. -/
import Derived.Test.YtoacmdjbmbdjdaaZonL
import Derived.Test.YtoacmdjbmbdjdaaZonG
import Derived.Test.YtoacmdjbmbdjdaaLawZonA
namespace Go.Proofs.Ytoacmdjbmbdjdaa
open Go.RowKit
set_option linter.unusedVariables false
set_option linter.unusedSimpArgs false
set_option maxRecDepth 20000
theorem dataOf_type (q : Nat) (X s : ByteArray) : (dataOf q X s).1 < 65536 := by
  unfold dataOf
  (repeat' split) <;> first | decide | (simp; done) | omega
def fitR (r : RecT) : Prop := (0 ≤ r.2.1 ∧ r.2.1 < 65536) ∧ r.1.size ≤ 254 ∧ r.2.2.2.size ≤ 600
theorem fit_recOf (a : ActT) : fitR (recOf a) := ⟨⟨Int.natCast_nonneg _, by
  have := dataOf_type (a.2.1.toNat % 8) (nmB a.2.2.2.1.2.2.2) (txtB a.2.2.2.2)
  show ((dataOf _ _ _).1 : Int) < 65536
  omega⟩, recOf_name a, recOf_data a⟩
theorem may_all : ∃ m : RecT → Bool, ∀ r, fitR r → ∀ w, Calls Try.prog 47 #[recV r] w fun e w' => e = .returned (.bool (m r)) ∧ Below w.heap.size w w' := by
  have key : ∀ r : RecT, ∃ q : Bool, fitR r → ∀ w, Calls Try.prog 47 #[recV r] w fun e w' => e = .returned (.bool q) ∧ Below w.heap.size w w' := fun r => by
    by_cases h : fitR r
    · obtain ⟨q, hq⟩ := mayrec_any r h.1 (Nat.le_trans h.2.1 (by decide)) (Nat.le_trans h.2.2 (by decide))
      exact ⟨q, fun _ => hq⟩
    · exact ⟨false, fun h' => absurd h' h⟩
  exact ⟨fun r => Classical.choose (key r), fun r => Classical.choose_spec (key r)⟩
/-- Records as they come, or in order. -/
def ordR (b : Bool) (rs : List RecT) : List RecT := if b then sortedR rs else rs
set_option maxHeartbeats 6400000 in
theorem zoneRight_walk (w : World) (A : Option Addr) (n c : Nat) (ds : List ActT) (hV : Acts5 w A n c ds)
    (C : Option Addr) (p q : Nat) (zs : List Int) (hT : SlView w C p q (zs.map (Value.int .u8))) (hl : zs.length = p) (hzw : ∀ z ∈ zs, (Lit.int .u8 z).wf = true) (hq : q ≤ 140737488351232) (srt : Bool) :
    Calls Try.prog 7 #[.slice A n c, .slice C p q, .bool srt] w fun e w' => e = .returned (.bool true) ∧ Below w.heap.size w w' := by
  obtain ⟨m, hm⟩ := may_all
  obtain ⟨l, hl2⟩ := bytes_of zs hzw
  have hpq := hT.le
  have HOKA : Hid (ActOk w ((C, p, q, l), 0, 0, (none, 0, 0, []), ⟨#[]⟩)) := Lib.hid ⟨by have := hT.sl; rw [hl2] at this; exact this, (by unfold maxLen; dsimp only; omega), ⟨Int.le_refl _, by simp⟩, ⟨Int.le_refl _, by simp⟩, Sl.nil _ _ _ _, Nat.zero_le _, Nat.zero_le _⟩
  have HV := Lib.hid hV
  have HMM := Lib.hid hm
  clear hV hT hl hzw hl2 hm
  go_enter Try.func7, Try.ntmps7
  go_wp2_with fail
  refine (awake08_any _).mono ?_
  rintro e w1 ⟨rfl, hb1⟩
  have HB1 := Lib.hid hb1
  clear hb1
  go_wp2_with fail
  refine (records_any A n c 40 ds w1 (HV.out.at_.below HB1.out) HV.out.most (by decide)).mono ?_
  rintro e w2 ⟨v1, rfl, ho1⟩
  obtain ⟨rs, hrs⟩ : ∃ rs, rs = recsOf ds 40 := ⟨_, rfl⟩
  have hfit : ∀ r ∈ rs, fitR r := by
    intro r hr
    rw [hrs] at hr
    obtain ⟨a, -, rfl⟩ := List.mem_map.1 hr
    exact fit_recOf a
  rw [← hrs] at ho1
  obtain ⟨N, hN⟩ : ∃ N, rs.length = N := ⟨_, rfl⟩
  have hN8 : N ≤ 40 := by rw [← hN, hrs, recsOf_len]; omega
  obtain ⟨A1, c1, rfl, -, -, -⟩ := ho1.slice
  have HR2 := Lib.hid (ho1.recs rfl)
  rw [hN]
  have HB2 := Lib.hid (below_trans HB1.out HB1.out.size ho1.bel)
  have HN := Lib.hid hN
  have HF := Lib.hid hfit
  clear ho1 hrs hN hfit HB1
  have RC := Lib.hid (fun w h => record_any ((C, p, q, l), 0, 0, (none, 0, 0, []), ⟨#[]⟩) w h)
  have hos := recOf_name ((C, p, q, l), 0, 0, (none, 0, 0, []), ⟨#[]⟩)
  obtain ⟨rr, hrr⟩ : ∃ rr, recOf ((C, p, q, l), 0, 0, (none, 0, 0, []), ⟨#[]⟩) = rr := ⟨_, rfl⟩
  rw [hrr] at RC hos
  obtain ⟨s, t0, t1, t2⟩ := rr
  unfold actA rowV recV at RC
  simp only at RC hos
  clear hrr
  have hf := fun w => field_name (s, t0, t1, t2) w
  unfold recV at hf
  simp only at hf
  cases srt with
  | false =>
    have hzs := sizeR_bound rs (fun r hr => (HF.out r hr).2)
    have HZSB : Hid (sizeR rs ≤ 1000000000000) := Lib.hid (by have := HN.out; omega)
    have R1 := Lib.hid (fun w h => right_any m s A1 N c1 rs w h HN.out (by omega) HZSB.out (by omega) (fun r hr => (HF.out r hr).2.1) (fun r hr => HMM.out r (HF.out r hr)))
    have R2 := Lib.hid (fun w h => right8_any m s A1 N c1 rs w h HN.out (by omega) HZSB.out (by omega) (fun r hr => (HF.out r hr).2.1) (fun r hr => HMM.out r (HF.out r hr)))
    obtain ⟨Q, hQ⟩ : ∃ Q, rightR m s rs = Q := ⟨_, rfl⟩
    rw [hQ] at R1 R2
    have hbb : (Q == Q) = true := by simp
    clear hzs hQ
    go_wp2_with fail
    refine (RC.out _ (HOKA.out.below HB2.out)).mono ?_
    rintro e w4 ⟨rfl, hb4⟩
    have HR4 := Lib.hid (HR2.out.below hb4)
    have HB4 := Lib.hid (below_trans HB2.out HB2.out.size hb4)
    clear hb4
    go_wp2_with fail
    refine (R1.out _ HR4.out).mono ?_
    rintro e w5 ⟨rfl, hb5⟩
    have HR5 := Lib.hid (HR4.out.below hb5)
    have HB5 := Lib.hid (below_trans HB4.out HB4.out.size hb5)
    clear hb5
    go_wp2_with fail
    refine (R2.out _ HR5.out).mono ?_
    rintro e w6 ⟨rfl, hb6⟩
    have HB6 := Lib.hid (below_trans HB5.out HB5.out.size hb6)
    clear hb6
    go_wp2_with fail
    go_ret
    exact ⟨by first | rfl | simp, HB6.out⟩
  | true =>
    go_wp2_with fail
    refine (sorted_any A1 N c1 rs w2 HR2.out HN.out (by omega)).mono ?_
    rintro e w3 ⟨v2, rfl, ho2⟩
    obtain ⟨z, hz⟩ : ∃ z, sortedR rs = z := ⟨_, rfl⟩
    have hzl := sortedR_le rs
    have hzf : ∀ r ∈ z, fitR r := fun r hr => HF.out r (sortedR_mem (by rw [hz]; exact hr))
    rw [hz] at ho2 hzl
    obtain ⟨M, hM⟩ : ∃ M, z.length = M := ⟨_, rfl⟩
    have hM4 : M ≤ 40 := by have := HN.out; omega
    obtain ⟨A2, c2, rfl, -, -, -⟩ := ho2.slice
    have HR3 := Lib.hid (ho2.recs rfl)
    have HB3 := Lib.hid (below_trans HB2.out HB2.out.size ho2.bel)
    rw [hM]
    have HZF := Lib.hid hzf
    have HM := Lib.hid hM
    clear ho2 hz hzl hzf hM HB2
    have hzs := sizeR_bound z (fun r hr => (HZF.out r hr).2)
    have HZSB : Hid (sizeR z ≤ 1000000000000) := Lib.hid (by have := HM.out; omega)
    have R1 := Lib.hid (fun w h => right_any m s A2 M c2 z w h HM.out (by omega) HZSB.out (by omega) (fun r hr => (HZF.out r hr).2.1) (fun r hr => HMM.out r (HZF.out r hr)))
    have R2 := Lib.hid (fun w h => right8_any m s A2 M c2 z w h HM.out (by omega) HZSB.out (by omega) (fun r hr => (HZF.out r hr).2.1) (fun r hr => HMM.out r (HZF.out r hr)))
    obtain ⟨Q, hQ⟩ : ∃ Q, rightR m s z = Q := ⟨_, rfl⟩
    rw [hQ] at R1 R2
    have hbb : (Q == Q) = true := by simp
    clear hzs hQ
    go_wp2_with fail
    refine (RC.out _ (HOKA.out.below HB3.out)).mono ?_
    rintro e w4 ⟨rfl, hb4⟩
    have HR4 := Lib.hid (HR3.out.below hb4)
    have HB4 := Lib.hid (below_trans HB3.out HB3.out.size hb4)
    clear hb4
    go_wp2_with fail
    refine (R1.out _ HR4.out).mono ?_
    rintro e w5 ⟨rfl, hb5⟩
    have HR5 := Lib.hid (HR4.out.below hb5)
    have HB5 := Lib.hid (below_trans HB4.out HB4.out.size hb5)
    clear hb5
    go_wp2_with fail
    refine (R2.out _ HR5.out).mono ?_
    rintro e w6 ⟨rfl, hb6⟩
    have HB6 := Lib.hid (below_trans HB5.out HB5.out.size hb6)
    clear hb6
    go_wp2_with fail
    go_ret
    exact ⟨by first | rfl | simp, HB6.out⟩
end Go.Proofs.Ytoacmdjbmbdjdaa
