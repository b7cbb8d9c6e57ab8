/- The document's example of a trie; the walk of TrieMay. -/
import Derived.Test.YtgfoahednmipkaaDoorTrK
import Derived.Test.YtgfoahednmipkaaDoorView
namespace Go.Proofs.YtgfoahednmipkaaDoor
open Go.RowKit
set_option linter.unusedVariables false
set_option maxRecDepth 20000
section
variable {W w w' w2 : World} {B a : Nat} {bs : List Nat} {t : Tr}
theorem TrN.ex (h : TrN W B a bs t w w') : ∃ bs', TrL W B a bs' t w' := by obtain ⟨bs', h, _⟩ := h; exact ⟨bs', h⟩
theorem TrL.is (h : TrL W B a bs t w) {u : Tr} (e : t = u) : TrL W B a bs u w := by subst e; exact h
end
theorem getR_some {t : Tr} {q : List UInt8} {v : Int} (h : getR t q = some v) : (if mayL q then longR t q none else none) = some (q.length, v) := by
  unfold getR at h
  cases ho : (if mayL q then longR t q none else none) with
  | none => rw [ho] at h; cases h
  | some p =>
    obtain ⟨n, x⟩ := p
    rw [ho] at h
    simp only [getO] at h
    split at h
    · rename_i hn
      injection h with h
      rw [hn, h]
    · cases h
def awT : Tr := putR (putR .nil [49] 5) [49, 48, 49] 6
theorem awake16_any (w : World) : Calls Tryd.prog 9 #[] w fun e w' => e = .returned (.bool true) ∧ Below w.heap.size w w' := by
  have l1 : (if mayL [49, 48, 49, 49] then longR awT [49, 48, 49, 49] none else none) = some (3, 6) := by decide +kernel
  have l2 : (if mayL [49, 49] then longR awT [49, 49] none else none) = some (1, 5) := by decide +kernel
  have g1 : getR .nil [49] = none := by decide +kernel
  have g2 : getR (putR .nil [49] 5) [49, 48, 49] = none := by decide +kernel
  have m1 : mayL [49] = true := by decide +kernel
  have m2 : mayL [49, 48, 49] = true := by decide +kernel
  have k1 : (putR .nil [49] 5).keys.length = 1 := by decide +kernel
  have k2 : awT.keys.length = 2 := by decide +kernel
  have HK1 := Lib.hid k1
  have HK2 := Lib.hid k2
  have HM1 := Lib.hid m1
  have HM2 := Lib.hid m2
  have HL1 := Lib.hid l1
  have HL2 := Lib.hid l2
  have HG1 := Lib.hid g1
  have HG2 := Lib.hid g2
  clear l1 l2 g1 g2 m1 m2 k1 k2
  go_enter Tryd.func9, Tryd.ntmps9
  go_wp2_with fail
  have h0 : Hid (TrL w w.heap.size w.heap.size [] .nil (w.alloc (.cells #[.pointer none, .int .i64 0] 28))) := Lib.hid (TrL.start w _ w _ (Nat.le_refl _) (Below.refl _ _))
  generalize (w.alloc (.cells #[.pointer none, .int .i64 0] 28)) = w1 at *
  obtain ⟨a, ha⟩ : ∃ a, w.heap.size = a := ⟨_, rfl⟩
  have HA := Lib.hid ha
  have h0' : Hid (TrL w a a [] .nil w1) := Lib.hid (by rw [← ha]; exact h0.out)
  rw [ha]
  clear ha h0
  refine (h0'.out.put [49] 5 HM1.out (by simp [Tr.keys])).mono ?_
  rintro e w2 ⟨rfl, hn⟩
  obtain ⟨bs2, h2⟩ := hn.ex
  have H2 := Lib.hid h2
  clear h2 hn h0'
  rw [HG1.out]
  go_wp2_with fail
  refine (H2.out.put [49, 48, 49] 6 HM2.out (by rw [HK1.out]; omega)).mono ?_
  rintro e w3 ⟨rfl, hn⟩
  obtain ⟨bs3, h3⟩ := hn.ex
  have H3 : Hid (TrL w a a bs3 awT w3) := Lib.hid h3
  clear h3 hn H2
  rw [HG2.out]
  go_wp2_with fail
  refine (H3.out.longest [49, 48, 49, 49] (by simp)).mono ?_
  rintro e w4 ⟨rfl, hb⟩
  have H4 := Lib.hid (H3.out.below hb)
  clear H3 hb
  rw [HL1.out]
  simp only [longV]
  go_wp2_with fail
  refine (H4.out.longest [49, 49] (by simp)).mono ?_
  rintro e w5 ⟨rfl, hb⟩
  have H5 := Lib.hid (H4.out.below hb)
  clear H4 hb
  rw [HL2.out]
  simp only [longV]
  go_wp2_with fail
  refine H5.out.len.mono ?_
  rintro e w6 ⟨rfl, rfl⟩
  rw [HK2.out]
  go_wp2_with fail
  go_ret
  exact ⟨rfl, by rw [HA.out]; exact H5.out.bel⟩
def isSign (b : UInt8) : Bool := b == 48 || b == 49
theorem mayL_all (q : List UInt8) : mayL q = (decide (q.length ≤ 128) && (q.take q.length).all isSign) := by rw [List.take_length]; rfl
theorem all_next (q : List UInt8) (k : Nat) (hk : k < q.length) : (q.take (k + 1)).all isSign = ((q.take k).all isSign && isSign q[k]) := by
  rw [List.take_succ_eq_append_getElem hk, List.all_append]; simp
set_option maxHeartbeats 3200000 in
theorem trieMay_walk (w : World) (s : ByteArray) (hs : s.size ≤ 140737488351232) (v : Int) (hv : (Lit.int .i64 v).wf = true) :
    Calls Tryd.prog 4 #[.string s, .int .i64 v] w fun e w' => e = .returned (.bool true) ∧ Below w.heap.size w w' := by
  clear hv
  obtain ⟨q, hq⟩ : ∃ q, s.data.toList = q := ⟨_, rfl⟩
  obtain ⟨S, hSs⟩ : ∃ S, s = S := ⟨_, rfl⟩
  rw [hSs] at hs hq ⊢
  clear hSs
  have hS : sb q = S := by rw [← hq, sb_of]
  clear hq
  have HS := Lib.hid hS
  have hql : q.length ≤ 140737488351232 := by rw [← sb_size, hS]; exact hs
  have hsz : S.size = q.length := by rw [← hS, sb_size]
  have HQL2 : Hid (q.length ≤ 9223372036854775807) := Lib.hid (by omega)
  obtain ⟨Q, hQ⟩ : ∃ Q, q.length = Q := ⟨_, rfl⟩
  have HQ := Lib.hid hQ
  have HIX : Hid (∀ k (h : k < S.size), isSign (S[k]) = decide ((S[k]).toNat = 48 ∨ (S[k]).toNat = 49)) := Lib.hid (fun k h => by
    rw [Bool.eq_iff_iff]
    simp only [isSign, Bool.or_eq_true, beq_iff_eq, decide_eq_true_eq]
    constructor
    · rintro (e | e) <;> rw [e] <;> simp
    · rintro (e | e)
      · exact .inl (UInt8.toNat_inj.1 e)
      · exact .inr (UInt8.toNat_inj.1 e))
  have HNX : Hid (∀ k (h : k < S.size), (q.take (k + 1)).all isSign = ((q.take k).all isSign && isSign S[k])) := Lib.hid (by
    subst hS
    intro k h
    rw [sb_get]; exact all_next q k (by rwa [sb_size] at h))
  have HALL : Hid (mayL q = (decide (Q ≤ 128) && (q.take Q).all isSign)) := Lib.hid (by rw [← hQ]; exact mayL_all q)
  have hQm : Q ≤ 140737488351232 := by omega
  rw [hQ] at hsz
  clear hql hQ hS hs
  go_enter Tryd.func4, Tryd.ntmps4
  go_wp2_with fail
  refine (awake16_any _).mono ?_
  rintro e w1 ⟨rfl, hb1⟩
  have HB1 := Lib.hid hb1
  clear hb1
  obtain ⟨c0, hc0⟩ : ∃ c0, decide ((Q : Int) ≤ 128) = c0 := ⟨_, rfl⟩
  have HC0 : Hid (decide (Q ≤ 128) = c0) := Lib.hid (by rw [← hc0, decide_eq_decide]; omega)
  go_wp2_with fail
  go_loop [5, 6] (fun b i => ∃ (k : Nat) (c : Bool), k ≤ Q ∧ b = .bool c ∧ i = .int .i64 k ∧ Hid (c = (c0 && (q.take k).all isSign))) (fun _ i => Q - (intOf i).toNat)
  case atStart => exact ⟨0, c0, Nat.zero_le _, rfl, rfl, Lib.hid (by simp)⟩
  case round =>
    obtain ⟨k, c, hk, rfl, rfl, hC⟩ := hrel
    clear hc0
    by_cases hkQ : k < Q
    · have d1 : (k : Int) < Q := by omega
      have d2 : k < S.size := by omega
      have HI := Lib.hid (HIX.out k d2)
      have HN := Lib.hid (HNX.out k d2)
      obtain ⟨x, hx⟩ : ∃ x, S[k].toNat = x := ⟨_, rfl⟩
      rw [hx] at HI
      cases c with
      | false =>
        have HX : Hid (false = (c0 && (q.take (k + 1)).all isSign)) := Lib.hid (by rw [HN.out, ← Bool.and_assoc, ← hC.out]; rfl)
        clear HI HN
        go_wp2_with fail
        go_round
        case rel => exact ⟨k + 1, _, by omega, rfl, by go_num, HX⟩
        case measure => simp [intOf]; omega
      | true =>
        by_cases h48 : x = 48
        · have HX : Hid (true = (c0 && (q.take (k + 1)).all isSign)) := Lib.hid (by rw [HN.out, ← Bool.and_assoc, ← hC.out, HI.out, h48]; rfl)
          subst h48
          clear HI HN
          go_wp2_with fail
          go_round
          case rel => exact ⟨k + 1, _, by omega, rfl, by go_num, HX⟩
          case measure => simp [intOf]; omega
        · have d3 : ((x : Int) == 48) = false := by simp; omega
          by_cases h49 : x = 49
          · have HX : Hid (true = (c0 && (q.take (k + 1)).all isSign)) := Lib.hid (by rw [HN.out, ← Bool.and_assoc, ← hC.out, HI.out, h49]; rfl)
            subst h49
            clear HI HN
            go_wp2_with fail
            go_round
            case rel => exact ⟨k + 1, _, by omega, rfl, by go_num, HX⟩
            case measure => simp [intOf]; omega
          · have d4 : ((x : Int) == 49) = false := by simp; omega
            have HX : Hid (false = (c0 && (q.take (k + 1)).all isSign)) := Lib.hid (by rw [HN.out, ← Bool.and_assoc, ← hC.out, HI.out]; simp [h48, h49])
            clear HI HN
            go_wp2_with fail
            go_round
            case rel => exact ⟨k + 1, _, by omega, rfl, by go_num, HX⟩
            case measure => simp [intOf]; omega
    · obtain rfl : k = Q := by omega
      have HM : Hid (mayL q = c) := Lib.hid (by rw [HALL.out, HC0.out, hC.out])
      clear hkQ HIX HNX HALL hC HC0
      have h0 : Hid (TrL w w.heap.size w1.heap.size [] .nil (w1.alloc (.cells #[.pointer none, .int .i64 0] 28))) := Lib.hid (TrL.start w1 _ w _ HB1.out.size HB1.out)
      have HWB := Lib.hid HB1.out.size
      go_wp2_with fail
      generalize (w1.alloc (.cells #[.pointer none, .int .i64 0] 28)) = w2 at *
      obtain ⟨a, ha⟩ : ∃ a, w1.heap.size = a := ⟨_, rfl⟩
      rw [ha] at h0 ⊢
      rw [← HS.out]
      cases c with
      | true =>
        refine (h0.out.put q v HM.out (by simp [Tr.keys])).mono ?_
        rintro e w3 ⟨rfl, hn⟩
        obtain ⟨bs3, h3⟩ := hn.ex
        have H3 : Hid (TrL w w.heap.size a bs3 (putR .nil q v) w3) := Lib.hid h3
        have G0 : Hid (getR .nil q = none) := Lib.hid (by unfold getR; rw [HM.out]; rfl)
        have G1 : Hid (getR (putR .nil q v) q = some v) := Lib.hid (by rw [get_put (t := .nil) trivial trivial HM.out, if_pos rfl])
        have G2 : Hid ((putR .nil q v).keys.length = 1) := Lib.hid rfl
        have G3 : Hid (delR (putR .nil q v) q = .nil) := Lib.hid (by simp [putR, leafR, delR, needR])
        clear h3 hn h0
        rw [G0.out]
        go_wp2_with fail
        refine (H3.out.get q HQL2.out).mono ?_
        rintro e w4 ⟨rfl, hb⟩
        have H4 := Lib.hid (H3.out.below hb)
        clear H3 hb
        rw [G1.out]
        simp only [Option.getD_some, Option.isSome_some]
        go_wp2_with fail
        refine (H4.out.longest q HQL2.out).mono ?_
        rintro e w5 ⟨rfl, hb⟩
        have H5 := Lib.hid (H4.out.below hb)
        clear H4 hb
        rw [getR_some G1.out]
        simp only [longV]
        have HD := Lib.hid (H5.out.del q v G1.out (by rw [G2.out]; omega))
        go_wp2_with fail
        refine HD.out.mono ?_
        rintro e w6 ⟨rfl, hn⟩
        obtain ⟨bs6, h6⟩ := hn.ex
        have H6 : Hid (TrL w w.heap.size a bs6 .nil w6) := Lib.hid (h6.is G3.out)
        clear h6 hn H5 HD
        have HMAY := Lib.hid (may_any q w6 HQL2.out)
        rw [HM.out] at HMAY
        go_wp2_with fail
        refine HMAY.out.mono ?_
        rintro e w7 ⟨rfl, hb⟩
        have H7 := Lib.hid (H6.out.below hb)
        clear H6 hb HMAY
        have d9 : ((v : Int) == v) = true := by simp
        go_wp2_with fail
        refine H7.out.len.mono ?_
        rintro e w8 ⟨rfl, rfl⟩
        go_wp2_with fail
        refine (H7.out.nodes (by simp [Tr.keys])).mono ?_
        rintro e w9 ⟨rfl, n, rfl⟩
        go_wp2_with fail
        go_ret
        exact ⟨rfl, below_drewN H7.out.bel n⟩
      | false =>
        refine (h0.out.putNot q v HQL2.out HM.out).mono ?_
        rintro e w3 ⟨rfl, hb⟩
        have H3 : Hid (TrL w w.heap.size a [] .nil w3) := Lib.hid (h0.out.below hb)
        have G0 : Hid (getR .nil q = none) := Lib.hid (by unfold getR; rw [HM.out]; rfl)
        clear hb h0
        go_wp2_with fail
        refine (H3.out.get q HQL2.out).mono ?_
        rintro e w4 ⟨rfl, hb⟩
        have H4 := Lib.hid (H3.out.below hb)
        clear H3 hb
        rw [G0.out]
        simp only [Option.getD_none, Option.isSome_none]
        go_wp2_with fail
        refine (H4.out.longest q HQL2.out).mono ?_
        rintro e w5 ⟨rfl, hb⟩
        have H5 := Lib.hid (H4.out.below hb)
        clear H4 hb
        rw [HM.out]
        simp only [Bool.false_eq_true, if_false, longV]
        have HD := Lib.hid (H5.out.delNot q HQL2.out G0.out)
        go_wp2_with fail
        refine HD.out.mono ?_
        rintro e w6 ⟨rfl, hb⟩
        have H6 := Lib.hid (H5.out.below hb)
        clear hb H5 HD
        have HMAY := Lib.hid (may_any q w6 HQL2.out)
        rw [HM.out] at HMAY
        go_wp2_with fail
        refine HMAY.out.mono ?_
        rintro e w7 ⟨rfl, hb⟩
        have H7 := Lib.hid (H6.out.below hb)
        clear H6 hb HMAY
        go_wp2_with fail
        refine H7.out.len.mono ?_
        rintro e w8 ⟨rfl, rfl⟩
        go_wp2_with fail
        refine (H7.out.nodes (by simp [Tr.keys])).mono ?_
        rintro e w9 ⟨rfl, n, rfl⟩
        go_wp2_with fail
        go_ret
        exact ⟨rfl, below_drewN H7.out.bel n⟩
end Go.Proofs.YtgfoahednmipkaaDoor
