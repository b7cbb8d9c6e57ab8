/- The walk of TrieWhole. -/
import Derived.Test.YtgfoahednmipkaaDoorLawTrD
namespace Go.Proofs.YtgfoahednmipkaaDoor
open Go.RowKit
set_option linter.unusedVariables false
set_option maxRecDepth 20000
theorem put_empty (k : List UInt8) (v x : Int) (hk : k ≠ []) : (putR (leafR k v) [] x).nodes = 2 := by
  have ha : alike k [] = 0 := by cases k <;> rfl
  have hk0 : 0 < k.length := by cases k with | nil => exact absurd rfl hk | cons a l => simp
  simp only [leafR, putR, ha, if_pos hk0]
  simp only [List.length_nil, Nat.lt_irrefl, if_false, Tr.nodes]
  cases side k 0 <;> simp [updC, Tr.nodes]
theorem nat_wrap64 (k : Nat) (h : k < 1000) : wrap64 (k : Int) = k := by simp [wrap64]; omega
theorem nat_tmod (x b : Nat) (h : (x : Int) % 2 = b) : (x : Int).tmod 2 = b := by rw [Int.tmod_eq_emod_of_nonneg (by omega)]; exact h
theorem quo_run (c d x : Nat) (hd : 1 ≤ d) (hx : (c : Int).tdiv d = x) (h : x ≤ 128) (w : World) : (Op.intDiv .quo .i64 (c : Int) (d : Int)).run Tryd.prog w = .ok (.int .i64 (x : Int)) w := by
  have h0 : ¬ (d : Int) = 0 := by omega
  have h1 : IntKind.wrap .i64 (x : Int) = x := IntWalk.i64_in _ (by omega)
  unfold Op.intDiv
  rw [if_neg h0]
  show (pure (Value.int .i64 (IntKind.wrap .i64 ((c : Int).tdiv d))) : Sem Value).run _ w = _
  rw [hx, h1]; rfl
theorem rem_run (x b : Nat) (hb : (x : Int) % 2 = b) (w : World) : (Op.intDiv .rem .i64 (x : Int) 2).run Tryd.prog w = .ok (.int .i64 (b : Int)) w := by
  have h0 : ¬ (2 : Int) = 0 := by omega
  have h1 : (x : Int).tmod 2 = b := by rw [Int.tmod_eq_emod_of_nonneg (by omega)]; exact hb
  unfold Op.intDiv
  rw [if_neg h0]
  show (pure (Value.int .i64 ((x : Int).tmod 2)) : Sem Value).run _ w = _
  rw [h1]; rfl
set_option maxHeartbeats 3200000 in
theorem trieWhole_walk (w : World) (n0 : Int) (hn : (Lit.int .u8 n0).wf = true) :
    Calls Tryd.prog 8 #[.int .u8 n0] w fun e w' => e = .returned (.bool true) ∧ Below w.heap.size w w' := by
  obtain ⟨n, rfl, hn⟩ := u8_nat hn
  obtain ⟨r, hr⟩ : ∃ r : Nat, (n : Int) % 9 = r := ⟨n % 9, by omega⟩
  obtain ⟨d, hd⟩ : ∃ d : Nat, (1 : Int) + r = d := ⟨1 + r, by omega⟩
  obtain ⟨j, hj⟩ : ∃ j : Nat, (n : Int) % 128 = j := ⟨n % 128, by omega⟩
  have hd9 : 1 ≤ d ∧ d ≤ 9 := by omega
  have hj128 : j < 128 := by omega
  have hr9 : r < 9 := by omega
  have e1 : (n : Int).tmod 9 = r := by rw [Int.tmod_eq_emod_of_nonneg (by omega)]; exact hr
  have e2 : (n : Int).tmod 128 = j := by rw [Int.tmod_eq_emod_of_nonneg (by omega)]; exact hj
  have d0 : ¬ (d : Int) = 0 := by omega
  have d0' : ((d : Int) == 0) = false := by simp; omega
  obtain ⟨f, hf⟩ : ∃ f : Nat → Nat, f = fun k => k / d % 2 := ⟨_, rfl⟩
  have HF := Lib.hid hf
  have hd1 : 1 ≤ (d : Int) := by omega
  have hd2 : (d : Int) ≤ 9 := by omega
  have hd1' : 1 ≤ d := by omega
  have HJ := Lib.hid hj
  have HE2 := Lib.hid e2
  have HJ128 := Lib.hid hj128
  have w64r := nat_wrap64 r (by omega)
  have w64d := nat_wrap64 d (by omega)
  clear hf hd9 hn d0' hr hj e2 hj128 hd1 hd2 hr9
  have HD1 := Lib.hid hd1'
  clear hd1'
  go_enter Tryd.func8, Tryd.ntmps8
  go_wp2_with fail
  refine (awake16_any _).mono ?_
  rintro e w1 ⟨rfl, hb1⟩
  have HB1 := Lib.hid hb1
  clear hb1
  have h0 : Hid (TrL w w.heap.size w1.heap.size [] .nil (w1.alloc (.cells #[.pointer none, .int .i64 0] 28))) := Lib.hid (TrL.start w1 _ w _ HB1.out.size HB1.out)
  go_wp2_with fail
  generalize (w1.alloc (.cells #[.pointer none, .int .i64 0] 28)) = w2 at *
  obtain ⟨a, ha⟩ : ∃ a, w1.heap.size = a := ⟨_, rfl⟩
  rw [ha] at h0 ⊢
  clear ha HB1
  obtain ⟨L, hL⟩ : ∃ L : Nat, L = 128 := ⟨_, rfl⟩
  have HL := Lib.hid hL
  clear hL
  go_loop [4, 5] (fun s i => ∃ (c : Nat) (S : ByteArray), c ≤ L ∧ s = .string S ∧ i = .int .i64 c ∧ Hid (S = sb (word f c))) (fun _ i => L - (intOf i).toNat)
  case atStart => exact ⟨0, _, Nat.zero_le _, rfl, rfl, Lib.hid rfl⟩
  case round =>
    obtain ⟨c, S, hc, rfl, rfl, hS⟩ := hrel
    by_cases hck : c < L
    · have d1 : (c : Int) < 128 := by have := HL.out; omega
      have HCK : Hid (c + 1 ≤ L) := Lib.hid (by omega)
      obtain ⟨x, hx⟩ : ∃ x : Nat, (c : Int) / d = x := ⟨c / d, by simp⟩
      have hx' : (c : Int).tdiv d = x := by rw [Int.tdiv_eq_ediv_of_nonneg (Int.natCast_nonneg _)]; exact hx
      have hxn : x = c / d := by have : ((c / d : Nat) : Int) = x := by rw [← hx]; simp
                                 omega
      have hx128 : x ≤ 128 := by rw [hxn]; exact Nat.le_trans (Nat.div_le_self _ _) (by have := HL.out; omega)
      obtain ⟨b, hb⟩ : ∃ b : Nat, (x : Int) % 2 = b := ⟨x % 2, by omega⟩
      have hb2 : b < 2 := by omega
      have hb3 : b = f c := by rw [HF.out]; show b = c / d % 2; rw [← hxn]; omega
      have hE := sg_enc b hb2
      obtain ⟨y, hy⟩ : ∃ y : Nat, (48 : Int) + b = y := ⟨48 + b, by omega⟩
      have hy50 : y < 50 := by omega
      have w3 : wrap32 (y : Int) = y := by simp [wrap32]; omega
      rw [hy, w3] at hE
      obtain ⟨E, hEE⟩ : ∃ E, sb [sg b] = E := ⟨_, rfl⟩
      have hes : E.size = 1 := by rw [← hEE, sb_size]; rfl
      have hss : S.size = c := by rw [hS.out, sb_size, word_len]
      have HN : Hid (S ++ E = sb (word f (c + 1))) := Lib.hid (by rw [word_next, ← sb_append, hS.out, ← hEE, hb3])
      rw [hEE] at hE
      have f1 : ¬ 9223372036854775807 < S.size + E.size := by omega
      have f2 : S.size + E.size ≤ 9223372036854775807 := by omega
      have w64x := nat_wrap64 x (Nat.lt_of_le_of_lt hx128 (by decide))
      have w64y := nat_wrap64 y (Nat.lt_trans hy50 (by decide))
      have hbt := nat_tmod x b hb
      clear hb3 hEE hes hss hxn hx' hc hck hx128 hb hb2 hy50
      go_wp2_with fail
      go_round
      case rel => exact ⟨c + 1, _, HCK.out, rfl, by go_num, HN⟩
      case measure => have := HCK.out; simp [intOf]; omega
    · obtain rfl : c = L := by omega
      have hL := HL.out
      have hcL : ¬ (c : Int) < 128 := by omega
      subst hL
      obtain ⟨W, hW⟩ : ∃ W, word f 128 = W := ⟨_, rfl⟩
      have HWL : Hid (W.length = 128) := Lib.hid (by rw [← hW, word_len])
      have HWM : Hid (mayL W = true) := Lib.hid (by rw [← hW]; exact word_may f 128 (by omega))
      have HW7 : Hid (W.take 127 = word f 127) := Lib.hid (by rw [← hW]; exact word_take f 128 127 (by omega))
      have HWJ : Hid (∀ m, m ≤ 128 → W.take m = word f m) := Lib.hid (fun m hm => by rw [← hW]; exact word_take f 128 m hm)
      rw [hW] at hS
      have hS2 : S.size = 128 := by rw [hS.out, sb_size]; exact HWL.out
      have hx7 : S.extract 0 127 = sb (word f 127) := by rw [hS.out, sb_take, HW7.out]
      have hxj : S.extract 0 j = sb (word f j) := by rw [hS.out, sb_take, HWJ.out j (by have := HJ128.out; omega)]
      have hx1 : S ++ ⟨#[49]⟩ = sb (W ++ [49]) := by rw [hS.out]; exact sb_append W [49]
      have hput := h0.out.put W 9 HWM.out (by simp [Tr.keys])
      have g0 : getR .nil W = none := by unfold getR; split <;> rfl
      have k1 : (putR .nil W 9).keys.length = 1 := rfl
      have gx : ∀ q, getR (putR .nil W 9) q = if q = W then some 9 else none := fun q => by
        rw [get_put (t := .nil) trivial trivial HWM.out]
        split
        · rfl
        · unfold getR; split <;> rfl
      rw [g0] at hput
      have HPUT := Lib.hid hput
      have HGX := Lib.hid gx
      have HK1 := Lib.hid k1
      have HP2 : Hid ((putR (putR .nil W 9) [] 4).nodes = 2) := Lib.hid (put_empty W 9 4 (fun e => by have := HWL.out; rw [e] at this; cases this))
      have HWE : Hid (W ≠ []) := Lib.hid (fun e => by have := HWL.out; rw [e] at this; cases this)
      generalize putR .nil W 9 = t1 at *
      have hj' : ((j : Nat) : Int) ≤ S.size := by have := HJ128.out; omega
      have hj'' : j ≤ S.size := by have := HJ128.out; omega
      have he2 := HE2.out
      have hSW : S = sb W := hS.out
      have HX7 := Lib.hid hx7
      have HXJ := Lib.hid hxj
      have HX1 := Lib.hid hx1
      have HS2 := Lib.hid hSW
      clear hput g0 gx k1 h0 hS hW hSW hx7 hxj hx1 HW7
      have hput := HPUT.out
      rw [← HS2.out] at hput
      have HPUTS := Lib.hid hput
      clear hput HPUT
      go_wp2_with fail
      refine HPUTS.out.mono ?_
      rintro e w3 ⟨rfl, hn⟩
      obtain ⟨bs3, h3⟩ := hn.ex
      have H3 := Lib.hid h3
      have hlg := h3.longest W (by rw [HWL.out]; decide)
      have hg : getR t1 W = some 9 := by rw [HGX.out, if_pos rfl]
      rw [getR_some hg, ← HS2.out, HWL.out] at hlg
      have HLG := Lib.hid hlg
      clear hn h3 HPUTS hlg hg
      simp only [longV] at HLG
      have hx7 := HX7.out
      go_wp2_with fail
      refine HLG.out.mono ?_
      rintro e w4 ⟨rfl, hb4⟩
      have H4 := Lib.hid (H3.out.below hb4)
      clear hb4 H3 HLG
      have hlg := H4.out.longest (word f 127) (by rw [word_len]; decide)
      have hno := long_no (t := t1) (q := word f 127) H4.out.ok H4.out.fit (fun m hm => by
        rw [word_len] at hm
        rw [HGX.out, if_neg]
        intro e
        have h1 := congrArg List.length e
        rw [HWL.out, List.length_take, word_len] at h1
        omega)
      rw [hno] at hlg
      have HLG := Lib.hid hlg
      clear hlg hno
      simp only [longV] at HLG
      obtain ⟨S7, hS7⟩ : ∃ S7, sb (word f 127) = S7 := ⟨_, rfl⟩
      rw [hS7] at hx7 HLG
      clear hS7
      go_wp2_with fail
      refine HLG.out.mono ?_
      rintro e w5 ⟨rfl, hb5⟩
      have H5 := Lib.hid (H4.out.below hb5)
      clear hb5 H4 HLG hx7
      have hm1 : mayL (W ++ [49]) = false := by
        cases hm : mayL (W ++ [49]) with
        | false => rfl
        | true =>
          have := ((mayL_iff _).1 hm).1
          rw [List.length_append, HWL.out] at this; simp at this
      have hpn := H5.out.putNot (W ++ [49]) 3 (by rw [List.length_append, HWL.out]; decide) hm1
      have hx1 := HX1.out
      obtain ⟨S1, hS1⟩ : ∃ S1, sb (W ++ [49]) = S1 := ⟨_, rfl⟩
      rw [hS1] at hpn hx1
      have HPN := Lib.hid hpn
      have f1 : ¬ 9223372036854775807 < S.size + (⟨#[49]⟩ : ByteArray).size := by rw [hS2]; decide
      have f2 : (⟨#[49]⟩ : ByteArray).size = 1 := rfl
      clear hpn hS1 hm1
      go_wp2_with fail
      refine HPN.out.mono ?_
      rintro e w6 ⟨rfl, hb6⟩
      have H6 := Lib.hid (H5.out.below hb6)
      clear hb6 H5 HPN hx1 f1 f2
      have hge : getR t1 [] = none := by rw [HGX.out, if_neg (fun e => HWE.out e.symm)]
      have hpe := H6.out.put [] 4 (by decide +kernel) (by rw [HK1.out]; decide)
      rw [hge] at hpe
      have HPE := Lib.hid hpe
      have hk2 := keys_put (x := 4) H6.out.ok H6.out.fit (q := []) (by decide +kernel)
      rw [hge, HK1.out] at hk2
      have HK2 : Hid ((putR t1 [] 4).keys.length = 2) := Lib.hid hk2
      have HG2 := Lib.hid (get_put (x := 4) H6.out.ok H6.out.fit (q := []) (by decide +kernel))
      clear hpe hk2 hge
      go_wp2_with fail
      refine HPE.out.mono ?_
      rintro e w7 ⟨rfl, hn⟩
      obtain ⟨bs7, h7⟩ := hn.ex
      have H7 := Lib.hid h7
      clear h7 hn HPE H6
      generalize putR t1 [] 4 = t2 at *
      have hj := HJ128.out
      have hlg := H7.out.longest (word f j) (by rw [word_len]; omega)
      have his := long_is (t := t2) (q := word f j) (n := 0) (v := 4) H7.out.ok H7.out.fit (word_may f j (by omega)) (Nat.zero_le _)
        (by rw [List.take_zero, HG2.out, if_pos rfl]) (fun m h1 h2 => by
          rw [word_len] at h2
          rw [word_take f j m h2, HG2.out, if_neg, HGX.out, if_neg]
          · intro e
            have h3 := congrArg List.length e
            rw [HWL.out, word_len] at h3
            omega
          · intro e
            have h3 := congrArg List.length e
            rw [word_len] at h3
            simp at h3
            omega)
      rw [his] at hlg
      have HLG := Lib.hid hlg
      clear hlg his hj
      simp only [longV] at HLG
      have hxj := HXJ.out
      obtain ⟨SJ, hSJ⟩ : ∃ SJ, sb (word f j) = SJ := ⟨_, rfl⟩
      rw [hSJ] at hxj HLG
      clear hSJ
      go_wp2_with fail
      refine HLG.out.mono ?_
      rintro e w8 ⟨rfl, hb8⟩
      have H8 := Lib.hid (H7.out.below hb8)
      clear hb8 H7 HLG hxj
      have hlen := H8.out.len
      rw [HK2.out] at hlen
      have HLEN := Lib.hid hlen
      have hnod := H8.out.nodes (by rw [HK2.out]; decide)
      rw [HP2.out] at hnod
      have HNOD := Lib.hid hnod
      clear hlen hnod
      go_wp2_with fail
      refine HLEN.out.mono ?_
      rintro e w9 ⟨rfl, rfl⟩
      go_wp2_with fail
      refine HNOD.out.mono ?_
      rintro e w9 ⟨rfl, m9, rfl⟩
      go_wp2_with fail
      go_ret
      exact ⟨rfl, below_drewN H8.out.bel m9⟩
end Go.Proofs.YtgfoahednmipkaaDoor
