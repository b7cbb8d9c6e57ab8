/- The walk of JournalRecover. -/
import Derived.Test.YtidpffgdndjgpaaJrnE
import Derived.Test.YtidpffgdndjgpaaFrameK
import Derived.Test.YtidpffgdndjgpaaView2
namespace Go.Proofs.Ytidpffgdndjgpaa
open Go.RowKit
set_option linter.unusedVariables false
set_option linter.unusedSimpArgs false
set_option maxRecDepth 20000
theorem ahead_le : ∀ (xs X : List (List UInt8)) (t u : List UInt8), (∀ x ∈ xs, x.length ≤ 600) → (∀ x ∈ X, x.length ≤ 600) → firstL u = none → xs.flatMap frameL ++ t = X.flatMap frameL ++ u → xs.length ≤ X.length
  | [], _, _, _, _, _, _, _ => Nat.zero_le _
  | a :: xs, [], t, u, ha, _, hu, h => by
    simp only [List.flatMap_cons, List.flatMap_nil, List.nil_append, List.append_assoc] at h
    have := firstL_frame a (xs.flatMap frameL ++ t) (ha a (by simp))
    rw [h, hu] at this; cases this
  | a :: xs, b :: X, t, u, ha, hb, hu, h => by
    simp only [List.flatMap_cons, List.append_assoc] at h
    have h1 := firstL_frame a (xs.flatMap frameL ++ t) (ha a (by simp))
    have h2 := firstL_frame b (X.flatMap frameL ++ u) (hb b (by simp))
    rw [h, h2] at h1
    injection h1 with h1
    have h3 := List.append_inj h (by rw [frameL_length, frameL_length, h1])
    have := ahead_le xs X t u (fun x hx => ha x (by simp [hx])) (fun x hx => hb x (by simp [hx])) hu h3.2
    simp; omega
/-- The device's segments behind some frames. -/
def segX (X : List (List UInt8)) : List (List UInt8) := if X = [] then [] else [X.flatMap frameL]
theorem segX_app (X : List (List UInt8)) (l : List UInt8) : appS (segX X) l = [X.flatMap frameL ++ l] := by
  unfold segX
  by_cases h : X = []
  · subst h; rfl
  · rw [if_neg h]; rfl
theorem segX_next (X : List (List UInt8)) (l : List UInt8) : appS (segX X) (frameL l) = segX (X ++ [l]) := by
  rw [segX_app]; unfold segX; rw [if_neg (by simp)]; simp
theorem segX_last (X : List (List UInt8)) : lastN (segX X) = (X.flatMap frameL).length := by
  unfold segX
  by_cases h : X = []
  · subst h; rfl
  · rw [if_neg h]; rfl
theorem segX_len (X : List (List UInt8)) : (segX X).length ≤ 1 := by unfold segX; split <;> simp
theorem flat_600 : ∀ (X : List (List UInt8)), (∀ x ∈ X, x.length ≤ 100) → (X.flatMap frameL).length ≤ 106 * X.length
  | [], _ => by simp
  | x :: X, h => by
    have h1 := flat_600 X (fun y hy => h y (by simp [hy]))
    have h2 := h x (by simp)
    simp only [List.flatMap_cons, List.length_append, frameL_length, List.length_cons]; omega
set_option maxHeartbeats 3200000 in
theorem journalRecover_walk (w : World) (A : Option Addr) (n c : Nat) (rs : List RowT) (hV : SlView w A n c (rs.map rowV)) (hl : rs.length = n) (hr : ∀ r ∈ rs, RowOk w r ∧ r.2.2.1 ≤ 140737488351232) (hc : c ≤ 5864062014634)
    (D : Option Addr) (m e0 : Nat) (ys : List Int) (hV2 : SlView w D m e0 (ys.map (Value.int .u8))) (hl2 : ys.length = m) (hz2 : ∀ z ∈ ys, (Lit.int .u8 z).wf = true) (he0 : e0 ≤ 140737488351232) :
    Calls Try.prog 3 #[.slice A n c, .slice D m e0] w fun e w' => e = .returned (.bool true) ∧ Below w.heap.size w w' := by
  obtain ⟨tl, hyl⟩ := bytes_of ys hz2
  rw [hyl] at hV2
  have htl : tl.length = m := by have := congrArg List.length hyl; simp at this; omega
  have hnc := hV.le
  have hme := hV2.le
  have hSA : Sl w w.heap.size 1 A n (rs.map rowV) := hV.sl
  have HSD := Lib.hid hV2.sl
  have HD0 := Lib.hid hV2.none_
  have HTL := Lib.hid htl
  have HR := Lib.hid hr
  have HLL := Lib.hid hl
  clear hyl hV hV2 hl2 hz2 hr hl htl
  go_enter Try.func3, Try.ntmps3
  go_wp2_with fail
  refine (awake24 _).mono ?_
  rintro e w1 ⟨rfl, hb1⟩
  go_upto_region 5 with fail
  have h2 : DevE (fun k => k < w1.heap.size) w1.heap.size w1 w1.heap.size [] 0 0 (w1.alloc (.cells #[.slice none 0 0, .int .i64 0, .int .i64 0] 27)) := ⟨_, _, device_new w1 _⟩
  generalize (w1.alloc (.cells #[.slice none 0 0, .int .i64 0, .int .i64 0] 27)) = W2 at *
  obtain ⟨d, hd⟩ : ∃ d, d = w1.heap.size := ⟨_, rfl⟩
  rw [← hd] at h2 ⊢
  have HB1 := Lib.hid hb1
  have HD := Lib.hid hd
  have h0 : Hid (DevE (fun k => k < d) d w1 d (segX []) 0 0 W2) := Lib.hid h2
  clear hd hb1 h2
  go_wp2_with fail
  go_loopw [6, 24] (fun v i wr => ∃ (k : Nat) (X : List (List UInt8)), k ≤ n ∧ i = .int .i64 k ∧ X.length ≤ k ∧ X.length ≤ 10 ∧ Hid (∀ x ∈ X, x.length ≤ 100) ∧ v = .int .i64 ((X.flatMap frameL).length : Nat) ∧ Hid (DevE (fun k => k < d) d w1 d (segX X) 0 X.length wr)) (fun _ i _ => n - (intOf i).toNat)
  case atStart => exact ⟨0, [], Nat.zero_le _, rfl, Nat.le_refl _, by simp, Lib.hid (by simp), rfl, h0⟩
  case round =>
    obtain ⟨k, X, hk, rfl, hXk, hX10, hX100, hvv, hdv⟩ := hrel
    obtain ⟨L, hL⟩ : ∃ L, L = (X.flatMap frameL).length := ⟨_, rfl⟩
    have hL6 := flat_600 X hX100.out
    rw [← hL] at hvv hL6
    subst hvv
    have HL := Lib.hid hL
    clear hL
    have hbr : Below w.heap.size w wr := below_trans HB1.out HB1.out.size (by rw [← HD.out]; exact hdv.out.bel)
    by_cases hlt : k < n
    · obtain ⟨g, off, u, rfl, hbb, hu, hcell⟩ := (hSA.below hbr).at_ hlt
      have hlt' : (k : Int) < n := by omega
      have hkl : k < rs.length := by rw [HLL.out]; exact hlt
      rw [List.getElem?_map, List.getElem?_eq_getElem hkl, Option.map_some, Option.some.injEq] at hu
      subst hu
      obtain ⟨⟨RA, rn, rc, rl⟩, hrr⟩ : ∃ r, rs[k] = r := ⟨_, rfl⟩
      have hok := HR.out _ (List.getElem_mem hkl)
      rw [hrr] at hcell hok
      obtain ⟨⟨hrv, hrl⟩, hrc⟩ := hok
      simp only at hrv hrl hrc
      rw [show rowV (RA, rn, rc, rl) = .slice RA rn rc from rfl] at hcell
      have hrn := hrv.le
      have hi2 : IntKind.i64.wrap ((k : Int) + 1) = (k : Int) + 1 := IntWalk.i64_in _ (by omega)
      by_cases h10 : k < 10
      · have h10i : (k : Int) < 10 := by omega
        obtain ⟨K, hK⟩ : ∃ K, K = min rn 100 := ⟨_, rfl⟩
        have hK1 : K ≤ 100 := by omega
        have hK2 : K ≤ rn := by omega
        have hK3 : K ≤ rc := by omega
        obtain ⟨lk, hlk⟩ : ∃ lk, lk = rl.take K := ⟨_, rfl⟩
        have hlkl : lk.length = K := by rw [hlk]; simp; omega
        have hSk : Sl wr wr.heap.size 1 RA K (lk.map bv) := by rw [hlk]; exact ((hrv.sl.take K hK2).below hbr).more hbr.size
        have MK := Lib.hid (make_yes RA K rc lk wr hSk (fun e => by have := (hrv.none_ e).1; omega) (by omega))
        have hnx := Lib.hid (segX_next X lk)
        have hfl : ((X ++ [lk]).flatMap frameL).length = L + (K + 6) := by rw [HL.out]; simp [frameL_length, hlkl]
        have hw1 : IntKind.i64.wrap ((L : Int) + ((K : Int) + 6)) = (L : Int) + ((K : Int) + 6) := IntWalk.i64_in _ (by omega)
        have HFL := Lib.hid hfl
        have HLK := Lib.hid hlkl
        clear hrv hrl hrr hlk hlkl hSk hfl hkl hbr
        by_cases h100 : rn ≤ 100
        · obtain rfl : K = rn := by omega
          have hmi : ¬ (100 : Int) < K := by omega
          clear hK
          go_wp2_with fail
          refine MK.out.mono ?_
          clear MK
          rintro e w3 ⟨gf, rfl, hown, hb3⟩
          have hob : OB wr.heap.size wr (.slice (some ⟨gf, 0, none⟩) (K + 6) (K + 6)) (K + 6) ((frameL lk).map bv) w3 := OB.of_own hown hb3 hb3.size
          have AP := append_own hdv.out hb3 hob (by rw [segX_last, ← HL.out]; omega) (by have := segX_len X; omega) (by omega)
          rw [hnx.out] at AP
          have AP := Lib.hid AP
          clear hown hb3 hob hcell
          go_wp2_with fail
          refine AP.out.mono ?_
          clear AP
          rintro e w4 ⟨rfl, h4, -⟩
          have h4 : DevE (fun k => k < d) d w1 d (segX (X ++ [lk])) 0 (X ++ [lk]).length w4 := by
            have e1 : (if segX X = [] then 0 else 0) = 0 := by split <;> rfl
            rw [e1] at h4
            simpa using h4
          have H4 := Lib.hid h4
          clear h4
          go_wp2_with fail
          go_roundw
          case rel => exact ⟨k + 1, X ++ [lk], by omega, by go_num, by simp; omega, by simp; omega, Lib.hid (by
            intro x hx
            rcases List.mem_append.1 hx with hx | hx
            · exact hX100.out x hx
            · simp at hx; subst hx; rw [HLK.out]; exact hK1), by rw [HFL.out]; go_num, H4⟩
          case measure => simp [intOf]; omega
        · obtain rfl : K = 100 := by omega
          have hmi : (100 : Int) < rn := by omega
          have hw2 : IntKind.i64.wrap ((L : Int) + 106) = (L : Int) + 106 := IntWalk.i64_in _ (by omega)
          have MK2 := MK.out
          simp only [Nat.reduceAdd] at MK2
          have MK := Lib.hid MK2
          have h100rc : (100 : Int) ≤ rc := by omega
          clear hK MK2
          go_wp2_with fail
          refine MK.out.mono ?_
          clear MK
          rintro e w3 ⟨gf, rfl, hown, hb3⟩
          have hob : OB wr.heap.size wr (.slice (some ⟨gf, 0, none⟩) 106 106) 106 ((frameL lk).map bv) w3 := OB.of_own hown hb3 hb3.size
          have AP := append_own hdv.out hb3 hob (by rw [segX_last, ← HL.out]; omega) (by have := segX_len X; omega) (by omega)
          rw [hnx.out] at AP
          have AP := Lib.hid AP
          clear hown hb3 hob hcell
          go_wp2_with fail
          refine AP.out.mono ?_
          clear AP
          rintro e w4 ⟨rfl, h4, -⟩
          have h4 : DevE (fun k => k < d) d w1 d (segX (X ++ [lk])) 0 (X ++ [lk]).length w4 := by
            have e1 : (if segX X = [] then 0 else 0) = 0 := by split <;> rfl
            rw [e1] at h4
            simpa using h4
          have H4 := Lib.hid h4
          clear h4
          go_wp2_with fail
          go_roundw
          case rel => exact ⟨k + 1, X ++ [lk], by omega, by go_num, by simp; omega, by simp; omega, Lib.hid (by
            intro x hx
            rcases List.mem_append.1 hx with hx | hx
            · exact hX100.out x hx
            · simp at hx; subst hx; rw [HLK.out]; exact hK1), by rw [HFL.out]; go_num, H4⟩
          case measure => simp [intOf]; omega
      · have h10i : ¬ (k : Int) < 10 := by omega
        clear hrv hrl hrr hbr
        go_wp2_with fail
        go_roundw
        case rel => exact ⟨k + 1, X, by omega, by go_num, by omega, hX10, hX100, by rw [HL.out], hdv⟩
        case measure => simp [intOf]; omega
    · obtain rfl : k = n := by omega
      have hlt' : ¬ (k : Int) < k := by omega
      have hX600 : ∀ x ∈ X, x.length ≤ 600 := fun x hx => by have := hX100.out x hx; omega
      have HX6 := Lib.hid hX600
      have hw1 := HB1.out.size
      have hd1 := HD.out
      have hSw : Sl wr w.heap.size 1 D m (tl.map bv) := HSD.out.below hbr
      have hSr : Sl wr wr.heap.size 1 D m (tl.map bv) := hSw.more hbr.size
      have hF0 : ∀ (D' : Option Addr) (m' : Nat) (tl' : List UInt8), Sl wr w.heap.size 1 D' m' (tl'.map bv) → ∀ a, D' = some a → 0 < m' → a.block < d := by
        intro D' m' tl' hs a e hn
        obtain ⟨b, o, e2, hb, -⟩ := hs.2 hn
        rw [e] at e2; injection e2 with e2
        rw [e2]; show b < d; omega
      have main : ∀ (D' : Option Addr) (m' e' : Nat) (tl' : List UInt8) (w3 : World), Below wr.heap.size wr w3 → Sl wr w.heap.size 1 D' m' (tl'.map bv) → (D' = none → m' = 0 ∧ e' = 0) → m' ≤ e' → m' ≤ 140737488351232 → firstL tl' = none →
          Calls Try.prog 8 #[.pointer (some ⟨d, 0, none⟩), .slice D' m' e'] w3 fun e w' => e = .returned (.tuple #[]) ∧ DevE (fun k => k < d) d w1 d [X.flatMap frameL ++ tl'] 0 (X.length + 1) w' ∧ tl'.length = m' ∧ firstL tl' = none ∧ m' ≤ 140737488351232 := by
        intro D' m' e' tl' w3 hb3 hs ha0 hle hm hf
        have hl' : tl'.length = m' := by simpa using hs.1
        refine (append_any D' m' e' _ tl' (hs.below (hb3.mono hbr.size)) (fun e => (ha0 e).1) (hF0 D' m' tl' hs) (hdv.out.keep hb3) (by rw [segX_last, ← HL.out]; omega) (by have := segX_len X; omega) (by omega)).mono ?_
        rintro e w' ⟨q1, q2, -⟩
        rw [segX_app] at q2
        have e1 : (if segX X = [] then 0 else 0) = 0 := by split <;> rfl
        rw [e1] at q2
        exact ⟨q1, q2, hl', hf, hm⟩
      have MAIN := Lib.hid main
      have HSW := Lib.hid hSw
      clear main hF0 hX600 hd1 hw1 hbr hSw
      cases hf : firstL tl with
      | none =>
        have CN := Lib.hid (cut_none D m e0 tl wr hSr (fun e => (HD0.out e).1) hme (by omega) hf)
        have AP := Lib.hid (fun w3 hb => MAIN.out D m e0 tl w3 hb HSW.out HD0.out hme (by omega) hf)
        clear hf hSr
        go_wp2_with fail
        refine CN.out.mono ?_
        clear CN
        rintro e w3 ⟨rfl, q, rfl⟩
        go_upto_region 16 with fail
        obtain ⟨m', e', D', tl', hval, W3, hW3, AP⟩ : ∃ m' e' D' tl', Value.slice D m e0 = Value.slice D' m' e' ∧ ∃ W3, W3 = wr.drewN q ∧ Hid (Calls Try.prog 8 #[.pointer (some ⟨d, 0, none⟩), .slice D' m' e'] W3 fun e w' => e = .returned (.tuple #[]) ∧ DevE (fun k => k < d) d w1 d [X.flatMap frameL ++ tl'] 0 (X.length + 1) w' ∧ tl'.length = m' ∧ firstL tl' = none ∧ m' ≤ 140737488351232) := ⟨m, e0, D, tl, rfl, _, rfl, Lib.hid (AP.out _ (below_drewN (Below.refl _ _) q))⟩
        rw [hval, ← hW3]
        clear hval hW3 HSW HD0 HSD HTL hme he0
        go_wp2_with fail
        refine AP.out.mono ?_
        clear AP
        rintro e w4 ⟨rfl, h4, hl4, hf4, hm4⟩
        obtain ⟨s, hs⟩ : ∃ s, s = X.flatMap frameL ++ tl' := ⟨_, rfl⟩
        rw [← hs] at h4
        have hsl : s.length = L + m' := by rw [hs, List.length_append, HL.out, hl4]
        have hfr : Frm s L X := ⟨⟨by omega, by rw [hs, HL.out]; simp, HX6.out⟩, by rw [hs, HL.out]; simpa using hf4⟩
        have hsX : ∀ p xs, Ahead s p xs → xs.length ≤ 10 := fun p xs h => Nat.le_trans (ahead_le xs X _ tl' h.2.2 HX6.out hf4 (by rw [← hs]; exact h.2.1.symm)) hX10
        have RD := Lib.hid (read_gen h4 (by simp) (by intro x hx; simp at hx; subst hx; omega) (by intro x hx p xs h; simp at hx; subst hx; have := hsX p xs h; omega) (by
          intro q fs hfa
          by_cases hq : q = 0
          · subst hq
            obtain rfl := hfa.nil'
            simp
          · rw [List.take_of_length_le (by simp; omega)] at hfa
            obtain rfl := hfa.single hfr
            simp; omega))
        have H4 := Lib.hid h4
        have HFR := Lib.hid hfr
        have HSX := Lib.hid hsX
        have HSL := Lib.hid hsl
        obtain ⟨bq, hq1, hq2⟩ : ∃ bq : Bool, (m' == 0) = bq ∧ ((m' : Int) == 0) = bq := by
          by_cases h : m' = 0
          · exact ⟨true, by simp [h], by simp [h]⟩
          · exact ⟨false, by simp [h], by simp [h]⟩
        have HQ1 := Lib.hid hq1
        have HQ2 := Lib.hid hq2
        clear h4 hfr hsX hs hf4 hl4 hq1 hq2 hsl
        go_wp2_with fail
        refine RD.out.mono ?_
        clear RD
        rintro e w5 ⟨v, vs, fs, rfl, hcp, hfa⟩
        obtain rfl := hfa.single HFR.out
        have hwb : wholeB [(L, X)] [s] = bq := by
          rw [← HQ1.out]
          have := HSL.out
          unfold wholeB
          simp only [List.zip_cons_cons, List.zip_nil_left, List.all_cons, List.all_nil, Bool.and_true]
          rw [Bool.eq_iff_iff]; simp; omega
        rw [hwb]
        have h5 := H4.out.keep hcp.ob.bel
        obtain ⟨Av, cv, rfl, -⟩ := hcp.ob.slice
        have hba : Below w5.heap.size w5 (w5.alloc (.cells #[.pointer (some ⟨d, 0, none⟩)] 38)) := (Below.refl _ _).alloc (Nat.le_refl _) _
        have h6 : DevE (FJ d w5.heap.size) d w1 d [s] 0 (X.length + 1) (w5.alloc (.cells #[.pointer (some ⟨d, 0, none⟩)] 38)) := h5.wide hba (fun q hq => by
          rcases hq with hq | hq
          · exact .inl hq
          · exact .inr (by simp; omega))
        have hj6 : Jn2 (FJ d w5.heap.size) d w5.heap.size (w5.alloc (.cells #[.pointer (some ⟨d, 0, none⟩)] 38)) := ⟨Cs.new w5 #[.pointer (some ⟨d, 0, none⟩)] 38 _ rfl, .inr rfl⟩
        have OF := Lib.hid (of_any w5 d)
        have H6 := Lib.hid h6
        have HJ6 := Lib.hid hj6
        clear hcp hfa hwb h5 hba h6 hj6
        go_wp2_with fail
        refine OF.out.mono ?_
        clear OF
        rintro e w6 ⟨rfl, hw6⟩
        rw [hw6] at H6 HJ6
        obtain ⟨j, hj⟩ : ∃ j, j = w5.heap.size := ⟨_, rfl⟩
        rw [← hj] at H6 HJ6 ⊢
        clear hj hw6
        have c6 := HJ6.out.1.get 0 _
        have q6 := HJ6.out.1.lt
        have RC := Lib.hid (recover_gen [] s H6.out HJ6.out (Nat.zero_le _) (by simp) (by intro x hx; simp at hx; subst hx; have := HSL.out; omega) (fun p xs h => by have := HSX.out p xs h; omega))
        go_wp2_with fail
        refine RC.out.mono ?_
        clear RC c6 q6
        rintro e w7 ⟨p, xs, rfl, hfr2, h7, -⟩
        obtain ⟨rfl, rfl⟩ := hfr2.one HFR.out
        rw [show s.length - p = m' by have := HSL.out; omega]
        have hbw7 : Below w.heap.size w w7 := below_trans HB1.out HB1.out.size (by rw [← HD.out]; exact h7.bel)
        have hll : lastN ([] ++ [s.take p]) = p := by rw [lastN_snoc]; have := HSL.out; simp; omega
        have LA := last_any h7
        rw [hll] at LA
        have LA := Lib.hid LA
        have SA := Lib.hid (fun q => safe_any (h7.drewN q) (by rw [hll]; exact Nat.le_refl _) (by simp [sumL]; omega) (by simp))
        have hsm : sumL ([] ++ [s.take p]) - lastN ([] ++ [s.take p]) + p = p := by rw [hll]; have := HSL.out; simp [sumL]; omega
        rw [hsm] at SA
        have hq2 := HQ2.out
        clear hfr2 h7 hll hsm
        go_wp2_with fail
        refine LA.out.mono ?_
        clear LA
        rintro e w8 ⟨rfl, q8, rfl⟩
        go_wp2_with fail
        refine (SA.out q8).mono ?_
        clear SA
        rintro e w9 ⟨rfl, q9, rfl⟩
        go_wp2_with fail
        go_ret
        exact ⟨rfl, below_drewN hbw7 _⟩
      | some q0 =>
        have CY := Lib.hid (cut_yes D m e0 tl q0 wr hSr (fun e => (HD0.out e).1) hme (by omega) hf)
        have AP := Lib.hid (fun w3 hb => MAIN.out none 0 0 [] w3 hb (Sl.nil _ _ _ _) (fun _ => ⟨rfl, rfl⟩) (Nat.le_refl _) (by omega) (by decide +kernel))
        clear hf hSr
        go_wp2_with fail
        refine CY.out.mono ?_
        clear CY
        rintro e w3 ⟨v1, v2, rfl, -, -, hb3⟩
        go_upto_region 16 with fail
        obtain ⟨m', e', D', tl', hval, W3, hW3, AP⟩ : ∃ m' e' D' tl', Value.slice none 0 0 = Value.slice D' m' e' ∧ ∃ W3, W3 = w3 ∧ Hid (Calls Try.prog 8 #[.pointer (some ⟨d, 0, none⟩), .slice D' m' e'] W3 fun e w' => e = .returned (.tuple #[]) ∧ DevE (fun k => k < d) d w1 d [X.flatMap frameL ++ tl'] 0 (X.length + 1) w' ∧ tl'.length = m' ∧ firstL tl' = none ∧ m' ≤ 140737488351232) := ⟨0, 0, none, [], rfl, _, rfl, Lib.hid (AP.out _ hb3)⟩
        rw [hval, ← hW3]
        clear hval hW3 HSW HD0 HSD HTL hme he0
        go_wp2_with fail
        refine AP.out.mono ?_
        clear AP
        rintro e w4 ⟨rfl, h4, hl4, hf4, hm4⟩
        obtain ⟨s, hs⟩ : ∃ s, s = X.flatMap frameL ++ tl' := ⟨_, rfl⟩
        rw [← hs] at h4
        have hsl : s.length = L + m' := by rw [hs, List.length_append, HL.out, hl4]
        have hfr : Frm s L X := ⟨⟨by omega, by rw [hs, HL.out]; simp, HX6.out⟩, by rw [hs, HL.out]; simpa using hf4⟩
        have hsX : ∀ p xs, Ahead s p xs → xs.length ≤ 10 := fun p xs h => Nat.le_trans (ahead_le xs X _ tl' h.2.2 HX6.out hf4 (by rw [← hs]; exact h.2.1.symm)) hX10
        have RD := Lib.hid (read_gen h4 (by simp) (by intro x hx; simp at hx; subst hx; omega) (by intro x hx p xs h; simp at hx; subst hx; have := hsX p xs h; omega) (by
          intro q fs hfa
          by_cases hq : q = 0
          · subst hq
            obtain rfl := hfa.nil'
            simp
          · rw [List.take_of_length_le (by simp; omega)] at hfa
            obtain rfl := hfa.single hfr
            simp; omega))
        have H4 := Lib.hid h4
        have HFR := Lib.hid hfr
        have HSX := Lib.hid hsX
        have HSL := Lib.hid hsl
        obtain ⟨bq, hq1, hq2⟩ : ∃ bq : Bool, (m' == 0) = bq ∧ ((m' : Int) == 0) = bq := by
          by_cases h : m' = 0
          · exact ⟨true, by simp [h], by simp [h]⟩
          · exact ⟨false, by simp [h], by simp [h]⟩
        have HQ1 := Lib.hid hq1
        have HQ2 := Lib.hid hq2
        clear h4 hfr hsX hs hf4 hl4 hq1 hq2 hsl
        go_wp2_with fail
        refine RD.out.mono ?_
        clear RD
        rintro e w5 ⟨v, vs, fs, rfl, hcp, hfa⟩
        obtain rfl := hfa.single HFR.out
        have hwb : wholeB [(L, X)] [s] = bq := by
          rw [← HQ1.out]
          have := HSL.out
          unfold wholeB
          simp only [List.zip_cons_cons, List.zip_nil_left, List.all_cons, List.all_nil, Bool.and_true]
          rw [Bool.eq_iff_iff]; simp; omega
        rw [hwb]
        have h5 := H4.out.keep hcp.ob.bel
        obtain ⟨Av, cv, rfl, -⟩ := hcp.ob.slice
        have hba : Below w5.heap.size w5 (w5.alloc (.cells #[.pointer (some ⟨d, 0, none⟩)] 38)) := (Below.refl _ _).alloc (Nat.le_refl _) _
        have h6 : DevE (FJ d w5.heap.size) d w1 d [s] 0 (X.length + 1) (w5.alloc (.cells #[.pointer (some ⟨d, 0, none⟩)] 38)) := h5.wide hba (fun q hq => by
          rcases hq with hq | hq
          · exact .inl hq
          · exact .inr (by simp; omega))
        have hj6 : Jn2 (FJ d w5.heap.size) d w5.heap.size (w5.alloc (.cells #[.pointer (some ⟨d, 0, none⟩)] 38)) := ⟨Cs.new w5 #[.pointer (some ⟨d, 0, none⟩)] 38 _ rfl, .inr rfl⟩
        have OF := Lib.hid (of_any w5 d)
        have H6 := Lib.hid h6
        have HJ6 := Lib.hid hj6
        clear hcp hfa hwb h5 hba h6 hj6
        go_wp2_with fail
        refine OF.out.mono ?_
        clear OF
        rintro e w6 ⟨rfl, hw6⟩
        rw [hw6] at H6 HJ6
        obtain ⟨j, hj⟩ : ∃ j, j = w5.heap.size := ⟨_, rfl⟩
        rw [← hj] at H6 HJ6 ⊢
        clear hj hw6
        have c6 := HJ6.out.1.get 0 _
        have q6 := HJ6.out.1.lt
        have RC := Lib.hid (recover_gen [] s H6.out HJ6.out (Nat.zero_le _) (by simp) (by intro x hx; simp at hx; subst hx; have := HSL.out; omega) (fun p xs h => by have := HSX.out p xs h; omega))
        go_wp2_with fail
        refine RC.out.mono ?_
        clear RC c6 q6
        rintro e w7 ⟨p, xs, rfl, hfr2, h7, -⟩
        obtain ⟨rfl, rfl⟩ := hfr2.one HFR.out
        rw [show s.length - p = m' by have := HSL.out; omega]
        have hbw7 : Below w.heap.size w w7 := below_trans HB1.out HB1.out.size (by rw [← HD.out]; exact h7.bel)
        have hll : lastN ([] ++ [s.take p]) = p := by rw [lastN_snoc]; have := HSL.out; simp; omega
        have LA := last_any h7
        rw [hll] at LA
        have LA := Lib.hid LA
        have SA := Lib.hid (fun q => safe_any (h7.drewN q) (by rw [hll]; exact Nat.le_refl _) (by simp [sumL]; omega) (by simp))
        have hsm : sumL ([] ++ [s.take p]) - lastN ([] ++ [s.take p]) + p = p := by rw [hll]; have := HSL.out; simp [sumL]; omega
        rw [hsm] at SA
        have hq2 := HQ2.out
        clear hfr2 h7 hll hsm
        go_wp2_with fail
        refine LA.out.mono ?_
        clear LA
        rintro e w8 ⟨rfl, q8, rfl⟩
        go_wp2_with fail
        refine (SA.out q8).mono ?_
        clear SA
        rintro e w9 ⟨rfl, q9, rfl⟩
        go_wp2_with fail
        go_ret
        exact ⟨rfl, below_drewN hbw7 _⟩
end Go.Proofs.Ytidpffgdndjgpaa
