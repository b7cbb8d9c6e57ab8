/- The walk of DeviceKeeps. -/
import Derived.Test.YtigfopkdcmlcnaaLawDevO
import Derived.Test.YtigfopkdcmlcnaaView2
namespace Go.Proofs.Ytigfopkdcmlcnaa
open Go.RowKit
set_option linter.unusedVariables false
set_option maxRecDepth 20000
attribute [local simp] putsF isV wordOf Deps Region.binds Region.wanted Act.put wantedX isB
/-- The bytes of the first rows. -/
def catR (rs : List RowT) (k : Nat) : List UInt8 := (rs.take k).flatMap fun r => r.2.2.2
theorem catR_next {rs : List RowT} {k : Nat} (hk : k < rs.length) : catR rs (k + 1) = catR rs k ++ (rs[k]).2.2.2 := by
  unfold catR; rw [List.take_succ_eq_append_getElem hk, List.flatMap_append, List.flatMap_cons, List.flatMap_nil, List.append_nil]
theorem catR_len (rs : List RowT) (hr : ∀ r ∈ rs, r.2.2.2.length = r.2.1) (k : Nat) : (catR rs k).length ≤ sumR rs := by
  induction rs generalizing k with
  | nil => simp [catR]
  | cons r rs ih =>
    cases k with
    | zero => simp [catR]
    | succ k =>
      have h1 := ih (fun x hx => hr x (by simp [hx])) k
      have h2 := hr r (by simp)
      rw [sumR_cons]
      unfold catR at *
      simp only [List.take_succ_cons, List.flatMap_cons, List.length_append]
      omega
/-- The segments behind so many rows. -/
def segR (rs : List RowT) (k : Nat) : List (List UInt8) := if k = 0 then [] else [catR rs k]
theorem segR_next {rs : List RowT} {k : Nat} (hk : k < rs.length) : appS (segR rs k) (rs[k]).2.2.2 = segR rs (k + 1) := by
  unfold segR
  by_cases h : k = 0
  · subst h; simp [appS, catR_next hk]; simp [catR]
  · rw [if_neg h, if_neg (by omega), catR_next hk]; rfl
theorem segR_last (rs : List RowT) (k : Nat) : lastN (segR rs k) = (catR rs k).length := by
  unfold segR
  by_cases h : k = 0
  · subst h; simp [lastN, catR]
  · rw [if_neg h]; simp [lastN]
theorem segR_len (rs : List RowT) (k : Nat) : (segR rs k).length ≤ 1 := by
  unfold segR; split <;> simp
set_option maxHeartbeats 3200000 in
theorem deviceKeeps_walk (w : World) (A : Option Addr) (n c : Nat) (rs : List RowT) (hV : SlView w A n c (rs.map rowV)) (hl : rs.length = n) (hr : ∀ r ∈ rs, RowOk w r) (hc : c ≤ 1048576) (hsum : sumR rs ≤ 1048576)
    (y : Int) (hy : (Lit.int .u8 y).wf = true) (keep : Int) (hkw : (Lit.int .i64 keep).wf = true) :
    Calls Try.prog 10 #[.slice A n c, .int .u8 y, .int .i64 keep] w fun e w' => e = .returned (.bool true) ∧ Below w.heap.size w w' := by
  have hnc := hV.le
  have hSA : Sl w w.heap.size 1 A n (rs.map rowV) := hV.sl
  have y8 := bounds_u8 hy
  have hkb := bounds_i64 hkw
  have hcl := catR_len rs (fun r h => (hr r h).2)
  have HR := Lib.hid hr
  have HLL := Lib.hid hl
  have HCL := Lib.hid hcl
  clear hV hr hl hcl hy hkw
  obtain ⟨y, rfl⟩ : ∃ k : Nat, y = k := ⟨y.toNat, by omega⟩
  have hyn : y < 256 := by omega
  obtain ⟨S, hS⟩ : ∃ S : Nat, S = y % (n + 1) := ⟨_, rfl⟩
  have hSi : (y : Int) % ((n : Int) + 1) = (S : Int) := by rw [hS]; simp
  have HS := Lib.hid hSi
  have HSS := Lib.hid hS
  clear hSi hS y8
  go_enter Try.func10, Try.ntmps10
  go_wp2_with fail
  refine (awake23 _).mono ?_
  rintro e w1 ⟨rfl, hb1⟩
  go_upto_region 5 with fail
  have h2 := device_start w1 68
  have hb2 := hb1.alloc hb1.size (.cells #[.slice none 0 0, .int .i64 0, .int .i64 0] 68)
  generalize (w1.alloc (.cells #[.slice none 0 0, .int .i64 0, .int .i64 0] 68)) = W2 at *
  obtain ⟨d, hd⟩ : ∃ d, d = w1.heap.size := ⟨_, rfl⟩
  rw [← hd] at h2 ⊢
  have HB1 := Lib.hid hb1
  have HD := Lib.hid hd
  have h0 : Hid (DevE (fun k => k < d) d w1 d (segR rs 0) 0 0 W2) := Lib.hid (by simpa [segR] using h2)
  clear hd hb1 h2
  go_wp2_with fail
  go_loopw [8, 9, 19] (fun a s i wr => ∃ k sf : Nat, k ≤ n ∧ i = .int .i64 k ∧ a = .string ⟨(catR rs k).toArray⟩ ∧ s = .int .i64 sf ∧ sf ≤ (catR rs k).length ∧ Hid (DevE (fun k => k < d) d w1 d (segR rs k) sf k wr)) (fun _ _ i _ => n - (intOf i).toNat)
  case atStart => exact ⟨0, 0, Nat.zero_le _, rfl, by simp [catR], rfl, Nat.zero_le _, h0⟩
  case round =>
    obtain ⟨k, sf, hk, rfl, rfl, rfl, hsf, hdv⟩ := hrel
    have hbr : Below w.heap.size w wr := below_trans HB1.out HB1.out.size (by rw [← HD.out]; exact hdv.out.bel)
    by_cases hlt : k < n
    · obtain ⟨g, off, u, rfl, hbb, hu, hcell⟩ := (hSA.below hbr).at_ hlt
      have hkl : k < rs.length := by rw [HLL.out]; exact hlt
      rw [List.getElem?_map, List.getElem?_eq_getElem hkl, Option.map_some, Option.some.injEq] at hu
      subst hu
      obtain ⟨⟨RA, rn, rc, rl⟩, hrr⟩ : ∃ r, rs[k] = r := ⟨_, rfl⟩
      have hok := HR.out _ (List.getElem_mem hkl)
      have hnx := segR_next hkl
      have hcx := catR_next hkl
      have hll := segR_last rs k
      have hlen1 := HCL.out k
      have hlen2 := HCL.out (k + 1)
      rw [hrr] at hcell hok hnx hcx
      obtain ⟨hrv, hrl⟩ := hok
      simp only at hrv hrl hnx hcx
      rw [show rowV (RA, rn, rc, rl) = .slice RA rn rc from rfl] at hcell
      have hrn : (catR rs k).length + rn ≤ 1048576 := by have := congrArg List.length hcx; simp at this; omega
      obtain ⟨AL, hAL⟩ : ∃ AL, AL = ByteArray.mk (catR rs k).toArray := ⟨_, rfl⟩
      obtain ⟨AN, hAN⟩ : ∃ AN, AN = ByteArray.mk (catR rs (k + 1)).toArray := ⟨_, rfl⟩
      obtain ⟨RL, hRL⟩ : ∃ RL, RL = ByteArray.mk rl.toArray := ⟨_, rfl⟩
      have hcat : AL ++ RL = AN := by rw [hAL, hRL, hAN, hcx]; apply ByteArray.ext; simp
      have q1 : ¬ 9223372036854775807 < AL.size + RL.size := by rw [hAL, hRL, mk_size, mk_size]; omega
      have hAs : AN.size = (catR rs (k + 1)).length := by rw [hAN, mk_size]
      rw [← hAL]
      have hF : ∀ a, RA = some a → 0 < rn → a.block < d := by
        intro a e hn
        obtain ⟨b, o, e2, hb, -⟩ := hrv.sl.2 hn
        rw [e] at e2; injection e2 with e2
        have h9 := HB1.out.size
        have h8 := HD.out
        rw [e2]; show b < d; omega
      have hsafe : (if segR rs k = [] then 0 else sf) = sf := by
        by_cases h : k = 0
        · subst h; simp [catR] at hsf; subst hsf; simp
        · rw [if_neg (by simp [segR, h])]
      have AP := append_any RA rn rc _ rl (hrv.sl.below hbr) (fun e => (hrv.none_ e).1) hF hdv.out (by rw [hll]; omega) (by have := segR_len rs k; omega) (by omega)
      rw [hnx, hsafe] at AP
      have AP := Lib.hid AP
      have HRV := Lib.hid hrv
      have HN := Lib.hid hAN
      have HRL := Lib.hid hRL
      have HAS := Lib.hid hAs
      have hi2 : IntKind.i64.wrap ((k : Int) + 1) = (k : Int) + 1 := IntWalk.i64_in _ (by omega)
      have hll2 := segR_last rs (k + 1)
      have hlenN : (catR rs k).length ≤ (catR rs (k + 1)).length := by rw [hcx]; simp
      have HLN2 := Lib.hid hll2
      clear hAL hAN hRL hAs hrv hrl hF hsafe hnx hcx hll hll2
      go_wp2_with fail
      refine AP.out.mono ?_
      clear AP
      rintro e w2 ⟨rfl, h2, -⟩
      have hb2' : Below w.heap.size w w2 := below_trans HB1.out HB1.out.size (by rw [← HD.out]; exact h2.bel)
      have hcv := run_string_of (P := Try.prog) w2 33 9 5 _ RA rn rl Try.underlying33 Try.underlying5 Try.underlying9 (HRV.out.sl.below hb2') (fun h => (HRV.out.none_ h).1) rc
      rw [← HRL.out] at hcv
      have H2 := Lib.hid h2
      have hn1 : (0 : Int) < (n : Int) + 1 := by omega
      have hS := HS.out
      clear h2 hcell hbr hdv
      by_cases hkS : k = S
      · have hkS' : ((k : Int) == (S : Int)) = true := by simp; omega
        have SY := Lib.hid (sync_any H2.out)
        clear hkS
        go_wp2_with fail
        refine SY.out.mono ?_
        clear SY
        rintro e w3 ⟨rfl, h3, -⟩
        rw [HLN2.out] at h3
        have H3 := Lib.hid h3
        clear h3
        go_wp2_with fail
        go_roundw
        case rel => exact ⟨k + 1, (catR rs (k + 1)).length, by omega, by go_num, by rw [HN.out], by rw [HAS.out], Nat.le_refl _, H3⟩
        case measure => simp [intOf]; omega
      · have hkS' : ((k : Int) == (S : Int)) = false := by simp; omega
        clear hkS
        go_wp2_with fail
        go_roundw
        case rel => exact ⟨k + 1, sf, by omega, by go_num, by rw [HN.out], rfl, by omega, H2⟩
        case measure => simp [intOf]; omega
    · obtain rfl : k = n := by omega
      have hll := segR_last rs k
      have hlen1 := HCL.out k
      obtain ⟨M, hM⟩ : ∃ M, M = sf + keep.toNat := ⟨_, rfl⟩
      have CR := crash_any keep hkb.1 hkb.2 hdv.out (by rw [hll]; exact hsf)
      rw [← hM, hll] at CR
      have CR := Lib.hid CR
      have hlt' : ¬ (k : Int) < k := by omega
      have HM := Lib.hid hM
      clear hM hbr hdv hll
      go_wp2_with fail
      refine CR.out.mono ?_
      clear CR
      rintro e w2 ⟨rfl, h2, -⟩
      have SG := Lib.hid (segments_any h2 (by rw [cutS_len]; have := segR_len rs k; omega) (by
        intro s hs
        unfold segR at hs
        split at hs
        · simp [cutS] at hs
        · simp [cutS] at hs; subst hs; simp; omega))
      have H2 := Lib.hid h2
      clear h2
      go_wp2_with fail
      refine SG.out.mono ?_
      clear SG
      rintro e w3 ⟨v, vals, rfl, hcp⟩
      have h3 := H2.out.keep hcp.ob.bel
      have hb3 : Below w.heap.size w w3 := below_trans HB1.out HB1.out.size (by rw [← HD.out]; exact h3.bel)
      by_cases hk0 : k = 0
      · subst hk0
        have h3 : DevE (fun k => k < d) d w1 d [] (min M 0) 0 w3 := h3
        have SA := safe_any h3 (by simp) (by simp [sumL]) (by simp)
        rw [show ((sumL [] - lastN [] + min M 0 : Nat) : Int) = 0 by simp [sumL, lastN]] at SA
        have SA := Lib.hid SA
        have hv0 := hcp.ob
        obtain ⟨Av, cv, rfl, -⟩ := hv0.slice
        have hls : (cutS (segR rs 0) M).length = 0 := rfl
        rw [hls]
        clear h3 hcp hv0 hls
        go_wp2_with fail
        refine SA.out.mono ?_
        rintro e w4 ⟨rfl, q, rfl⟩
        go_wp2_with fail
        go_ret
        exact ⟨rfl, below_drewN hb3 _⟩
      · obtain ⟨T, hT⟩ : ∃ T, T = (catR rs k).take M := ⟨_, rfl⟩
        have hseg : cutS (segR rs k) M = [T] := by rw [hT]; unfold segR; rw [if_neg hk0]; simp [cutS]
        rw [hseg] at h3 hcp
        obtain ⟨tn, htn⟩ : ∃ tn, tn = T.length := ⟨_, rfl⟩
        have htl : tn = min M (catR rs k).length := by rw [htn, hT]; simp
        rw [← htl] at h3
        have SA := fun wx (hb : Below w3.heap.size w3 wx) => safe_any (h3.keep hb) (by rw [show lastN [T] = T.length by simp [lastN]]; omega) (by simp [sumL]; omega) (by simp)
        rw [show ((sumL [T] - lastN [T] + tn : Nat) : Int) = tn by simp [sumL, lastN]] at SA
        have SA := Lib.hid SA
        obtain ⟨gs, At, ct, cap, rfl, -, q6, c6, k1, k2, k3, ks⟩ := hcp.at_ 0 (by simp)
        have c6 : w3.cell? ⟨gs, 0, none⟩ = some (.slice At tn ct) := by rw [htn]; exact c6
        have KS : Hid (Sl w3 w3.heap.size 1 At tn (T.map bv)) := Lib.hid (by rw [htn]; exact ks.sl)
        have HK3 : Hid (At = none → tn = 0) := Lib.hid (fun e => by rw [htn]; exact (k3 e).1)
        obtain ⟨AL, hAL⟩ : ∃ AL, AL = ByteArray.mk (catR rs k).toArray := ⟨_, rfl⟩
        obtain ⟨TS, hTS⟩ : ∃ TS, TS = ByteArray.mk T.toArray := ⟨_, rfl⟩
        have hex : AL.extract 0 tn = TS := by
          rw [hAL, hTS, hT]
          apply ByteArray.ext; apply Array.ext'
          simp [List.extract_eq_take_drop]
          rw [htl]
          omega
        have hALs : AL.size = (catR rs k).length := by rw [hAL, mk_size]
        have hsft : sf ≤ tn := by have := HM.out; omega
        have hkk : ¬ 0 < keep → tn = sf := fun h => by have := HM.out; omega
        rw [← hAL]
        have HTS := Lib.hid hTS
        have htAL : tn ≤ AL.size := by omega
        have hk0' : ((k : Int) == 0) = false := by simp; omega
        have HEX := Lib.hid hex
        have hALn : AL.size ≤ 1048576 := by omega
        clear h3 hcp ks k1 k2 k3 hT htn htl hAL hTS hseg hex hALs H2 hk0
        rw [show ([T] : List (List UInt8)).length = 1 from rfl]
        go_upto_region 18 with fail
        by_cases hkp : 0 < keep
        · refine wp_region_goesG dev_follows (fun x => by simp [putsF, Act.put]; rfl) w3.heap.size w3
            [isV (.slice (some ⟨gs, 0, none⟩) 1 cap), isV (.int .i64 1), isV (.bool true), isV (.bool true), isV (.slice (some ⟨gs, 0, none⟩) 1 cap), isV (.pointer (some ⟨gs, 0, none⟩)), isV (.slice At tn ct), isV (.int .i64 tn), isV (.int .i64 sf), isV (.bool true), isV (.bool true), isV (.bool true),
             isV (.slice (some ⟨gs, 0, none⟩) 1 cap), isV (.pointer (some ⟨gs, 0, none⟩)), isV (.slice At tn ct), isV (.string TS), isV (.string AL), isV (.slice (some ⟨gs, 0, none⟩) 1 cap), isV (.pointer (some ⟨gs, 0, none⟩)), isV (.slice At tn ct), isV (.int .i64 tn), isV (.string AL), isV (.int .i64 AL.size), isV (.int .i64 tn), isV (.string TS), isV (.bool true), isV (.bool true), isV (.bool true),
             isV (.pointer (some ⟨d, 0, none⟩)), isV (.int .i64 tn), isV (.slice (some ⟨gs, 0, none⟩) 1 cap), isV (.pointer (some ⟨gs, 0, none⟩)), isV (.slice At tn ct), isV (.int .i64 tn), isV (.bool true), isV (.bool true), isV (.bool true),
             isV (.int .i64 keep), isV (.bool true), isV (.bool true), isV undef, isV undef, isV undef, isV undef, isV undef, isV undef, isV (.bool true), isV (.bool true), isV (.bool true)]
            (by kernel_rfl) (by kernel_rfl) (by kernel_rfl) rfl ?_ (Below.refl _ _) ?_ ?_
          · repeat (first | exact trivial | refine ⟨isV_stays _, ?_⟩)
          · refine ⟨?_, ?_, ?_, ?_, ?_, ?_, ?_, ?_, ?_, ?_, ?_, ?_, ?_, ?_, ?_, ?_, ?_, ?_, ?_, ?_, ?_, ?_, ?_, ?_, ?_, ?_, ?_, ?_, ?_, ?_, ?_, ?_, ?_, ?_, ?_, ?_, ?_, ?_, ?_, ?_, ?_, ?_, ?_, ?_, ?_, ?_, ?_, ?_, ?_, trivial⟩
            all_goals
              intro x wx hR hd
              simp at hd ⊢
            all_goals try simp [hd]
            all_goals try (go_simp; exact next_same _ rfl rfl hR)
            all_goals try (have f0 := (hR.cell (p := ⟨gs, 0, none⟩) q6).trans c6; go_simp; exact next_same _ rfl rfl hR)
            all_goals first
              | (have hv := run_string_of (P := Try.prog) wx 33 9 5 _ At tn T Try.underlying33 Try.underlying5 Try.underlying9 (KS.out.below hR) HK3.out ct; rw [← HTS.out] at hv; go_simp; exact next_same _ rfl rfl hR)
              | (go_simp; go_at_call 40; refine (SA.out wx hR).mono ?_; rintro e' w6 ⟨rfl, q, rfl⟩; exact next_call _ rfl rfl hR hR.size (below_drewN (Below.refl _ _) _))
              | (have hex := HEX.out; go_simp; exact next_same _ rfl rfl hR)
              | (go_simp; split <;> first | (exfalso; omega) | exact next_same _ rfl rfl hR)
              | skip
            all_goals trace_state
          intro x wy hby hx
          simp [AllWords] at hx ⊢
          have hx48 : x 48 = .bool true := by simp [hx]
          clear hx
          rw [hx48]
          have hbz9 := hb3.trans (hby.mono hb3.size)
          go_wp2_with fail
          go_ret
          exact ⟨rfl, hbz9⟩
        · obtain rfl : tn = sf := hkk (by omega)
          have hkp2 : keep ≤ 0 := by omega
          have hkp3 : decide (0 < keep) = false := by simp; omega
          refine wp_region_goesG dev_follows (fun x => by simp [putsF, Act.put]; rfl) w3.heap.size w3
            [isV (.slice (some ⟨gs, 0, none⟩) 1 cap), isV (.int .i64 1), isV (.bool true), isV (.bool true), isV (.slice (some ⟨gs, 0, none⟩) 1 cap), isV (.pointer (some ⟨gs, 0, none⟩)), isV (.slice At tn ct), isV (.int .i64 tn), isV (.int .i64 tn), isV (.bool true), isV (.bool true), isV (.bool true),
             isV (.slice (some ⟨gs, 0, none⟩) 1 cap), isV (.pointer (some ⟨gs, 0, none⟩)), isV (.slice At tn ct), isV (.string TS), isV (.string AL), isV (.slice (some ⟨gs, 0, none⟩) 1 cap), isV (.pointer (some ⟨gs, 0, none⟩)), isV (.slice At tn ct), isV (.int .i64 tn), isV (.string AL), isV (.int .i64 AL.size), isV (.int .i64 tn), isV (.string TS), isV (.bool true), isV (.bool true), isV (.bool true),
             isV (.pointer (some ⟨d, 0, none⟩)), isV (.int .i64 tn), isV (.slice (some ⟨gs, 0, none⟩) 1 cap), isV (.pointer (some ⟨gs, 0, none⟩)), isV (.slice At tn ct), isV (.int .i64 tn), isV (.bool true), isV (.bool true), isV (.bool true),
             isV (.int .i64 keep), isV (.bool false), isV (.bool false), isV (.slice (some ⟨gs, 0, none⟩) 1 cap), isV (.pointer (some ⟨gs, 0, none⟩)), isV (.slice At tn ct), isV (.int .i64 tn), isV (.int .i64 tn), isV (.bool true), isV (.bool true), isV (.bool true), isV (.bool true)]
            (by kernel_rfl) (by kernel_rfl) (by kernel_rfl) rfl ?_ (Below.refl _ _) ?_ ?_
          · repeat (first | exact trivial | refine ⟨isV_stays _, ?_⟩)
          · refine ⟨?_, ?_, ?_, ?_, ?_, ?_, ?_, ?_, ?_, ?_, ?_, ?_, ?_, ?_, ?_, ?_, ?_, ?_, ?_, ?_, ?_, ?_, ?_, ?_, ?_, ?_, ?_, ?_, ?_, ?_, ?_, ?_, ?_, ?_, ?_, ?_, ?_, ?_, ?_, ?_, ?_, ?_, ?_, ?_, ?_, ?_, ?_, ?_, ?_, trivial⟩
            all_goals
              intro x wx hR hd
              simp at hd ⊢
            all_goals try simp [hd]
            all_goals try (go_simp; exact next_same _ rfl rfl hR)
            all_goals try (have f0 := (hR.cell (p := ⟨gs, 0, none⟩) q6).trans c6; go_simp; exact next_same _ rfl rfl hR)
            all_goals first
              | (have hv := run_string_of (P := Try.prog) wx 33 9 5 _ At tn T Try.underlying33 Try.underlying5 Try.underlying9 (KS.out.below hR) HK3.out ct; rw [← HTS.out] at hv; go_simp; exact next_same _ rfl rfl hR)
              | (go_simp; go_at_call 40; refine (SA.out wx hR).mono ?_; rintro e' w6 ⟨rfl, q, rfl⟩; exact next_call _ rfl rfl hR hR.size (below_drewN (Below.refl _ _) _))
              | (have hex := HEX.out; go_simp; exact next_same _ rfl rfl hR)
              | (go_simp; split <;> first | (exfalso; omega) | exact next_same _ rfl rfl hR)
              | skip
            all_goals trace_state
          intro x wy hby hx
          simp [AllWords] at hx ⊢
          have hx48 : x 48 = .bool true := by simp [hx]
          clear hx
          rw [hx48]
          have hbz9 := hb3.trans (hby.mono hb3.size)
          go_wp2_with fail
          go_ret
          exact ⟨rfl, hbz9⟩
end Go.Proofs.Ytigfopkdcmlcnaa
