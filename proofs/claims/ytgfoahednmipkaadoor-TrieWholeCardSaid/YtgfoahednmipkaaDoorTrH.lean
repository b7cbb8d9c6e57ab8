/- (*Trie).Longest of any trie. -/
import Derived.Test.YtgfoahednmipkaaDoorTrG
import Derived.Deep.LoopGhost
namespace Go.Proofs.YtgfoahednmipkaaDoor
open Go.RowKit
set_option linter.unusedVariables false
set_option maxRecDepth 20000
def longV : Option (Nat × Int) → Value
  | none => .tuple #[.int .i64 0, .int .i64 0, .bool false]
  | some (n, v) => .tuple #[.int .i64 v, .int .i64 n, .bool true]
def bestV (o : Option (Nat × Int)) : Int := match o with | none => 0 | some (_, v) => v
def bestN (o : Option (Nat × Int)) : Nat := match o with | none => 0 | some (n, _) => n
theorem longV_of (o : Option (Nat × Int)) : longV o = .tuple #[.int .i64 (bestV o), .int .i64 (bestN o : Nat), .bool o.isSome] := by
  cases o with
  | none => rfl
  | some p => rfl
theorem below_drewN {B : Nat} {w w' : World} (h : Below B w w') (n : Nat) : Below B w (w'.drewN n) := ⟨h.os, h.tape, h.output, h.size, h.block⟩
set_option maxHeartbeats 3200000 in
theorem longest_any (a : Nat) (t : Tr) (p : Option Nat) (bs : List Nat) (n : Value) (w : World) (q : List UInt8) (hc : Cs w a [ptrV p, n]) (hm : TrM w t p bs) (hfit : t.Fit) (hq : q.length ≤ 9223372036854775807) :
    Calls Tryd.prog 16 #[.pointer (some ⟨a, 0, none⟩), .string (sb q)] w fun e w' => e = .returned (longV (if mayL q then longR t q none else none)) ∧ Below w.heap.size w w' := by
  have HMAY := Lib.hid (may_any q w hq)
  have hmax : maxLen = 9223372036854775807 := by decide
  cases hmy : mayL q with
  | false =>
    rw [hmy] at HMAY
    simp only [Bool.false_eq_true, if_false]
    clear hmy hc hm hfit hmax
    generalize sb q = QS at *
    go_enter Tryd.func16, Tryd.ntmps16
    go_wp2_with fail
    refine HMAY.out.mono ?_
    rintro e w1 ⟨rfl, hb1⟩
    have HB1 := Lib.hid hb1
    clear hb1
    go_wp2_with fail
    refine bodyPost_ret (v := .tuple #[.int .i64 0, .int .i64 0, .bool false]) (by simp [results, Tryd.results16, go_sem]) rfl ?_
    exact ⟨rfl, HB1.out⟩
  | true =>
    rw [hmy] at HMAY
    simp only [if_true]
    obtain ⟨hl, hbits⟩ := (mayL_iff q).1 hmy
    have HC := Lib.hid hc
    have HM := Lib.hid hm
    have HPRE := Lib.hid (fun (k : List UInt8) (hk : k.length ≤ 128) w => hasPrefix_any q k w (by omega) (by omega))
    have HSIDE := Lib.hid (fun (i : Nat) (hi : i < q.length) w => side_any q i w hbits hi (by omega))
    have HSZ := Lib.hid sb_size
    have hsq := sb_size q
    obtain ⟨R, hR⟩ : ∃ R, longR t q none = R := ⟨_, rfl⟩
    have HR := Lib.hid hR
    rw [hR]
    obtain ⟨QL, hQL⟩ : ∃ QL, q.length = QL := ⟨_, rfl⟩
    have HQL := Lib.hid hQL
    rw [hQL] at hsq
    obtain ⟨QS, hQS⟩ : ∃ QS, sb q = QS := ⟨_, rfl⟩
    rw [hQS] at hsq HPRE HSIDE HMAY ⊢
    have HFIT := Lib.hid hfit
    clear hmy hc hm hl hbits hmax hR hQL hQS hq hfit
    go_enter Tryd.func16, Tryd.ntmps16
    go_wp2_with fail
    refine HMAY.out.mono ?_
    rintro e w1 ⟨rfl, hb1⟩
    have HB1 := Lib.hid hb1
    have HM1 := Lib.hid (HM.out.below hb1)
    have c0 := (HC.out.below hb1).get 0 _
    have cl := (HC.out.below hb1).lt
    clear hb1 HC HM
    go_wp2_with fail
    clear c0 cl
    go_loopg [7, 8, 9, 10] t.nodes (fun k v7 v8 v9 v10 wr => ∃ (t' : Tr) (p' : Option Nat) (bs' : List Nat) (o : Option (Nat × Int)), v7 = .int .i64 (bestV o) ∧ v8 = .int .i64 (bestN o : Nat) ∧ v9 = .bool o.isSome ∧ v10 = ptrV p' ∧ Hid (TrM wr t' p' bs' ∧ t'.Fit ∧ longR t' q o = R ∧ t'.nodes = k ∧ Below w.heap.size w wr))
    case atStart => exact ⟨t, p, bs, none, rfl, rfl, rfl, rfl, Lib.hid ⟨HM1.out, HFIT.out, HR.out, rfl, HB1.out⟩⟩
    case round =>
      obtain ⟨t', p', bs', o, rfl, rfl, rfl, rfl, HT⟩ := hrel
      clear HM1 HR HFIT HB1
      cases t' with
      | nil =>
        obtain ⟨⟨rfl, rfl⟩, -, hr, -, hbw⟩ := HT.out
        have HO : Hid (o = R) := Lib.hid hr
        have HBD := Lib.hid hbw
        clear hr HT hbw
        unfold ptrV
        go_wp2_with fail
        refine bodyPost_ret (v := .tuple #[.int .i64 (bestV o), .int .i64 (bestN o : Nat), .bool o.isSome]) (by simp [results, Tryd.results16, go_sem]) rfl ?_
        exact ⟨by rw [← HO.out, longV_of], by first | exact HBD.out | exact below_drewN HBD.out _⟩
      | node k v h c =>
        obtain ⟨⟨b, ps, bb, rfl, rfl, hc, hk⟩, hfit, hr, hn, hbw⟩ := HT.out
        have HBD := Lib.hid hbw
        clear HT hbw
        obtain ⟨hkl, hkb, hkf⟩ := hfit
        rw [ptrV_some]
        have HCB := Lib.hid hc
        have hpf := HPRE.out k hkl
        have hsk := HSZ.out k
        have cb0 := hc.get 0 _
        have cb1 := hc.get 1 _
        have cb2 := hc.get 2 _
        have cb3 := hc.get 3 _
        have cb4 := hc.get 4 _
        have clb := hc.lt
        simp only [longR] at hr
        by_cases hkq : k <+: q
        · rw [if_pos hkq] at hr
          rw [decide_eq_true hkq] at hpf
          have HPF := Lib.hid hpf
          by_cases hlen : k.length = q.length
          · rw [if_pos hlen] at hr
            obtain ⟨KL, hKL⟩ : ∃ KL, k.length = KL := ⟨_, rfl⟩
            rw [hKL] at hsk hr hlen
            have hlq : KL = QL := by rw [hlen]; exact HQL.out
            have d1 : ((KL : Int) == (QL : Int)) = true := by rw [hlq]; simp
            obtain ⟨KS, hKS⟩ : ∃ KS, sb k = KS := ⟨_, rfl⟩
            rw [hKS] at hsk HPF cb0
            cases h with
            | true =>
              have HO : Hid (some (KL, v) = R) := Lib.hid (by simpa using hr)
              clear hr hn hc hk hkl hkb hkf hpf hkq hlen hKL hKS HPRE HSIDE HSZ hlq
              go_upto_region 8 with (first
                | (go_at_call 22; refine (HPF.out _).mono ?_; rintro e w3 ⟨rfl, rfl⟩))
              go_quiet (fail)
              go_wp2_with fail
              refine bodyPost_ret (v := .tuple #[.int .i64 v, .int .i64 (KL : Nat), .bool true]) (by simp [results, Tryd.results16, go_sem]) rfl ?_
              exact ⟨by rw [← HO.out]; rfl, by first | exact HBD.out | exact below_drewN HBD.out _⟩
            | false =>
              have HO : Hid (o = R) := Lib.hid (by simpa using hr)
              clear hr hn hc hk hkl hkb hkf hpf hkq hlen hKL hKS HPRE HSIDE HSZ hlq
              go_wp2_with (first
                | (go_at_call 22; refine (HPF.out _).mono ?_; rintro e w3 ⟨rfl, rfl⟩))
              refine bodyPost_ret (v := .tuple #[.int .i64 (bestV o), .int .i64 (bestN o : Nat), .bool o.isSome]) (by simp [results, Tryd.results16, go_sem]) rfl ?_
              exact ⟨by rw [← HO.out, longV_of], by first | exact HBD.out | exact below_drewN HBD.out _⟩
          · rw [if_neg hlen] at hr
            have hlt : k.length < q.length := by have := hkq.length_le; omega
            have hsd := HSIDE.out k.length hlt
            obtain ⟨KL, hKL⟩ : ∃ KL, k.length = KL := ⟨_, rfl⟩
            rw [hKL] at hsk hr hlen hsd hlt
            have hlq : KL < QL := by have := HQL.out; omega
            have d1 : ((KL : Int) == (QL : Int)) = false := by simp; omega
            obtain ⟨KS, hKS⟩ : ∃ KS, sb k = KS := ⟨_, rfl⟩
            rw [hKS] at hsk HPF cb0
            obtain ⟨s, hs⟩ : ∃ s, side q KL = s := ⟨_, rfl⟩
            rw [hs] at hr hsd
            have HKID := Lib.hid (show TrM wr (c s) (ps s) (bb s) ∧ (c s).Fit from ⟨hk s, hkf s⟩)
            have HN : Hid ((c s).nodes < gk) := Lib.hid (by rw [← hn]; simp only [Tr.nodes]; cases s <;> omega)
            have HLR := Lib.hid hr
            have HKSS := Lib.hid hKS
            clear hr hn hc hk hkl hkb hkf hpf hkq hlen hKL hKS HPRE HSIDE HSZ hlt hs hlq
            cases s with
            | true =>
              simp only [if_true] at hsd
              have HSD := Lib.hid hsd
              clear hsd
              cases h with
              | true =>
                have HLR2 : Hid (longR (c true) q (some (KL, v)) = R) := Lib.hid (by simpa using HLR.out)
                clear HLR
                go_upto_region 8 with (first
                  | (go_at_call 22; refine (HPF.out _).mono ?_; rintro e w3 ⟨rfl, rfl⟩))
                go_quiet (fail)
                have HC2 := Lib.hid (HCB.out.drewN nq)
                have HK2 := Lib.hid (HKID.out.1.drewN nq)
                have HB2 := Lib.hid (below_drewN HBD.out nq)
                generalize World.drewN wr nq = wr2 at *
                clear cb0 cb1 cb2 cb3 cb4 clb HBD
                have cb0 := HC2.out.get 0 _
                rw [HKSS.out] at cb0
                have cb4 := HC2.out.get 4 _
                have clb := HC2.out.lt
                go_upto_region 6 with fail
                go_quiet ((go_at_call 23; exact Calls.quiet_of_same ((HSD.out _).mono fun e w' ⟨a, b⟩ => ⟨a, b.symm⟩)))
                go_wp2_with fail
                go_roundg (c true).nodes
                case measure => exact HN.out
                case rel => exact ⟨c true, ps true, bb true, some (KL, v), rfl, rfl, rfl, rfl, Lib.hid ⟨HK2.out.drewN _, HKID.out.2, HLR2.out, rfl, below_drewN HB2.out _⟩⟩
              | false =>
                have HLR2 : Hid (longR (c true) q o = R) := Lib.hid (by simpa using HLR.out)
                clear HLR
                go_upto_region 6 with (first
                  | (go_at_call 22; refine (HPF.out _).mono ?_; rintro e w3 ⟨rfl, rfl⟩))
                go_quiet ((go_at_call 23; exact Calls.quiet_of_same ((HSD.out _).mono fun e w' ⟨a, b⟩ => ⟨a, b.symm⟩)))
                go_wp2_with fail
                go_roundg (c true).nodes
                case measure => exact HN.out
                case rel => exact ⟨c true, ps true, bb true, o, rfl, rfl, rfl, rfl, Lib.hid ⟨HKID.out.1.drewN _, HKID.out.2, HLR2.out, rfl, below_drewN HBD.out _⟩⟩
            | false =>
              simp only [Bool.false_eq_true, if_false] at hsd
              have HSD := Lib.hid hsd
              clear hsd
              cases h with
              | true =>
                have HLR2 : Hid (longR (c false) q (some (KL, v)) = R) := Lib.hid (by simpa using HLR.out)
                clear HLR
                go_upto_region 8 with (first
                  | (go_at_call 22; refine (HPF.out _).mono ?_; rintro e w3 ⟨rfl, rfl⟩))
                go_quiet (fail)
                have HC2 := Lib.hid (HCB.out.drewN nq)
                have HK2 := Lib.hid (HKID.out.1.drewN nq)
                have HB2 := Lib.hid (below_drewN HBD.out nq)
                generalize World.drewN wr nq = wr2 at *
                clear cb0 cb1 cb2 cb3 cb4 clb HBD
                have cb0 := HC2.out.get 0 _
                rw [HKSS.out] at cb0
                have cb3 := HC2.out.get 3 _
                have clb := HC2.out.lt
                go_upto_region 6 with fail
                go_quiet ((go_at_call 23; exact Calls.quiet_of_same ((HSD.out _).mono fun e w' ⟨a, b⟩ => ⟨a, b.symm⟩)))
                go_wp2_with fail
                go_roundg (c false).nodes
                case measure => exact HN.out
                case rel => exact ⟨c false, ps false, bb false, some (KL, v), rfl, rfl, rfl, rfl, Lib.hid ⟨HK2.out.drewN _, HKID.out.2, HLR2.out, rfl, below_drewN HB2.out _⟩⟩
              | false =>
                have HLR2 : Hid (longR (c false) q o = R) := Lib.hid (by simpa using HLR.out)
                clear HLR
                go_upto_region 6 with (first
                  | (go_at_call 22; refine (HPF.out _).mono ?_; rintro e w3 ⟨rfl, rfl⟩))
                go_quiet ((go_at_call 23; exact Calls.quiet_of_same ((HSD.out _).mono fun e w' ⟨a, b⟩ => ⟨a, b.symm⟩)))
                go_wp2_with fail
                go_roundg (c false).nodes
                case measure => exact HN.out
                case rel => exact ⟨c false, ps false, bb false, o, rfl, rfl, rfl, rfl, Lib.hid ⟨HKID.out.1.drewN _, HKID.out.2, HLR2.out, rfl, below_drewN HBD.out _⟩⟩
        · rw [if_neg hkq] at hr
          rw [decide_eq_false hkq] at hpf
          have HPF := Lib.hid hpf
          have HO : Hid (o = R) := Lib.hid hr
          clear hr hn hc hk hkl hkb hkf hpf hkq HPRE HSIDE HSZ
          generalize sb k = KS at *
          go_wp2_with (first
            | (go_at_call 22; refine (HPF.out _).mono ?_; rintro e w3 ⟨rfl, rfl⟩))
          refine bodyPost_ret (v := .tuple #[.int .i64 (bestV o), .int .i64 (bestN o : Nat), .bool o.isSome]) (by simp [results, Tryd.results16, go_sem]) rfl ?_
          exact ⟨by rw [← HO.out, longV_of], by first | exact HBD.out | exact below_drewN HBD.out _⟩
end Go.Proofs.YtgfoahednmipkaaDoor
