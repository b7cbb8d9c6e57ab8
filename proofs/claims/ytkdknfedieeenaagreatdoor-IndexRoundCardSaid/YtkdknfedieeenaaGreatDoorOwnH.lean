/- The contract of layer 13: Decode. -/
import Derived.Test.YtkdknfedieeenaaGreatDoorOwnG
namespace Go.Proofs.YtkdknfedieeenaaGreatDoor
open Go.RowKit
set_option linter.unusedVariables false
set_option maxRecDepth 20000

theorem trigV_shape (o : Option Trig) : ∃ tk TN TA tb ok, trigV o = .tuple #[.agg #[.int .i64 tk, .string TN, .string TA, .int .i64 tb], .bool ok] :=
  ⟨(o.getD noTrig).kind, baL (o.getD noTrig).name, baL (o.getD noTrig).addr, (o.getD noTrig).bits, o.isSome, rfl⟩
theorem addrV_shape (o : Option (List UInt8 × Int)) : ∃ TA tb ok, addrV o = .tuple #[.agg #[.string TA, .int .i64 tb], .bool ok] := by
  cases o with
  | none => exact ⟨_, _, _, rfl⟩
  | some p => exact ⟨baL p.1, p.2, true, rfl⟩
theorem labels_le {s : ByteArray} {X : List (List UInt8)} (h : labelsOf s = some X) : X.length ≤ 254 ∧ ∀ x ∈ X, x.length ≤ 63 := by
  obtain ⟨h1, h2⟩ := labels_ok h
  have : ∀ L : List (List UInt8), L.length ≤ (wire L).length := by
    intro L
    induction L with
    | nil => simp [wire]
    | cons x L ih => rw [wire_cons]; simp; omega
  refine ⟨Nat.le_trans (this X) h1.2, fun x hx => ?_⟩
  have := h1.1 x hx
  simp only [okLabel, Bool.and_eq_true, decide_eq_true_eq] at this
  omega
theorem decR_kind {X : List (List UInt8)} (h : X ≠ []) {s : ByteArray} (hs : labelsOf s = some X) : decR s.data.toList = decL X := by
  unfold decR
  rw [show nameLabels s.data.toList = some X from hs]
  cases X with
  | nil => exact absurd rfl h
  | cons => rfl

set_option maxHeartbeats 8000000 in
theorem decode_any (s : ByteArray) (w : World) (hs : s.size ≤ 140737488355328) (hL : LaidT w) :
    Calls Tryz.prog 45 #[.string s] w fun e w' => e = .returned (trigV (decR s.data.toList)) ∧ Below w.heap.size w w' := by
  have hlab := fun w => labels_any s w (by unfold maxLen; omega)
  have hcs := Cs.new w #[.int .i64 0, .string ⟨#[]⟩, .string ⟨#[]⟩, .int .i64 0] 46 [.int .i64 0, .string ⟨#[]⟩, .string ⟨#[]⟩, .int .i64 0]
  have hbel0 : Below w.heap.size w (w.alloc (.cells #[.int .i64 0, .string ⟨#[]⟩, .string ⟨#[]⟩, .int .i64 0] 46)) := (Below.refl _ _).alloc (Nat.le_refl _) _
  have HCS := Lib.hid hcs
  have HB0 := Lib.hid hbel0
  have HL0 := Lib.hid (hL.alloc (.cells #[.int .i64 0, .string ⟨#[]⟩, .string ⟨#[]⟩, .int .i64 0] 46))
  clear hcs hbel0 hL
  by_cases hbad : labelsL s = []
  · have hd : decR s.data.toList = none := by
      unfold decR
      unfold labelsL labelsOf at hbad
      cases hq : nameLabels s.data.toList with
      | none => rfl
      | some X =>
        rw [hq] at hbad
        obtain rfl : X = [] := hbad
        rfl
    rw [hd]
    have hgoal : trigV none = .tuple #[.agg #[.int .i64 0, .string ⟨#[]⟩, .string ⟨#[]⟩, .int .i64 0], .bool false] := rfl
    rw [hgoal]
    rw [hbad] at hlab
    have HLAB := Lib.hid hlab
    clear hlab hbad hd hgoal
    cases hso : (labelsOf s).isSome
    all_goals
      have HSO := Lib.hid hso
      go_enter Tryz.func45, Tryz.ntmps45
      go_wp2_with (go_at_call 78; refine (HLAB.out _).mono ?_; rintro e w1 ⟨v1, rfl, hbuf⟩; refine Hid.out ?_)
      refine Lib.hid ?_
      have hC1 := HCS.out.below hbuf.below
      have k0 := hC1.get 0 (.int .i64 0)
      have k1 := hC1.get 1 (.string ⟨#[]⟩)
      have k2 := hC1.get 2 (.string ⟨#[]⟩)
      have k3 := hC1.get 3 (.int .i64 0)
      have z0 := hC1.froz 0
      have z1 := hC1.froz 1
      have z2 := hC1.froz 2
      have z3 := hC1.froz 3
      have HC1 := Lib.hid hC1
      have HB1 := Lib.hid (HB0.out.trans (hbuf.below.mono HB0.out.size))
      obtain ⟨A1, c1, rfl, hb1, hb2, hb3⟩ := hbuf.slice
      clear hC1 hbuf hb3
      go_wp2_with fail
      refine bodyPost_ret (v := .tuple #[.agg #[.int .i64 0, .string ⟨#[]⟩, .string ⟨#[]⟩, .int .i64 0], .bool false]) ?_ rfl ⟨rfl, below_all4 HB1.out (Nat.le_refl _)⟩
      have hfin := HC1.out.all4 (a' := .int .i64 0) (b' := .string ⟨#[]⟩) (c' := .string ⟨#[]⟩) (d' := .int .i64 0)
      have g0 := hfin.get 0 (.int .i64 0)
      have g1 := hfin.get 1 (.string ⟨#[]⟩)
      have g2 := hfin.get 2 (.string ⟨#[]⟩)
      have g3 := hfin.get 3 (.int .i64 0)
      generalize (((w1.setCell ⟨w.heap.size, 0, none⟩ (.int .i64 0)).setCell ⟨w.heap.size, 1, none⟩ (.string ⟨#[]⟩)).setCell ⟨w.heap.size, 2, none⟩ (.string ⟨#[]⟩)).setCell ⟨w.heap.size, 3, none⟩ (.int .i64 0) = WF at g0 g1 g2 g3 ⊢
      simp [results, Tryz.results45, go_sem, g0, g1, g2, g3]
  · obtain ⟨X, hX⟩ : ∃ X, labelsOf s = some X := by
      cases hq : labelsOf s with
      | none => exact absurd (by unfold labelsL; rw [hq]; rfl) hbad
      | some X => exact ⟨X, rfl⟩
    have hXL : labelsL s = X := by unfold labelsL; rw [hX]; rfl
    rw [hXL] at hbad hlab
    obtain ⟨hle1, hle2⟩ := labels_le hX
    rw [decR_kind hbad hX]
    rw [show (labelsOf s).isSome = true by rw [hX]; rfl] at hlab
    have hpos : 0 < X.length := List.length_pos_iff.2 hbad
    have hsplit := last_split [] hbad
    obtain ⟨n, hn⟩ : ∃ n, n = X.length := ⟨_, rfl⟩
    rw [← hn] at hlab hle1 hpos
    obtain ⟨D, hD⟩ : ∃ D, D = X.dropLast := ⟨_, rfl⟩
    obtain ⟨y, hy⟩ : ∃ y, y = X.getLastD [] := ⟨_, rfl⟩
    have hDl : D.length = n - 1 := by rw [hD, List.length_dropLast, ← hn]
    have hdec : decL X = match kindOf y with
      | none => namedR X 1 2
      | some k => if k = 4 then namedR D 4 5 else (addrR D).map fun p => ⟨k, [], p.1, p.2⟩ := by unfold decL; rw [← hy, ← hD]; cases kindOf y <;> rfl
    rw [← hD, ← hy] at hsplit
    have hlast : X[n - 1]? = some y := by
      have h := congrArg (fun L => L[n - 1]?) hsplit
      rw [h, List.getElem?_append_right (by omega), hDl, Nat.sub_self]
      rfl
    have hDle : ∀ x ∈ D, x.length ≤ 63 := fun x hx => hle2 x (by rw [hsplit]; simp [hx])
    obtain ⟨hk1, hk2⟩ := kindL_get y
    have HLAB := Lib.hid hlab
    have HLAST := Lib.hid hlast
    have HSP := Lib.hid hsplit
    have HDL := Lib.hid hDl
    have HXL := Lib.hid hn
    have HLE2 := Lib.hid hle2
    have HDLE := Lib.hid hDle
    have HDEC := Lib.hid hdec
    have HK1 := Lib.hid hk1
    have HK2 := Lib.hid hk2
    obtain ⟨RES, hRES⟩ : ∃ RES, RES = trigV (decL X) := ⟨_, rfl⟩
    rw [← hRES]
    have HRES := Lib.hid hRES
    have m1 : (0 : Int) ≤ (n : Int) - 1 := by omega
    have m2 : ((n : Int) - 1).toNat = n - 1 := by omega
    have m3 : (n : Int) - 1 < n := by omega
    have m4 : (n : Int) - 1 ≤ n := by omega
    have m5 : IntKind.i64.wrap ((n : Int) - 1) = (n : Int) - 1 := IntWalk.i64_in _ (by omega)
    clear hlab hlast hsplit hDl hn hle2 hDle hdec hk1 hk2 hRES hX hXL hbad hD hy
    go_enter Tryz.func45, Tryz.ntmps45
    go_wp2_with (go_at_call 78; refine (HLAB.out _).mono ?_; rintro e w1 ⟨v1, rfl, hbuf⟩; refine Hid.out ?_)
    refine Lib.hid ?_
    have HC1 := Lib.hid (HCS.out.below hbuf.below)
    have HB1 := Lib.hid (HB0.out.trans (hbuf.below.mono HB0.out.size))
    have HL1 := Lib.hid (HL0.out.below hbuf.below (Nat.le_refl _))
    obtain ⟨A1, c1, rfl, hb1, hb2, hb3⟩ := hbuf.slice
    have hsl := hbuf.sl
    obtain ⟨b, off, rfl, hbw, hcell⟩ := hsl.2 hpos
    have hlc := hcell (n - 1) (sv y) (by rw [List.getElem?_map, HLAST.out]; rfl)
    obtain ⟨YB, hYB⟩ : ∃ YB, YB = baL y := ⟨_, rfl⟩
    rw [show sv y = .string YB by rw [hYB]; rfl] at hlc
    have hsa : Sl w1 w1.heap.size 1 (some ⟨b, off, none⟩) (n - 1) (D.map sv) := by
      refine ⟨by simp [HDL.out], fun _ => ⟨b, off, rfl, hbw, fun j u hu => hcell j u ?_⟩⟩
      rw [HSP.out, List.map_append, List.getElem?_append_left (List.getElem?_eq_some_iff.1 hu).1]
      exact hu
    have HSA := Lib.hid hsa
    have HSL := Lib.hid hsl
    have HYB := Lib.hid hYB
    clear hbuf hb3 hsl hcell hsa hYB HCS HB0 HL0
    go_upto_region 4 with fail
    go_quiet (fail)
    have HC2 := Lib.hid (HC1.out.drewN nq)
    have HB2 := Lib.hid (HB1.out.trans ((drewN_below w1 nq).mono HB1.out.size))
    have HL2 := Lib.hid (HL1.out.below (drewN_below w1 nq) (Nat.le_refl _))
    have HSA2 := Lib.hid (HSA.out.drewN nq)
    have HSL2 := Lib.hid (HSL.out.drewN nq)
    have hw12 : w1.heap.size ≤ (w1.drewN nq).heap.size := Nat.le_refl _
    have HSA3 : Hid (Sl (w1.drewN nq) (w1.drewN nq).heap.size 1 (some ⟨b, off, none⟩) (n - 1) (D.map sv)) := HSA2
    have HSL3 : Hid (Sl (w1.drewN nq) (w1.drewN nq).heap.size 1 (some ⟨b, off, none⟩) n (X.map sv)) := HSL2
    generalize w1.drewN nq = w2 at *
    clear HC1 HB1 HL1 HSA HSL HSA2 HSL2
    have HKI := Lib.hid (fun w => kinds_any w)
    go_wp2_with (go_at_call 79; refine (HKI.out _).mono ?_; rintro e w3 ⟨bm, rfl, hsm, hb3⟩; refine Hid.out ?_)
    refine Lib.hid ?_
    have hlk := hsm.lookup (P := Tryz.prog) Tryz.underlying157 Tryz.underlying9 (z := .int .i64 0) (by rfl) YB
    rw [HYB.out, HK1.out, HK2.out, ← HYB.out] at hlk
    have HC3 := Lib.hid (HC2.out.below hb3)
    have HB3 := Lib.hid (HB2.out.trans (hb3.mono HB2.out.size))
    have HL3 := Lib.hid (HL2.out.below hb3 (Nat.le_refl _))
    have HSA4 := Lib.hid ((HSA3.out.below hb3).more hb3.size)
    have HSL4 := Lib.hid ((HSL3.out.below hb3).more hb3.size)
    clear hb3 hsm HC2 HB2 HL2 HSA3 HSL3
    have hx63 : ∀ x ∈ X, x.length ≤ maxLen := fun x hx => by have := HLE2.out x hx; unfold maxLen; omega
    have hd63 : ∀ x ∈ D, x.length ≤ maxLen := fun x hx => by have := HDLE.out x hx; unfold maxLen; omega
    have hn63 : n ≤ maxLen := by unfold maxLen; omega
    cases hko : kindOf y with
    | none =>
      rw [hko] at hlk
      have hdx : decL X = namedR X 1 2 := by rw [HDEC.out, hko]
      obtain ⟨tk, TN, TA, tb, ok, hsh⟩ := trigV_shape (namedR X 1 2)
      have hnm := named_any (some ⟨b, off, none⟩) n c1 X 1 2 w3 HSL4.out hb1 hx63 hn63
      rw [hsh] at hnm
      have HRE := Lib.hid (HRES.out.trans (by rw [hdx, hsh]))
      have HNM := Lib.hid hnm
      simp only [Option.getD_none, Option.isSome_none] at hlk
      clear hnm hsh hdx hko HDEC HK1 HK2 HKI HSA4 HSL4 HL3 HLAB HLAST HSP
      go_wp2_with (go_at_call 80; refine HNM.out.mono ?_; rintro e w4 ⟨rfl, hb4⟩; refine Hid.out ?_)
      refine Lib.hid ?_
      have hC4 := HC3.out.below hb4
      have k0 := hC4.get 0 (.int .i64 0)
      have k1 := hC4.get 1 (.string ⟨#[]⟩)
      have k2 := hC4.get 2 (.string ⟨#[]⟩)
      have k3 := hC4.get 3 (.int .i64 0)
      have z0 := hC4.froz 0
      have z1 := hC4.froz 1
      have z2 := hC4.froz 2
      have z3 := hC4.froz 3
      have HC4 := Lib.hid hC4
      have HB4 := Lib.hid (HB3.out.trans (hb4.mono HB3.out.size))
      clear hC4 hb4 HC3 HB3
      go_wp2_with fail
      rw [HRE.out]
      refine bodyPost_ret (v := .tuple #[.agg #[.int .i64 tk, .string TN, .string TA, .int .i64 tb], .bool ok]) ?_ rfl ⟨rfl, below_all4 HB4.out (Nat.le_refl _)⟩
      have hfin := HC4.out.all4 (a' := .int .i64 tk) (b' := .string TN) (c' := .string TA) (d' := .int .i64 tb)
      have g0 := hfin.get 0 (.int .i64 tk)
      have g1 := hfin.get 1 (.string TN)
      have g2 := hfin.get 2 (.string TA)
      have g3 := hfin.get 3 (.int .i64 tb)
      generalize (((w4.setCell ⟨w.heap.size, 0, none⟩ (.int .i64 tk)).setCell ⟨w.heap.size, 1, none⟩ (.string TN)).setCell ⟨w.heap.size, 2, none⟩ (.string TA)).setCell ⟨w.heap.size, 3, none⟩ (.int .i64 tb) = WF at g0 g1 g2 g3 ⊢
      simp [results, Tryz.results45, go_sem, g0, g1, g2, g3]
    | some k =>
      rw [hko] at hlk
      simp only [Option.getD_some, Option.isSome_some] at hlk
      by_cases hk4 : k = 4
      · subst hk4
        have hdx : decL X = namedR D 4 5 := by rw [HDEC.out, hko]; rfl
        obtain ⟨tk, TN, TA, tb, ok, hsh⟩ := trigV_shape (namedR D 4 5)
        have hnm := named_any (some ⟨b, off, none⟩) (n - 1) c1 D 4 5 w3 HSA4.out (by omega) hd63 (by omega)
        rw [hsh] at hnm
        have HRE := Lib.hid (HRES.out.trans (by rw [hdx, hsh]))
        have HNM := Lib.hid hnm
        clear hnm hsh hdx hko HDEC HK1 HK2 HKI HSA4 HSL4 HL3 HLAB HLAST HSP
        go_wp2_with (go_at_call 80; refine HNM.out.mono ?_; rintro e w4 ⟨rfl, hb4⟩; refine Hid.out ?_)
        refine Lib.hid ?_
        have hC4 := HC3.out.below hb4
        have k0 := hC4.get 0 (.int .i64 0)
        have k1 := hC4.get 1 (.string ⟨#[]⟩)
        have k2 := hC4.get 2 (.string ⟨#[]⟩)
        have k3 := hC4.get 3 (.int .i64 0)
        have z0 := hC4.froz 0
        have z1 := hC4.froz 1
        have z2 := hC4.froz 2
        have z3 := hC4.froz 3
        have HC4 := Lib.hid hC4
        have HB4 := Lib.hid (HB3.out.trans (hb4.mono HB3.out.size))
        clear hC4 hb4 HC3 HB3
        go_wp2_with fail
        rw [HRE.out]
        refine bodyPost_ret (v := .tuple #[.agg #[.int .i64 tk, .string TN, .string TA, .int .i64 tb], .bool ok]) ?_ rfl ⟨rfl, below_all4 HB4.out (Nat.le_refl _)⟩
        have hfin := HC4.out.all4 (a' := .int .i64 tk) (b' := .string TN) (c' := .string TA) (d' := .int .i64 tb)
        have g0 := hfin.get 0 (.int .i64 tk)
        have g1 := hfin.get 1 (.string TN)
        have g2 := hfin.get 2 (.string TA)
        have g3 := hfin.get 3 (.int .i64 tb)
        generalize (((w4.setCell ⟨w.heap.size, 0, none⟩ (.int .i64 tk)).setCell ⟨w.heap.size, 1, none⟩ (.string TN)).setCell ⟨w.heap.size, 2, none⟩ (.string TA)).setCell ⟨w.heap.size, 3, none⟩ (.int .i64 tb) = WF at g0 g1 g2 g3 ⊢
        simp [results, Tryz.results45, go_sem, g0, g1, g2, g3]
      · have e4 : ((k : Int) == 4) = false := by rw [beq_eq_false_iff_ne]; exact hk4
        have hdx : decL X = (addrR D).map fun p => ⟨k, [], p.1, p.2⟩ := by rw [HDEC.out, hko]; simp only [if_neg hk4]
        have had := address13_any (some ⟨b, off, none⟩) (n - 1) c1 (D.map baL) w3 (by rw [baL_strings]; exact HSA4.out) (by omega) (by
          intro t ht
          obtain ⟨x, hx, rfl⟩ := List.mem_map.1 ht
          have := HDLE.out x hx
          rw [show (baL x).size = x.length by simp [baL, ByteArray.size]]; omega) (by omega) HL3.out
        rw [bytesOf_baL] at had
        cases hao : addrR D with
        | none =>
          rw [hao] at had hdx
          have had : Calls Tryz.prog 81 #[.slice (some ⟨b, off, none⟩) (n - 1) c1] w3 fun e w' => e = .returned (.tuple #[.agg #[.string ⟨#[]⟩, .int .i64 0], .bool false]) ∧ Below w3.heap.size w3 w' := had
          have HRE : Hid (RES = .tuple #[.agg #[.int .i64 0, .string ⟨#[]⟩, .string ⟨#[]⟩, .int .i64 0], .bool false]) := Lib.hid (HRES.out.trans (by rw [hdx]; rfl))
          have HAD := Lib.hid had
          clear had hdx hao hko hk4 HDEC HK1 HK2 HKI HSA4 HSL4 HL3 HLAB HLAST HSP
          go_wp2_with (go_at_call 81; refine HAD.out.mono ?_; rintro e w4 ⟨rfl, hb4⟩; refine Hid.out ?_)
          refine Lib.hid ?_
          have hC4 := (HC3.out.below hb4).alloc (.cells #[.string ⟨#[]⟩, .int .i64 0] 44)
          have k0 := hC4.get 0 (.int .i64 0)
          have k1 := hC4.get 1 (.string ⟨#[]⟩)
          have k2 := hC4.get 2 (.string ⟨#[]⟩)
          have k3 := hC4.get 3 (.int .i64 0)
          have z0 := hC4.froz 0
          have z1 := hC4.froz 1
          have z2 := hC4.froz 2
          have z3 := hC4.froz 3
          have HC4 := Lib.hid hC4
          have hB4 := HB3.out.trans (hb4.mono HB3.out.size)
          have HB4 := Lib.hid (hB4.alloc hB4.size (.cells #[.string ⟨#[]⟩, .int .i64 0] 44))
          clear hC4 hb4 HC3 HB3 hB4
          go_wp2_with fail
          rw [HRE.out]
          refine bodyPost_ret (v := .tuple #[.agg #[.int .i64 0, .string ⟨#[]⟩, .string ⟨#[]⟩, .int .i64 0], .bool false]) ?_ rfl ⟨rfl, below_all4 HB4.out (Nat.le_refl _)⟩
          have hfin := HC4.out.all4 (a' := .int .i64 0) (b' := .string ⟨#[]⟩) (c' := .string ⟨#[]⟩) (d' := .int .i64 0)
          have g0 := hfin.get 0 (.int .i64 0)
          have g1 := hfin.get 1 (.string ⟨#[]⟩)
          have g2 := hfin.get 2 (.string ⟨#[]⟩)
          have g3 := hfin.get 3 (.int .i64 0)
          generalize ((((w4.alloc (.cells #[.string ⟨#[]⟩, .int .i64 0] 44)).setCell ⟨w.heap.size, 0, none⟩ (.int .i64 0)).setCell ⟨w.heap.size, 1, none⟩ (.string ⟨#[]⟩)).setCell ⟨w.heap.size, 2, none⟩ (.string ⟨#[]⟩)).setCell ⟨w.heap.size, 3, none⟩ (.int .i64 0) = WF at g0 g1 g2 g3 ⊢
          simp [results, Tryz.results45, go_sem, g0, g1, g2, g3]
        | some p =>
          obtain ⟨pa, pb⟩ := p
          rw [hao] at had hdx
          obtain ⟨TA, hTA⟩ : ∃ TA, TA = baL pa := ⟨_, rfl⟩
          have had : Calls Tryz.prog 81 #[.slice (some ⟨b, off, none⟩) (n - 1) c1] w3 fun e w' => e = .returned (.tuple #[.agg #[.string TA, .int .i64 pb], .bool true]) ∧ Below w3.heap.size w3 w' := by rw [hTA]; exact had
          have HRE : Hid (RES = .tuple #[.agg #[.int .i64 k, .string ⟨#[]⟩, .string TA, .int .i64 pb], .bool true]) := Lib.hid (HRES.out.trans (by rw [hdx, hTA]; rfl))
          have HAD := Lib.hid had
          clear had hdx hao hko hk4 hTA HDEC HK1 HK2 HKI HSA4 HSL4 HL3 HLAB HLAST HSP
          go_wp2_with (go_at_call 81; refine HAD.out.mono ?_; rintro e w4 ⟨rfl, hb4⟩; refine Hid.out ?_)
          refine Lib.hid ?_
          have hC4 := (HC3.out.below hb4).alloc (.cells #[.string TA, .int .i64 pb] 44)
          have hne : w4.heap.size ≠ w.heap.size := by have := HC3.out.lt; have := hb4.size; omega
          have k0 := hC4.get 0 (.int .i64 0)
          have k1 := hC4.get 1 (.string ⟨#[]⟩)
          have k2 := hC4.get 2 (.string ⟨#[]⟩)
          have k3 := hC4.get 3 (.int .i64 0)
          have z0 := hC4.froz 0
          have z1 := hC4.froz 1
          have z2 := hC4.froz 2
          have z3 := hC4.froz 3
          have HC4 := Lib.hid hC4
          have hB4 := HB3.out.trans (hb4.mono HB3.out.size)
          have HB4 := Lib.hid (hB4.alloc hB4.size (.cells #[.string TA, .int .i64 pb] 44))
          clear hC4 hb4 HC3 HB3 hB4
          go_wp2_with fail
          rw [HRE.out]
          refine bodyPost_ret (v := .tuple #[.agg #[.int .i64 k, .string ⟨#[]⟩, .string TA, .int .i64 pb], .bool true]) ?_ rfl ⟨rfl, below_all4 HB4.out (Nat.le_refl _)⟩
          have hfin := HC4.out.all4 (a' := .int .i64 k) (b' := .string ⟨#[]⟩) (c' := .string TA) (d' := .int .i64 pb)
          have g0 := hfin.get 0 (.int .i64 k)
          have g1 := hfin.get 1 (.string ⟨#[]⟩)
          have g2 := hfin.get 2 (.string TA)
          have g3 := hfin.get 3 (.int .i64 pb)
          generalize ((((w4.alloc (.cells #[.string TA, .int .i64 pb] 44)).setCell ⟨w.heap.size, 0, none⟩ (.int .i64 k)).setCell ⟨w.heap.size, 1, none⟩ (.string ⟨#[]⟩)).setCell ⟨w.heap.size, 2, none⟩ (.string TA)).setCell ⟨w.heap.size, 3, none⟩ (.int .i64 pb) = WF at g0 g1 g2 g3 ⊢
          simp [results, Tryz.results45, go_sem, g0, g1, g2, g3]
end Go.Proofs.YtkdknfedieeenaaGreatDoor
