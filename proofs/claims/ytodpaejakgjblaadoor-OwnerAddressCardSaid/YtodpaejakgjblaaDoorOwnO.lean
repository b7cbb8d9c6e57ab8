/- The contract of the statements' Trigger: by numbers, one that may be. -/
import Derived.Test.YtodpaejakgjblaaDoorOwnK
import Derived.Test.YtodpaejakgjblaaDoorOwnN
import Derived.Test.YtodpaejakgjblaaDoorLawPfx
import Derived.WalkArith
namespace Go.Proofs.YtodpaejakgjblaaDoor
open Go.RowKit
set_option linter.unusedVariables false
set_option maxRecDepth 20000

theorem five_cell (w : World) (z : Int) (hz : 0 ≤ z) (T : TypeId) :
    ∃ l ∈ five, (w.alloc (.cells #[.string ⟨#[97]⟩, .string ⟨#[98]⟩, .string ⟨#[119, 119, 119]⟩, .string ⟨#[101, 120]⟩, .string ⟨#[111, 114, 103]⟩] T)).cell? ⟨w.heap.size, (z % 5).toNat, none⟩ = some (.string (baL l)) := by
  obtain ⟨k, hk, hk5⟩ : ∃ k : Nat, (z % 5).toNat = k ∧ k < 5 := ⟨_, rfl, by omega⟩
  rw [hk]
  have hl : k < five.length := hk5
  refine ⟨five[k], List.getElem_mem hl, ?_⟩
  have h := news_at w #[.string ⟨#[97]⟩, .string ⟨#[98]⟩, .string ⟨#[119, 119, 119]⟩, .string ⟨#[101, 120]⟩, .string ⟨#[111, 114, 103]⟩] T k (.string (baL five[k]))
  rw [Addr.add_lit, Nat.zero_add] at h
  apply h
  match k, hk5 with
  | 0, _ => rfl
  | 1, _ => rfl
  | 2, _ => rfl
  | 3, _ => rfl
  | 4, _ => rfl
/-- What a trigger of the statements is. -/
structure TrigOk (kd : Int) (t : Trig) : Prop where
  kind : t.kind = kd % 7
  good : GoodT t
  pfx : (kd % 7 = 0 ∨ kd % 7 = 3 ∨ kd % 7 = 6) → mayP t.addr t.bits = true ∧ t.name = []
  nam : ¬ (kd % 7 = 0 ∨ kd % 7 = 3 ∨ kd % 7 = 6) → t.addr = [] ∧ t.bits = 0 ∧ ∃ X, FewX X ∧ nameLabels t.name = some X
  small : t.name.length ≤ 254 ∧ t.addr.length ≤ 16
theorem addrN_ok (six : Bool) : isAddr (addrN six) = true := by cases six <;> rfl
theorem trigPfx_ok {kd : Int} (hk : kd % 7 = 0 ∨ kd % 7 = 3 ∨ kd % 7 = 6) {l : List UInt8} {m : Nat} (hl : isAddr l.length = true) (hm : m ≤ 8 * l.length) : TrigOk kd ⟨kd % 7, [], cutL l m, m⟩ := by
  have hmay : mayP (cutL l m) m = true := by
    unfold mayP isCut
    rw [cutL_length, Int.toNat_natCast, cutL_cutL l m hm, hl]
    simp; omega
  refine ⟨rfl, good_pfx hmay hk, fun _ => ⟨hmay, rfl⟩, fun h => absurd hk h, by simp, ?_⟩
  have := isAddr_le hl
  rw [cutL_length]; exact this
theorem trigNam_ok {kd : Int} (h0 : 0 ≤ kd) (hk : ¬ (kd % 7 = 0 ∨ kd % 7 = 3 ∨ kd % 7 = 6)) {X : List (List UInt8)} (hX : FewX X) (hne : kd % 7 = 1 ∨ kd % 7 = 4 → X ≠ []) : TrigOk kd ⟨kd % 7, (makeL X).getD [], [], 0⟩ := by
  refine ⟨rfl, good_name hX (by omega) hne, fun h => absurd h hk, fun _ => ⟨rfl, rfl, X, hX, hX.name⟩, ?_, by simp⟩
  rw [hX.ok.make]
  exact hX.ok.2

set_option maxHeartbeats 16000000 in
theorem trigger13_any (kd : Int) (hkd : 0 ≤ kd ∧ kd ≤ 255) (A : Option Addr) (n c : Nat) (zs : List Int) (six : Bool) (bits : Int) (hb : 0 ≤ bits ∧ bits ≤ 255) (w : World)
    (hA : Sl w w.heap.size 1 A n (zs.map (Value.int .u8))) (hz : ∀ z ∈ zs, 0 ≤ z ∧ z < 256) (hn : n ≤ 140737488355328) :
    Calls Tryd.prog 15 #[.int .u8 kd, .slice A n c, .bool six, .int .u8 bits] w fun e w' => ∃ t : Trig, e = .returned (trigA t) ∧ TrigOk kd t ∧ Below w.heap.size w w' := by
  obtain ⟨i0, hi, hz0, hz1, hz2⟩ := info_parts str_info
  obtain ⟨tk, htk⟩ : ∃ tk, tk = kd % 7 := ⟨_, rfl⟩
  have ht7 : 0 ≤ tk ∧ tk < 7 := by omega
  have hmod : kd.tmod 7 = tk := by rw [Int.tmod_eq_emod_of_nonneg hkd.1, htk]
  have hw8 : IntKind.u8.wrap tk = tk := by rw [IntKind.wrap_u8]; omega
  obtain ⟨W0, hW0⟩ : ∃ W0, W0 = (w.alloc (.cells #[.int .i64 0, .string ⟨#[]⟩, .string ⟨#[]⟩, .int .i64 0] 29)).alloc (.cells #[.int .i64 tk, .string ⟨#[]⟩, .string ⟨#[]⟩, .int .i64 0] 29) := ⟨_, rfl⟩
  have hc1 : Cs W0 w.heap.size [.int .i64 0, .string ⟨#[]⟩, .string ⟨#[]⟩, .int .i64 0] := by rw [hW0]; exact (Cs.new w _ _ _).alloc _
  have hc2 : Cs W0 (w.heap.size + 1) [.int .i64 tk, .string ⟨#[]⟩, .string ⟨#[]⟩, .int .i64 0] := by
    rw [hW0]
    exact (Cs.new (w.alloc (.cells #[.int .i64 0, .string ⟨#[]⟩, .string ⟨#[]⟩, .int .i64 0] 29)) _ _ _).at_ _ (by simp)
  have hb0 : Below w.heap.size w W0 := by
    rw [hW0]
    have h1 := (Below.refl w.heap.size w).alloc (Nat.le_refl _) (.cells #[.int .i64 0, .string ⟨#[]⟩, .string ⟨#[]⟩, .int .i64 0] 29)
    exact h1.alloc h1.size _
  have hs0 : W0.heap.size = w.heap.size + 2 := by rw [hW0]; simp
  have hA0 := (hA.below hb0).more hb0.size
  by_cases hp : tk = 0 ∨ tk = 3 ∨ tk = 6
  · have hbytes : ∃ l : List UInt8, zs.map (Value.int .u8) = l.map bv := bytes_of zs (fun z h => WalkArith.wf_u8 (by have := hz z h; omega))
    obtain ⟨l, hl⟩ := hbytes
    rw [hl] at hA0
    have had := addr_any six A n c l W0 hA0 hn
    obtain ⟨M, hM⟩ : ∃ M : Nat, M = 8 * addrN six + 1 := ⟨_, rfl⟩
    obtain ⟨m, hm⟩ : ∃ m : Nat, (m : Int) = bits % M := ⟨(bits % M).toNat, by have : (0 : Int) < M := by omega
                                                                              have := Int.emod_nonneg bits (show (M : Int) ≠ 0 by omega); omega⟩
    have hmM : m < M := by have := Int.emod_lt_of_pos bits (show (0 : Int) < M by omega); omega
    have hmt : bits.tmod (M : Int) = m := by rw [Int.tmod_eq_emod_of_nonneg hb.1, hm]
    have hMl : M = 33 ∨ M = 129 := by rw [hM]; cases six <;> simp [addrN]
    have hMM : (8 : Int) * (addrN six : Int) + 1 = M := by omega
    have hmw : IntKind.i64.wrap (m : Int) = m := IntWalk.i64_in _ (by omega)
    have hm0 : ¬ (M : Int) = 0 := by omega
    have hsl : addrN six = 4 ∨ addrN six = 16 := by cases six <;> simp [addrN]
    have hTO := fun (s : ByteArray) (h : s.size = addrN six) => trigPfx_ok (kd := kd) (by rw [← htk]; exact hp) (l := s.data.toList) (m := m) (by rw [show s.data.toList.length = s.size by simp, h]; exact addrN_ok six) (by rw [show s.data.toList.length = s.size by simp, h]; omega)
    rw [← htk] at hTO
    have HMB := Lib.hid (show m ≤ 8 * addrN six by omega)
    have HAD := Lib.hid had
    have HTO := Lib.hid hTO
    have HC1 := Lib.hid hc1
    have HC2 := Lib.hid hc2
    have HB0 := Lib.hid hb0
    have HS0 := Lib.hid hs0
    have HW0 := Lib.hid hW0
    obtain ⟨Z, hZ⟩ : ∃ Z, Z = addrN six := ⟨_, rfl⟩
    rw [← hZ] at hMM hsl
    have HZ := Lib.hid hZ
    clear had hTO hc1 hc2 hb0 hs0 hW0 hZ hA0 hl hA hz hM hm htk hmM
    rcases hp with rfl | rfl | rfl
    · go_enter Tryd.func15, Tryd.ntmps15
      go_wp2_with (go_at_call 36; rw [← HW0.out]; refine HAD.out.mono ?_; rintro e w1 ⟨s, hs, rfl, hb1⟩; refine Hid.out ?_)
      refine Lib.hid ?_
      have HTS := Lib.hid (HTO.out s hs)
      have hcut := fun w h => pcut_yes s.data.toList m w (by rw [show s.data.toList.length = s.size by simp, hs]; exact addrN_ok six) h
      rw [ba_eta] at hcut
      have hcut := fun w => hcut w (by rw [show s.data.toList.length = s.size by simp, hs]; exact HMB.out)
      obtain ⟨CB, hCB⟩ : ∃ CB, CB = baL (cutL s.data.toList m) := ⟨_, rfl⟩
      rw [show (⟨(cutL s.data.toList m).toArray⟩ : ByteArray) = CB by rw [hCB]; rfl] at hcut
      have hsZ : s.size = Z := by rw [hs, HZ.out]
      have HCUT := Lib.hid hcut
      have HCB := Lib.hid hCB
      have HC11 := Lib.hid (HC1.out.below hb1)
      have HC21 := Lib.hid (HC2.out.below hb1)
      have HB1 := Lib.hid (HB0.out.trans (hb1.mono HB0.out.size))
      clear hcut hCB hs hb1
      go_wp2_with (go_at_call 37; refine (HCUT.out _).mono ?_; rintro e w2 ⟨rfl, hb2⟩; refine Hid.out ?_)
      refine Lib.hid ?_
      have hC1 := HC11.out.below hb2
      have hC2 := HC21.out.below hb2
      have HB2 := Lib.hid (HB1.out.trans (hb2.mono HB1.out.size))
      have k0 := hC1.get 0 (.int .i64 0)
      have k1 := hC1.get 1 (.string ⟨#[]⟩)
      have k2 := hC1.get 2 (.string ⟨#[]⟩)
      have k3 := hC1.get 3 (.int .i64 0)
      have kz0 := hC1.froz 0
      have kz1 := hC1.froz 1
      have kz2 := hC1.froz 2
      have kz3 := hC1.froz 3
      have l0 := hC2.get 0 (.int .i64 0)
      have l1 := hC2.get 1 (.string ⟨#[]⟩)
      have l2 := hC2.get 2 (.string ⟨#[]⟩)
      have l3 := hC2.get 3 (.int .i64 0)
      have lz0 := hC2.froz 0
      have lz1 := hC2.froz 1
      have lz2 := hC2.froz 2
      have lz3 := hC2.froz 3
      have HC1' := Lib.hid hC1
      clear hC1 hC2 hb2 HC11 HC21 HCUT HB1
      have hne : w.heap.size + 1 ≠ w.heap.size := by omega
      go_wp2_with fail
      refine bodyPost_ret (v := .agg #[.int .i64 0, .string ⟨#[]⟩, .string CB, .int .i64 m]) ?_ rfl ⟨_, ?_, HTS.out, ?_⟩
      · have hfin := Cs.all4 (((HC1'.out.other _ 2 (.string CB) hne).other _ 3 (.int .i64 m) hne)) (a' := .int .i64 0) (b' := .string ⟨#[]⟩) (c' := .string CB) (d' := .int .i64 m)
        have g0 := hfin.get 0 (.int .i64 0)
        have g1 := hfin.get 1 (.string ⟨#[]⟩)
        have g2 := hfin.get 2 (.string CB)
        have g3 := hfin.get 3 (.int .i64 m)
        generalize ((((((w2.setCell ⟨w.heap.size + 1, 2, none⟩ (.string CB)).setCell ⟨w.heap.size + 1, 3, none⟩ (.int .i64 m)).setCell ⟨w.heap.size, 0, none⟩ (.int .i64 0)).setCell ⟨w.heap.size, 1, none⟩ (.string ⟨#[]⟩)).setCell ⟨w.heap.size, 2, none⟩ (.string CB)).setCell ⟨w.heap.size, 3, none⟩ (.int .i64 m)) = WF at g0 g1 g2 g3 ⊢
        simp [results, Tryd.results15, go_sem, g0, g1, g2, g3]
      · rw [HCB.out]; rfl
      · exact below_all4 ((HB2.out.setCell (p := ⟨w.heap.size + 1, 2, none⟩) (by simp) (.string CB)).setCell (p := ⟨w.heap.size + 1, 3, none⟩) (by simp) (.int .i64 m)) (Nat.le_refl _)
    · go_enter Tryd.func15, Tryd.ntmps15
      go_wp2_with (go_at_call 36; rw [← HW0.out]; refine HAD.out.mono ?_; rintro e w1 ⟨s, hs, rfl, hb1⟩; refine Hid.out ?_)
      refine Lib.hid ?_
      have HTS := Lib.hid (HTO.out s hs)
      have hcut := fun w h => pcut_yes s.data.toList m w (by rw [show s.data.toList.length = s.size by simp, hs]; exact addrN_ok six) h
      rw [ba_eta] at hcut
      have hcut := fun w => hcut w (by rw [show s.data.toList.length = s.size by simp, hs]; exact HMB.out)
      obtain ⟨CB, hCB⟩ : ∃ CB, CB = baL (cutL s.data.toList m) := ⟨_, rfl⟩
      rw [show (⟨(cutL s.data.toList m).toArray⟩ : ByteArray) = CB by rw [hCB]; rfl] at hcut
      have hsZ : s.size = Z := by rw [hs, HZ.out]
      have HCUT := Lib.hid hcut
      have HCB := Lib.hid hCB
      have HC11 := Lib.hid (HC1.out.below hb1)
      have HC21 := Lib.hid (HC2.out.below hb1)
      have HB1 := Lib.hid (HB0.out.trans (hb1.mono HB0.out.size))
      clear hcut hCB hs hb1
      go_wp2_with (go_at_call 37; refine (HCUT.out _).mono ?_; rintro e w2 ⟨rfl, hb2⟩; refine Hid.out ?_)
      refine Lib.hid ?_
      have hC1 := HC11.out.below hb2
      have hC2 := HC21.out.below hb2
      have HB2 := Lib.hid (HB1.out.trans (hb2.mono HB1.out.size))
      have k0 := hC1.get 0 (.int .i64 0)
      have k1 := hC1.get 1 (.string ⟨#[]⟩)
      have k2 := hC1.get 2 (.string ⟨#[]⟩)
      have k3 := hC1.get 3 (.int .i64 0)
      have kz0 := hC1.froz 0
      have kz1 := hC1.froz 1
      have kz2 := hC1.froz 2
      have kz3 := hC1.froz 3
      have l0 := hC2.get 0 (.int .i64 3)
      have l1 := hC2.get 1 (.string ⟨#[]⟩)
      have l2 := hC2.get 2 (.string ⟨#[]⟩)
      have l3 := hC2.get 3 (.int .i64 0)
      have lz0 := hC2.froz 0
      have lz1 := hC2.froz 1
      have lz2 := hC2.froz 2
      have lz3 := hC2.froz 3
      have HC1' := Lib.hid hC1
      clear hC1 hC2 hb2 HC11 HC21 HCUT HB1
      have hne : w.heap.size + 1 ≠ w.heap.size := by omega
      go_wp2_with fail
      refine bodyPost_ret (v := .agg #[.int .i64 3, .string ⟨#[]⟩, .string CB, .int .i64 m]) ?_ rfl ⟨_, ?_, HTS.out, ?_⟩
      · have hfin := Cs.all4 (((HC1'.out.other _ 2 (.string CB) hne).other _ 3 (.int .i64 m) hne)) (a' := .int .i64 3) (b' := .string ⟨#[]⟩) (c' := .string CB) (d' := .int .i64 m)
        have g0 := hfin.get 0 (.int .i64 3)
        have g1 := hfin.get 1 (.string ⟨#[]⟩)
        have g2 := hfin.get 2 (.string CB)
        have g3 := hfin.get 3 (.int .i64 m)
        generalize ((((((w2.setCell ⟨w.heap.size + 1, 2, none⟩ (.string CB)).setCell ⟨w.heap.size + 1, 3, none⟩ (.int .i64 m)).setCell ⟨w.heap.size, 0, none⟩ (.int .i64 3)).setCell ⟨w.heap.size, 1, none⟩ (.string ⟨#[]⟩)).setCell ⟨w.heap.size, 2, none⟩ (.string CB)).setCell ⟨w.heap.size, 3, none⟩ (.int .i64 m)) = WF at g0 g1 g2 g3 ⊢
        simp [results, Tryd.results15, go_sem, g0, g1, g2, g3]
      · rw [HCB.out]; rfl
      · exact below_all4 ((HB2.out.setCell (p := ⟨w.heap.size + 1, 2, none⟩) (by simp) (.string CB)).setCell (p := ⟨w.heap.size + 1, 3, none⟩) (by simp) (.int .i64 m)) (Nat.le_refl _)
    · go_enter Tryd.func15, Tryd.ntmps15
      go_wp2_with (go_at_call 36; rw [← HW0.out]; refine HAD.out.mono ?_; rintro e w1 ⟨s, hs, rfl, hb1⟩; refine Hid.out ?_)
      refine Lib.hid ?_
      have HTS := Lib.hid (HTO.out s hs)
      have hcut := fun w h => pcut_yes s.data.toList m w (by rw [show s.data.toList.length = s.size by simp, hs]; exact addrN_ok six) h
      rw [ba_eta] at hcut
      have hcut := fun w => hcut w (by rw [show s.data.toList.length = s.size by simp, hs]; exact HMB.out)
      obtain ⟨CB, hCB⟩ : ∃ CB, CB = baL (cutL s.data.toList m) := ⟨_, rfl⟩
      rw [show (⟨(cutL s.data.toList m).toArray⟩ : ByteArray) = CB by rw [hCB]; rfl] at hcut
      have hsZ : s.size = Z := by rw [hs, HZ.out]
      have HCUT := Lib.hid hcut
      have HCB := Lib.hid hCB
      have HC11 := Lib.hid (HC1.out.below hb1)
      have HC21 := Lib.hid (HC2.out.below hb1)
      have HB1 := Lib.hid (HB0.out.trans (hb1.mono HB0.out.size))
      clear hcut hCB hs hb1
      go_wp2_with (go_at_call 37; refine (HCUT.out _).mono ?_; rintro e w2 ⟨rfl, hb2⟩; refine Hid.out ?_)
      refine Lib.hid ?_
      have hC1 := HC11.out.below hb2
      have hC2 := HC21.out.below hb2
      have HB2 := Lib.hid (HB1.out.trans (hb2.mono HB1.out.size))
      have k0 := hC1.get 0 (.int .i64 0)
      have k1 := hC1.get 1 (.string ⟨#[]⟩)
      have k2 := hC1.get 2 (.string ⟨#[]⟩)
      have k3 := hC1.get 3 (.int .i64 0)
      have kz0 := hC1.froz 0
      have kz1 := hC1.froz 1
      have kz2 := hC1.froz 2
      have kz3 := hC1.froz 3
      have l0 := hC2.get 0 (.int .i64 6)
      have l1 := hC2.get 1 (.string ⟨#[]⟩)
      have l2 := hC2.get 2 (.string ⟨#[]⟩)
      have l3 := hC2.get 3 (.int .i64 0)
      have lz0 := hC2.froz 0
      have lz1 := hC2.froz 1
      have lz2 := hC2.froz 2
      have lz3 := hC2.froz 3
      have HC1' := Lib.hid hC1
      clear hC1 hC2 hb2 HC11 HC21 HCUT HB1
      have hne : w.heap.size + 1 ≠ w.heap.size := by omega
      go_wp2_with fail
      refine bodyPost_ret (v := .agg #[.int .i64 6, .string ⟨#[]⟩, .string CB, .int .i64 m]) ?_ rfl ⟨_, ?_, HTS.out, ?_⟩
      · have hfin := Cs.all4 (((HC1'.out.other _ 2 (.string CB) hne).other _ 3 (.int .i64 m) hne)) (a' := .int .i64 6) (b' := .string ⟨#[]⟩) (c' := .string CB) (d' := .int .i64 m)
        have g0 := hfin.get 0 (.int .i64 6)
        have g1 := hfin.get 1 (.string ⟨#[]⟩)
        have g2 := hfin.get 2 (.string CB)
        have g3 := hfin.get 3 (.int .i64 m)
        generalize ((((((w2.setCell ⟨w.heap.size + 1, 2, none⟩ (.string CB)).setCell ⟨w.heap.size + 1, 3, none⟩ (.int .i64 m)).setCell ⟨w.heap.size, 0, none⟩ (.int .i64 6)).setCell ⟨w.heap.size, 1, none⟩ (.string ⟨#[]⟩)).setCell ⟨w.heap.size, 2, none⟩ (.string CB)).setCell ⟨w.heap.size, 3, none⟩ (.int .i64 m)) = WF at g0 g1 g2 g3 ⊢
        simp [results, Tryd.results15, go_sem, g0, g1, g2, g3]
      · rw [HCB.out]; rfl
      · exact below_all4 ((HB2.out.setCell (p := ⟨w.heap.size + 1, 2, none⟩) (by simp) (.string CB)).setCell (p := ⟨w.heap.size + 1, 3, none⟩) (by simp) (.int .i64 m)) (Nat.le_refl _)
  · have e0 : (tk == 0) = false := by rw [beq_eq_false_iff_ne]; omega
    have e3 : (tk == 3) = false := by rw [beq_eq_false_iff_ne]; omega
    have e6 : (tk == 6) = false := by rw [beq_eq_false_iff_ne]; omega
    have hTO := fun (X : List (List UInt8)) (h : FewX X) => trigNam_ok hkd.1 (by rw [← htk]; exact hp) h
    rw [← htk] at hTO
    have HTO := Lib.hid hTO
    have HC1 := Lib.hid hc1
    have HC2 := Lib.hid hc2
    have HB0 := Lib.hid hb0
    have HS0 := Lib.hid hs0
    have HW0 := Lib.hid hW0
    have HA0 := Lib.hid hA0
    have HZ := Lib.hid hz
    have hzl : zs.length = n := by simpa using hA0.1
    have HZL := Lib.hid hzl
    have ht4 : tk = 1 ∨ tk = 2 ∨ tk = 4 ∨ tk = 5 := by omega
    have HT4 := Lib.hid ht4
    clear hTO hc1 hc2 hb0 hs0 hW0 hA0 hz hA hzl ht4 hp htk
    go_enter Tryd.func15, Tryd.ntmps15
    go_upto_region 5 with fail
    rw [← HW0.out]
    go_loopw [11, 22] (fun v i wr => ∃ (k : Nat) (X : List (List UInt8)), k ≤ n ∧ i = .int .i64 k ∧ Hid (FewX X) ∧ Buf W0.heap.size 9 W0 v X.length (X.map sv) wr) (fun _ i _ => n - (intOf i).toNat)
    case atStart => exact ⟨0, [], Nat.zero_le _, rfl, Lib.hid ⟨fun x h => by (cases h), by simp⟩, Buf.start _ _⟩
    case round =>
      obtain ⟨k, X, hk, rfl, HFX, hb⟩ := hrel
      have hXl := HFX.out.len
      obtain ⟨D, cd, rfl, hd1, hd2, hd3⟩ := hb.slice
      by_cases hlt : k < n
      · have hlt' : (k : Int) < n := by omega
        obtain ⟨b, off, u, rfl, hbb, hu, hc⟩ := (HA0.out.below hb.below).at_ hlt
        have hkl : k < zs.length := by rw [HZL.out]; exact hlt
        have hcell : wr.cell? ⟨b, off + k, none⟩ = some (.int .u8 zs[k]) := by
          rw [hc]
          simp only [List.getElem?_map, List.getElem?_eq_getElem hkl, Option.map_some] at hu
          exact hu.symm
        have hzk := HZ.out zs[k] (List.getElem_mem hkl)
        generalize zs[k] = z at *
        obtain ⟨z0, z1⟩ := hzk
        clear hc hu hd3
        by_cases h5 : X.length < 5
        · have h5i : (X.length : Int) < 5 := by omega
          have a1 : 0 ≤ z % 5 := by omega
          have a2 : z % 5 < 5 := by omega
          obtain ⟨l5, hl5, hcl5⟩ := five_cell wr z z0 9
          obtain ⟨S5, hS5⟩ : ∃ S, S = baL l5 := ⟨_, rfl⟩
          rw [← hS5] at hcl5
          have HFN : Hid (FewX (X ++ [l5])) := Lib.hid ⟨by
            intro x hx
            simp only [List.mem_append, List.mem_cons, List.not_mem_nil, or_false] at hx
            rcases hx with hx | rfl
            · exact HFX.out.mem x hx
            · exact hl5, by simp; omega⟩
          have hmap : (X ++ [l5]).map sv = X.map sv ++ [.string S5] := by rw [List.map_append, hS5]; rfl
          have HM := Lib.hid hmap
          have hb1 := hb.alloc (.cells #[.string ⟨#[97]⟩, .string ⟨#[98]⟩, .string ⟨#[119, 119, 119]⟩, .string ⟨#[101, 120]⟩, .string ⟨#[111, 114, 103]⟩] 9)
          clear hmap hS5 hl5
          go_wp2_with (at_builtin; go_loud (refine wpList_append_one rfl _ _ 31 rfl W0.heap.size 9 i0 _ 16 Tryd.underlying31 hi hz0 hz1 hz2 rfl hb1 rfl ?hx rfl ?c1 ?c2 ?_))
          case hx => exact congrArg (fun q => Value.slice (some ⟨q, 0, none⟩) 1 1) (by simp)
          case c1 => unfold maxLen; omega
          case c2 => omega
          intro v' w2 hb2
          have HB2 := Lib.hid hb2
          clear hb2 hb1
          go_wp2
          go_roundw
          case rel => exact ⟨k + 1, X ++ [l5], by omega, by go_num, HFN, by rw [HM.out, List.length_append]; exact HB2.out⟩
          case measure => simp [intOf]; omega
        · have h5i : ¬ (X.length : Int) < 5 := by omega
          go_wp2_with fail
          go_roundw
          case rel => exact ⟨k + 1, X, by omega, by go_num, HFX, hb⟩
          case measure => simp [intOf]; omega
      · have hlt' : ¬ (k : Int) < n := by omega
        have HC1w := Lib.hid (HC1.out.below hb.below)
        have HC2w := Lib.hid (HC2.out.below hb.below)
        have HBw := Lib.hid (HB0.out.trans (hb.below.mono HB0.out.size))
        have hq0 := HC2w.out.get 0 (.int .i64 tk)
        have HSLX := Lib.hid hb.sl
        clear hb hd3 HC1 HC2 HB0 HA0 HZ HZL HW0 HS0
        by_cases hsp : X = [] ∧ (tk = 1 ∨ tk = 4)
        · obtain ⟨hX0, ht⟩ := hsp
          have hxl : ((X.length : Int) == 0) = true := by rw [hX0]; rfl
          have hA5 : FewX [[97]] := ⟨by decide, by decide⟩
          have HTS := Lib.hid (HTO.out [[97]] hA5 (fun _ => by simp))
          obtain ⟨NM, hNM⟩ : ∃ N, N = baL ((makeL [[97]]).getD []) := ⟨_, rfl⟩
          have hmk := fun A c w h => makeX_any A 1 c [[97]] w h (fun x hx => by have := (five_ok x (hA5.mem x hx)).2.2.2; unfold maxLen; omega) (by unfold maxLen; decide)
          rw [show sv ((makeL [[97]]).getD []) = .string NM by rw [hNM]; rfl] at hmk
          have HMK := Lib.hid hmk
          have HNM := Lib.hid hNM
          clear hmk hNM
          have HCM := Lib.hid (HC1w.out.alloc (.cells #[.string ⟨#[97]⟩] 9))
          have HCN := Lib.hid (HC2w.out.alloc (.cells #[.string ⟨#[97]⟩] 9))
          have HBM := Lib.hid (HBw.out.alloc HBw.out.size (.cells #[.string ⟨#[97]⟩] 9))
          have HSLM := Lib.hid (Sl.fresh wr #[.string ⟨#[97]⟩] 9 1 _ rfl rfl)
          clear HTO HT4 e0 e3 e6 hX0 HSLX HFX hXl
          rcases ht with rfl | rfl
          · go_wp2_with (go_at_call 25; refine (HMK.out _ _ _ HSLM.out).mono ?_; rintro e w5 ⟨rfl, hb5⟩; refine Hid.out ?_)
            refine Lib.hid ?_
            have HC5 := Lib.hid (HCM.out.below hb5)
            have hC2 := HCN.out.below hb5
            have HB5 := Lib.hid (HBM.out.trans (hb5.mono HBM.out.size))
            have k0 := HC5.out.get 0 (.int .i64 0)
            have k1 := HC5.out.get 1 (.string ⟨#[]⟩)
            have k2 := HC5.out.get 2 (.string ⟨#[]⟩)
            have k3 := HC5.out.get 3 (.int .i64 0)
            have kz0 := HC5.out.froz 0
            have kz1 := HC5.out.froz 1
            have kz2 := HC5.out.froz 2
            have kz3 := HC5.out.froz 3
            have l0 := hC2.get 0 (.int .i64 1)
            have l1 := hC2.get 1 (.string ⟨#[]⟩)
            have l2 := hC2.get 2 (.string ⟨#[]⟩)
            have l3 := hC2.get 3 (.int .i64 0)
            have lz1 := hC2.froz 1
            clear hb5 hC2 hq0 HMK
            go_wp2_with fail
            have hne : w.heap.size + 1 ≠ w.heap.size := by omega
            refine bodyPost_ret (v := .agg #[.int .i64 1, .string NM, .string ⟨#[]⟩, .int .i64 0]) ?_ rfl ⟨_, ?_, HTS.out, ?_⟩
            · have hfin := Cs.all4 ((HC5.out.other _ 1 (.string NM) hne)) (a' := .int .i64 1) (b' := .string NM) (c' := .string ⟨#[]⟩) (d' := .int .i64 0)
              have g0 := hfin.get 0 (.int .i64 1)
              have g1 := hfin.get 1 (.string NM)
              have g2 := hfin.get 2 (.string ⟨#[]⟩)
              have g3 := hfin.get 3 (.int .i64 0)
              generalize (((((w5.setCell ⟨w.heap.size + 1, 1, none⟩ (.string NM)).setCell ⟨w.heap.size, 0, none⟩ (.int .i64 1)).setCell ⟨w.heap.size, 1, none⟩ (.string NM)).setCell ⟨w.heap.size, 2, none⟩ (.string ⟨#[]⟩)).setCell ⟨w.heap.size, 3, none⟩ (.int .i64 0)) = WF at g0 g1 g2 g3 ⊢
              simp [results, Tryd.results15, go_sem, g0, g1, g2, g3]
            · rw [HNM.out]; rfl
            · exact below_all4 (HB5.out.setCell (p := ⟨w.heap.size + 1, 1, none⟩) (by simp) (.string NM)) (Nat.le_refl _)
          · go_wp2_with (go_at_call 25; refine (HMK.out _ _ _ HSLM.out).mono ?_; rintro e w5 ⟨rfl, hb5⟩; refine Hid.out ?_)
            refine Lib.hid ?_
            have HC5 := Lib.hid (HCM.out.below hb5)
            have hC2 := HCN.out.below hb5
            have HB5 := Lib.hid (HBM.out.trans (hb5.mono HBM.out.size))
            have k0 := HC5.out.get 0 (.int .i64 0)
            have k1 := HC5.out.get 1 (.string ⟨#[]⟩)
            have k2 := HC5.out.get 2 (.string ⟨#[]⟩)
            have k3 := HC5.out.get 3 (.int .i64 0)
            have kz0 := HC5.out.froz 0
            have kz1 := HC5.out.froz 1
            have kz2 := HC5.out.froz 2
            have kz3 := HC5.out.froz 3
            have l0 := hC2.get 0 (.int .i64 4)
            have l1 := hC2.get 1 (.string ⟨#[]⟩)
            have l2 := hC2.get 2 (.string ⟨#[]⟩)
            have l3 := hC2.get 3 (.int .i64 0)
            have lz1 := hC2.froz 1
            clear hb5 hC2 hq0 HMK
            go_wp2_with fail
            have hne : w.heap.size + 1 ≠ w.heap.size := by omega
            refine bodyPost_ret (v := .agg #[.int .i64 4, .string NM, .string ⟨#[]⟩, .int .i64 0]) ?_ rfl ⟨_, ?_, HTS.out, ?_⟩
            · have hfin := Cs.all4 ((HC5.out.other _ 1 (.string NM) hne)) (a' := .int .i64 4) (b' := .string NM) (c' := .string ⟨#[]⟩) (d' := .int .i64 0)
              have g0 := hfin.get 0 (.int .i64 4)
              have g1 := hfin.get 1 (.string NM)
              have g2 := hfin.get 2 (.string ⟨#[]⟩)
              have g3 := hfin.get 3 (.int .i64 0)
              generalize (((((w5.setCell ⟨w.heap.size + 1, 1, none⟩ (.string NM)).setCell ⟨w.heap.size, 0, none⟩ (.int .i64 4)).setCell ⟨w.heap.size, 1, none⟩ (.string NM)).setCell ⟨w.heap.size, 2, none⟩ (.string ⟨#[]⟩)).setCell ⟨w.heap.size, 3, none⟩ (.int .i64 0)) = WF at g0 g1 g2 g3 ⊢
              simp [results, Tryd.results15, go_sem, g0, g1, g2, g3]
            · rw [HNM.out]; rfl
            · exact below_all4 (HB5.out.setCell (p := ⟨w.heap.size + 1, 1, none⟩) (by simp) (.string NM)) (Nat.le_refl _)
        · have hnsp : X ≠ [] ∨ (tk = 2 ∨ tk = 5) := by
            have := HT4.out
            by_cases hX0 : X = []
            · right; rcases this with h | h | h | h
              · exact absurd ⟨hX0, .inl h⟩ hsp
              · exact .inl h
              · exact absurd ⟨hX0, .inr h⟩ hsp
              · exact .inr h
            · exact .inl hX0
          have HTS := Lib.hid (HTO.out X HFX.out (fun h hX0 => hsp ⟨hX0, h⟩))
          obtain ⟨NM, hNM⟩ : ∃ N, N = baL ((makeL X).getD []) := ⟨_, rfl⟩
          have hmk := fun A c w h => makeX_any A X.length c X w h (fun x hx => by have := (five_ok x (HFX.out.mem x hx)).2.2.2; unfold maxLen; omega) (by unfold maxLen; have := HFX.out.len; omega)
          rw [show sv ((makeL X).getD []) = .string NM by rw [hNM]; rfl] at hmk
          have HMK := Lib.hid hmk
          have HNM := Lib.hid hNM
          clear hmk hNM
          have HCM := HC1w
          have HCN := HC2w
          have HBM := HBw
          have ht := HT4.out
          clear HTO HT4 e0 e3 e6 hsp
          rcases hnsp with hX0 | hk25
          · have hxl : ((X.length : Int) == 0) = false := by
              have := List.length_pos_iff.2 hX0
              rw [beq_eq_false_iff_ne]; omega
            clear hX0
            rcases ht with rfl | rfl | rfl | rfl
            · go_wp2_with (go_at_call 25; refine (HMK.out _ _ _ HSLX.out).mono ?_; rintro e w5 ⟨rfl, hb5⟩; refine Hid.out ?_)
              refine Lib.hid ?_
              have HC5 := Lib.hid (HCM.out.below hb5)
              have hC2 := HCN.out.below hb5
              have HB5 := Lib.hid (HBM.out.trans (hb5.mono HBM.out.size))
              have k0 := HC5.out.get 0 (.int .i64 0)
              have k1 := HC5.out.get 1 (.string ⟨#[]⟩)
              have k2 := HC5.out.get 2 (.string ⟨#[]⟩)
              have k3 := HC5.out.get 3 (.int .i64 0)
              have kz0 := HC5.out.froz 0
              have kz1 := HC5.out.froz 1
              have kz2 := HC5.out.froz 2
              have kz3 := HC5.out.froz 3
              have l0 := hC2.get 0 (.int .i64 1)
              have l1 := hC2.get 1 (.string ⟨#[]⟩)
              have l2 := hC2.get 2 (.string ⟨#[]⟩)
              have l3 := hC2.get 3 (.int .i64 0)
              have lz1 := hC2.froz 1
              clear hb5 hC2 hq0 HMK
              go_wp2_with fail
              have hne : w.heap.size + 1 ≠ w.heap.size := by omega
              refine bodyPost_ret (v := .agg #[.int .i64 1, .string NM, .string ⟨#[]⟩, .int .i64 0]) ?_ rfl ⟨_, ?_, HTS.out, ?_⟩
              · have hfin := Cs.all4 ((HC5.out.other _ 1 (.string NM) hne)) (a' := .int .i64 1) (b' := .string NM) (c' := .string ⟨#[]⟩) (d' := .int .i64 0)
                have g0 := hfin.get 0 (.int .i64 1)
                have g1 := hfin.get 1 (.string NM)
                have g2 := hfin.get 2 (.string ⟨#[]⟩)
                have g3 := hfin.get 3 (.int .i64 0)
                generalize (((((w5.setCell ⟨w.heap.size + 1, 1, none⟩ (.string NM)).setCell ⟨w.heap.size, 0, none⟩ (.int .i64 1)).setCell ⟨w.heap.size, 1, none⟩ (.string NM)).setCell ⟨w.heap.size, 2, none⟩ (.string ⟨#[]⟩)).setCell ⟨w.heap.size, 3, none⟩ (.int .i64 0)) = WF at g0 g1 g2 g3 ⊢
                simp [results, Tryd.results15, go_sem, g0, g1, g2, g3]
              · rw [HNM.out]; rfl
              · exact below_all4 (HB5.out.setCell (p := ⟨w.heap.size + 1, 1, none⟩) (by simp) (.string NM)) (Nat.le_refl _)
            · go_wp2_with (go_at_call 25; refine (HMK.out _ _ _ HSLX.out).mono ?_; rintro e w5 ⟨rfl, hb5⟩; refine Hid.out ?_)
              refine Lib.hid ?_
              have HC5 := Lib.hid (HCM.out.below hb5)
              have hC2 := HCN.out.below hb5
              have HB5 := Lib.hid (HBM.out.trans (hb5.mono HBM.out.size))
              have k0 := HC5.out.get 0 (.int .i64 0)
              have k1 := HC5.out.get 1 (.string ⟨#[]⟩)
              have k2 := HC5.out.get 2 (.string ⟨#[]⟩)
              have k3 := HC5.out.get 3 (.int .i64 0)
              have kz0 := HC5.out.froz 0
              have kz1 := HC5.out.froz 1
              have kz2 := HC5.out.froz 2
              have kz3 := HC5.out.froz 3
              have l0 := hC2.get 0 (.int .i64 2)
              have l1 := hC2.get 1 (.string ⟨#[]⟩)
              have l2 := hC2.get 2 (.string ⟨#[]⟩)
              have l3 := hC2.get 3 (.int .i64 0)
              have lz1 := hC2.froz 1
              clear hb5 hC2 hq0 HMK
              go_wp2_with fail
              have hne : w.heap.size + 1 ≠ w.heap.size := by omega
              refine bodyPost_ret (v := .agg #[.int .i64 2, .string NM, .string ⟨#[]⟩, .int .i64 0]) ?_ rfl ⟨_, ?_, HTS.out, ?_⟩
              · have hfin := Cs.all4 ((HC5.out.other _ 1 (.string NM) hne)) (a' := .int .i64 2) (b' := .string NM) (c' := .string ⟨#[]⟩) (d' := .int .i64 0)
                have g0 := hfin.get 0 (.int .i64 2)
                have g1 := hfin.get 1 (.string NM)
                have g2 := hfin.get 2 (.string ⟨#[]⟩)
                have g3 := hfin.get 3 (.int .i64 0)
                generalize (((((w5.setCell ⟨w.heap.size + 1, 1, none⟩ (.string NM)).setCell ⟨w.heap.size, 0, none⟩ (.int .i64 2)).setCell ⟨w.heap.size, 1, none⟩ (.string NM)).setCell ⟨w.heap.size, 2, none⟩ (.string ⟨#[]⟩)).setCell ⟨w.heap.size, 3, none⟩ (.int .i64 0)) = WF at g0 g1 g2 g3 ⊢
                simp [results, Tryd.results15, go_sem, g0, g1, g2, g3]
              · rw [HNM.out]; rfl
              · exact below_all4 (HB5.out.setCell (p := ⟨w.heap.size + 1, 1, none⟩) (by simp) (.string NM)) (Nat.le_refl _)
            · go_wp2_with (go_at_call 25; refine (HMK.out _ _ _ HSLX.out).mono ?_; rintro e w5 ⟨rfl, hb5⟩; refine Hid.out ?_)
              refine Lib.hid ?_
              have HC5 := Lib.hid (HCM.out.below hb5)
              have hC2 := HCN.out.below hb5
              have HB5 := Lib.hid (HBM.out.trans (hb5.mono HBM.out.size))
              have k0 := HC5.out.get 0 (.int .i64 0)
              have k1 := HC5.out.get 1 (.string ⟨#[]⟩)
              have k2 := HC5.out.get 2 (.string ⟨#[]⟩)
              have k3 := HC5.out.get 3 (.int .i64 0)
              have kz0 := HC5.out.froz 0
              have kz1 := HC5.out.froz 1
              have kz2 := HC5.out.froz 2
              have kz3 := HC5.out.froz 3
              have l0 := hC2.get 0 (.int .i64 4)
              have l1 := hC2.get 1 (.string ⟨#[]⟩)
              have l2 := hC2.get 2 (.string ⟨#[]⟩)
              have l3 := hC2.get 3 (.int .i64 0)
              have lz1 := hC2.froz 1
              clear hb5 hC2 hq0 HMK
              go_wp2_with fail
              have hne : w.heap.size + 1 ≠ w.heap.size := by omega
              refine bodyPost_ret (v := .agg #[.int .i64 4, .string NM, .string ⟨#[]⟩, .int .i64 0]) ?_ rfl ⟨_, ?_, HTS.out, ?_⟩
              · have hfin := Cs.all4 ((HC5.out.other _ 1 (.string NM) hne)) (a' := .int .i64 4) (b' := .string NM) (c' := .string ⟨#[]⟩) (d' := .int .i64 0)
                have g0 := hfin.get 0 (.int .i64 4)
                have g1 := hfin.get 1 (.string NM)
                have g2 := hfin.get 2 (.string ⟨#[]⟩)
                have g3 := hfin.get 3 (.int .i64 0)
                generalize (((((w5.setCell ⟨w.heap.size + 1, 1, none⟩ (.string NM)).setCell ⟨w.heap.size, 0, none⟩ (.int .i64 4)).setCell ⟨w.heap.size, 1, none⟩ (.string NM)).setCell ⟨w.heap.size, 2, none⟩ (.string ⟨#[]⟩)).setCell ⟨w.heap.size, 3, none⟩ (.int .i64 0)) = WF at g0 g1 g2 g3 ⊢
                simp [results, Tryd.results15, go_sem, g0, g1, g2, g3]
              · rw [HNM.out]; rfl
              · exact below_all4 (HB5.out.setCell (p := ⟨w.heap.size + 1, 1, none⟩) (by simp) (.string NM)) (Nat.le_refl _)
            · go_wp2_with (go_at_call 25; refine (HMK.out _ _ _ HSLX.out).mono ?_; rintro e w5 ⟨rfl, hb5⟩; refine Hid.out ?_)
              refine Lib.hid ?_
              have HC5 := Lib.hid (HCM.out.below hb5)
              have hC2 := HCN.out.below hb5
              have HB5 := Lib.hid (HBM.out.trans (hb5.mono HBM.out.size))
              have k0 := HC5.out.get 0 (.int .i64 0)
              have k1 := HC5.out.get 1 (.string ⟨#[]⟩)
              have k2 := HC5.out.get 2 (.string ⟨#[]⟩)
              have k3 := HC5.out.get 3 (.int .i64 0)
              have kz0 := HC5.out.froz 0
              have kz1 := HC5.out.froz 1
              have kz2 := HC5.out.froz 2
              have kz3 := HC5.out.froz 3
              have l0 := hC2.get 0 (.int .i64 5)
              have l1 := hC2.get 1 (.string ⟨#[]⟩)
              have l2 := hC2.get 2 (.string ⟨#[]⟩)
              have l3 := hC2.get 3 (.int .i64 0)
              have lz1 := hC2.froz 1
              clear hb5 hC2 hq0 HMK
              go_wp2_with fail
              have hne : w.heap.size + 1 ≠ w.heap.size := by omega
              refine bodyPost_ret (v := .agg #[.int .i64 5, .string NM, .string ⟨#[]⟩, .int .i64 0]) ?_ rfl ⟨_, ?_, HTS.out, ?_⟩
              · have hfin := Cs.all4 ((HC5.out.other _ 1 (.string NM) hne)) (a' := .int .i64 5) (b' := .string NM) (c' := .string ⟨#[]⟩) (d' := .int .i64 0)
                have g0 := hfin.get 0 (.int .i64 5)
                have g1 := hfin.get 1 (.string NM)
                have g2 := hfin.get 2 (.string ⟨#[]⟩)
                have g3 := hfin.get 3 (.int .i64 0)
                generalize (((((w5.setCell ⟨w.heap.size + 1, 1, none⟩ (.string NM)).setCell ⟨w.heap.size, 0, none⟩ (.int .i64 5)).setCell ⟨w.heap.size, 1, none⟩ (.string NM)).setCell ⟨w.heap.size, 2, none⟩ (.string ⟨#[]⟩)).setCell ⟨w.heap.size, 3, none⟩ (.int .i64 0)) = WF at g0 g1 g2 g3 ⊢
                simp [results, Tryd.results15, go_sem, g0, g1, g2, g3]
              · rw [HNM.out]; rfl
              · exact below_all4 (HB5.out.setCell (p := ⟨w.heap.size + 1, 1, none⟩) (by simp) (.string NM)) (Nat.le_refl _)
          · clear ht
            cases hxl : ((X.length : Int) == 0) with
            | true =>
              rcases hk25 with rfl | rfl
              · go_wp2_with (go_at_call 25; refine (HMK.out _ _ _ HSLX.out).mono ?_; rintro e w5 ⟨rfl, hb5⟩; refine Hid.out ?_)
                refine Lib.hid ?_
                have HC5 := Lib.hid (HCM.out.below hb5)
                have hC2 := HCN.out.below hb5
                have HB5 := Lib.hid (HBM.out.trans (hb5.mono HBM.out.size))
                have k0 := HC5.out.get 0 (.int .i64 0)
                have k1 := HC5.out.get 1 (.string ⟨#[]⟩)
                have k2 := HC5.out.get 2 (.string ⟨#[]⟩)
                have k3 := HC5.out.get 3 (.int .i64 0)
                have kz0 := HC5.out.froz 0
                have kz1 := HC5.out.froz 1
                have kz2 := HC5.out.froz 2
                have kz3 := HC5.out.froz 3
                have l0 := hC2.get 0 (.int .i64 2)
                have l1 := hC2.get 1 (.string ⟨#[]⟩)
                have l2 := hC2.get 2 (.string ⟨#[]⟩)
                have l3 := hC2.get 3 (.int .i64 0)
                have lz1 := hC2.froz 1
                clear hb5 hC2 hq0 HMK
                go_wp2_with fail
                have hne : w.heap.size + 1 ≠ w.heap.size := by omega
                refine bodyPost_ret (v := .agg #[.int .i64 2, .string NM, .string ⟨#[]⟩, .int .i64 0]) ?_ rfl ⟨_, ?_, HTS.out, ?_⟩
                · have hfin := Cs.all4 ((HC5.out.other _ 1 (.string NM) hne)) (a' := .int .i64 2) (b' := .string NM) (c' := .string ⟨#[]⟩) (d' := .int .i64 0)
                  have g0 := hfin.get 0 (.int .i64 2)
                  have g1 := hfin.get 1 (.string NM)
                  have g2 := hfin.get 2 (.string ⟨#[]⟩)
                  have g3 := hfin.get 3 (.int .i64 0)
                  generalize (((((w5.setCell ⟨w.heap.size + 1, 1, none⟩ (.string NM)).setCell ⟨w.heap.size, 0, none⟩ (.int .i64 2)).setCell ⟨w.heap.size, 1, none⟩ (.string NM)).setCell ⟨w.heap.size, 2, none⟩ (.string ⟨#[]⟩)).setCell ⟨w.heap.size, 3, none⟩ (.int .i64 0)) = WF at g0 g1 g2 g3 ⊢
                  simp [results, Tryd.results15, go_sem, g0, g1, g2, g3]
                · rw [HNM.out]; rfl
                · exact below_all4 (HB5.out.setCell (p := ⟨w.heap.size + 1, 1, none⟩) (by simp) (.string NM)) (Nat.le_refl _)
              · go_wp2_with (go_at_call 25; refine (HMK.out _ _ _ HSLX.out).mono ?_; rintro e w5 ⟨rfl, hb5⟩; refine Hid.out ?_)
                refine Lib.hid ?_
                have HC5 := Lib.hid (HCM.out.below hb5)
                have hC2 := HCN.out.below hb5
                have HB5 := Lib.hid (HBM.out.trans (hb5.mono HBM.out.size))
                have k0 := HC5.out.get 0 (.int .i64 0)
                have k1 := HC5.out.get 1 (.string ⟨#[]⟩)
                have k2 := HC5.out.get 2 (.string ⟨#[]⟩)
                have k3 := HC5.out.get 3 (.int .i64 0)
                have kz0 := HC5.out.froz 0
                have kz1 := HC5.out.froz 1
                have kz2 := HC5.out.froz 2
                have kz3 := HC5.out.froz 3
                have l0 := hC2.get 0 (.int .i64 5)
                have l1 := hC2.get 1 (.string ⟨#[]⟩)
                have l2 := hC2.get 2 (.string ⟨#[]⟩)
                have l3 := hC2.get 3 (.int .i64 0)
                have lz1 := hC2.froz 1
                clear hb5 hC2 hq0 HMK
                go_wp2_with fail
                have hne : w.heap.size + 1 ≠ w.heap.size := by omega
                refine bodyPost_ret (v := .agg #[.int .i64 5, .string NM, .string ⟨#[]⟩, .int .i64 0]) ?_ rfl ⟨_, ?_, HTS.out, ?_⟩
                · have hfin := Cs.all4 ((HC5.out.other _ 1 (.string NM) hne)) (a' := .int .i64 5) (b' := .string NM) (c' := .string ⟨#[]⟩) (d' := .int .i64 0)
                  have g0 := hfin.get 0 (.int .i64 5)
                  have g1 := hfin.get 1 (.string NM)
                  have g2 := hfin.get 2 (.string ⟨#[]⟩)
                  have g3 := hfin.get 3 (.int .i64 0)
                  generalize (((((w5.setCell ⟨w.heap.size + 1, 1, none⟩ (.string NM)).setCell ⟨w.heap.size, 0, none⟩ (.int .i64 5)).setCell ⟨w.heap.size, 1, none⟩ (.string NM)).setCell ⟨w.heap.size, 2, none⟩ (.string ⟨#[]⟩)).setCell ⟨w.heap.size, 3, none⟩ (.int .i64 0)) = WF at g0 g1 g2 g3 ⊢
                  simp [results, Tryd.results15, go_sem, g0, g1, g2, g3]
                · rw [HNM.out]; rfl
                · exact below_all4 (HB5.out.setCell (p := ⟨w.heap.size + 1, 1, none⟩) (by simp) (.string NM)) (Nat.le_refl _)
            | false =>
              rcases hk25 with rfl | rfl
              · go_wp2_with (go_at_call 25; refine (HMK.out _ _ _ HSLX.out).mono ?_; rintro e w5 ⟨rfl, hb5⟩; refine Hid.out ?_)
                refine Lib.hid ?_
                have HC5 := Lib.hid (HCM.out.below hb5)
                have hC2 := HCN.out.below hb5
                have HB5 := Lib.hid (HBM.out.trans (hb5.mono HBM.out.size))
                have k0 := HC5.out.get 0 (.int .i64 0)
                have k1 := HC5.out.get 1 (.string ⟨#[]⟩)
                have k2 := HC5.out.get 2 (.string ⟨#[]⟩)
                have k3 := HC5.out.get 3 (.int .i64 0)
                have kz0 := HC5.out.froz 0
                have kz1 := HC5.out.froz 1
                have kz2 := HC5.out.froz 2
                have kz3 := HC5.out.froz 3
                have l0 := hC2.get 0 (.int .i64 2)
                have l1 := hC2.get 1 (.string ⟨#[]⟩)
                have l2 := hC2.get 2 (.string ⟨#[]⟩)
                have l3 := hC2.get 3 (.int .i64 0)
                have lz1 := hC2.froz 1
                clear hb5 hC2 hq0 HMK
                go_wp2_with fail
                have hne : w.heap.size + 1 ≠ w.heap.size := by omega
                refine bodyPost_ret (v := .agg #[.int .i64 2, .string NM, .string ⟨#[]⟩, .int .i64 0]) ?_ rfl ⟨_, ?_, HTS.out, ?_⟩
                · have hfin := Cs.all4 ((HC5.out.other _ 1 (.string NM) hne)) (a' := .int .i64 2) (b' := .string NM) (c' := .string ⟨#[]⟩) (d' := .int .i64 0)
                  have g0 := hfin.get 0 (.int .i64 2)
                  have g1 := hfin.get 1 (.string NM)
                  have g2 := hfin.get 2 (.string ⟨#[]⟩)
                  have g3 := hfin.get 3 (.int .i64 0)
                  generalize (((((w5.setCell ⟨w.heap.size + 1, 1, none⟩ (.string NM)).setCell ⟨w.heap.size, 0, none⟩ (.int .i64 2)).setCell ⟨w.heap.size, 1, none⟩ (.string NM)).setCell ⟨w.heap.size, 2, none⟩ (.string ⟨#[]⟩)).setCell ⟨w.heap.size, 3, none⟩ (.int .i64 0)) = WF at g0 g1 g2 g3 ⊢
                  simp [results, Tryd.results15, go_sem, g0, g1, g2, g3]
                · rw [HNM.out]; rfl
                · exact below_all4 (HB5.out.setCell (p := ⟨w.heap.size + 1, 1, none⟩) (by simp) (.string NM)) (Nat.le_refl _)
              · go_wp2_with (go_at_call 25; refine (HMK.out _ _ _ HSLX.out).mono ?_; rintro e w5 ⟨rfl, hb5⟩; refine Hid.out ?_)
                refine Lib.hid ?_
                have HC5 := Lib.hid (HCM.out.below hb5)
                have hC2 := HCN.out.below hb5
                have HB5 := Lib.hid (HBM.out.trans (hb5.mono HBM.out.size))
                have k0 := HC5.out.get 0 (.int .i64 0)
                have k1 := HC5.out.get 1 (.string ⟨#[]⟩)
                have k2 := HC5.out.get 2 (.string ⟨#[]⟩)
                have k3 := HC5.out.get 3 (.int .i64 0)
                have kz0 := HC5.out.froz 0
                have kz1 := HC5.out.froz 1
                have kz2 := HC5.out.froz 2
                have kz3 := HC5.out.froz 3
                have l0 := hC2.get 0 (.int .i64 5)
                have l1 := hC2.get 1 (.string ⟨#[]⟩)
                have l2 := hC2.get 2 (.string ⟨#[]⟩)
                have l3 := hC2.get 3 (.int .i64 0)
                have lz1 := hC2.froz 1
                clear hb5 hC2 hq0 HMK
                go_wp2_with fail
                have hne : w.heap.size + 1 ≠ w.heap.size := by omega
                refine bodyPost_ret (v := .agg #[.int .i64 5, .string NM, .string ⟨#[]⟩, .int .i64 0]) ?_ rfl ⟨_, ?_, HTS.out, ?_⟩
                · have hfin := Cs.all4 ((HC5.out.other _ 1 (.string NM) hne)) (a' := .int .i64 5) (b' := .string NM) (c' := .string ⟨#[]⟩) (d' := .int .i64 0)
                  have g0 := hfin.get 0 (.int .i64 5)
                  have g1 := hfin.get 1 (.string NM)
                  have g2 := hfin.get 2 (.string ⟨#[]⟩)
                  have g3 := hfin.get 3 (.int .i64 0)
                  generalize (((((w5.setCell ⟨w.heap.size + 1, 1, none⟩ (.string NM)).setCell ⟨w.heap.size, 0, none⟩ (.int .i64 5)).setCell ⟨w.heap.size, 1, none⟩ (.string NM)).setCell ⟨w.heap.size, 2, none⟩ (.string ⟨#[]⟩)).setCell ⟨w.heap.size, 3, none⟩ (.int .i64 0)) = WF at g0 g1 g2 g3 ⊢
                  simp [results, Tryd.results15, go_sem, g0, g1, g2, g3]
                · rw [HNM.out]; rfl
                · exact below_all4 (HB5.out.setCell (p := ⟨w.heap.size + 1, 1, none⟩) (by simp) (.string NM)) (Nat.le_refl _)
end Go.Proofs.YtodpaejakgjblaaDoor
