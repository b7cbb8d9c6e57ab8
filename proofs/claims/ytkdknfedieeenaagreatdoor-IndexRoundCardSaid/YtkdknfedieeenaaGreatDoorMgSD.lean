/- Texts that walks stand on, one behind the other. -/
import Derived.Test.YtkdknfedieeenaaGreatDoorMgSC
import Derived.WalkArith
import Derived.Test.YtkdknfedieeenaaGreatDoorMgSB
import Derived.Test.YtkdknfedieeenaaGreatDoorCs
namespace Go.Proofs.YtkdknfedieeenaaGreatDoor
open Go.RowKit
set_option linter.unusedVariables false
set_option maxRecDepth 20000

theorem five_cell (w : World) (z : Int) (hz : 0 ≤ z) (T : TypeId) :
    ∃ l ∈ five, (w.alloc (.cells #[.string ⟨#[97]⟩, .string ⟨#[98]⟩, .string ⟨#[119, 119, 119]⟩, .string ⟨#[101, 120]⟩, .string ⟨#[111, 114, 103]⟩] T)).cell? ⟨w.heap.size, (z % 5).toNat, none⟩ = some (.string (baL l)) := by
  obtain ⟨k, hk, hk5⟩ : ∃ k : Nat, (z % 5).toNat = k ∧ k < 5 := ⟨_, rfl, by omega⟩
  rw [hk]
  have hl : k < five.length := hk5
  refine ⟨five[k], List.getElem_mem hl, ?_⟩
  have h := news_at w #[.string ⟨#[97]⟩, .string ⟨#[98]⟩, .string ⟨#[119, 119, 119]⟩, .string ⟨#[101, 120]⟩, .string ⟨#[111, 114, 103]⟩] T k (.string (baL five[k]))
  rw [Addr.add_lit, Nat.zero_add] at h
  apply h
  match k, hk5 with
  | 0, _ => rfl
  | 1, _ => rfl
  | 2, _ => rfl
  | 3, _ => rfl
  | 4, _ => rfl
/-- What a trigger of the statements is. -/
structure TrigOk (kd : Int) (t : Trig) : Prop where
  kind : t.kind = kd % 7
  good : GoodT t
  pfx : (kd % 7 = 0 ∨ kd % 7 = 3 ∨ kd % 7 = 6) → mayP t.addr t.bits = true ∧ t.name = []
  nam : ¬ (kd % 7 = 0 ∨ kd % 7 = 3 ∨ kd % 7 = 6) → t.addr = [] ∧ t.bits = 0 ∧ ∃ X, FewX X ∧ nameLabels t.name = some X
  small : t.name.length ≤ 254 ∧ t.addr.length ≤ 16
theorem addrN_ok (six : Bool) : isAddr (addrN six) = true := by cases six <;> rfl
theorem trigPfx_ok {kd : Int} (hk : kd % 7 = 0 ∨ kd % 7 = 3 ∨ kd % 7 = 6) {l : List UInt8} {m : Nat} (hl : isAddr l.length = true) (hm : m ≤ 8 * l.length) : TrigOk kd ⟨kd % 7, [], cutL l m, m⟩ := by
  have hmay : mayP (cutL l m) m = true := by
    unfold mayP isCut
    rw [cutL_length, Int.toNat_natCast, cutL_cutL l m hm, hl]
    simp; omega
  refine ⟨rfl, good_pfx hmay hk, fun _ => ⟨hmay, rfl⟩, fun h => absurd hk h, by simp, ?_⟩
  have := isAddr_le hl
  rw [cutL_length]; exact this
theorem trigNam_ok {kd : Int} (h0 : 0 ≤ kd) (hk : ¬ (kd % 7 = 0 ∨ kd % 7 = 3 ∨ kd % 7 = 6)) {X : List (List UInt8)} (hX : FewX X) (hne : kd % 7 = 1 ∨ kd % 7 = 4 → X ≠ []) : TrigOk kd ⟨kd % 7, (makeL X).getD [], [], 0⟩ := by
  refine ⟨rfl, good_name hX (by omega) hne, fun h => absurd h hk, fun _ => ⟨rfl, rfl, X, hX, hX.name⟩, ?_, by simp⟩
  rw [hX.ok.make]
  exact hX.ok.2

set_option maxHeartbeats 16000000 in
theorem trigger13_any (kd : Int) (hkd : 0 ≤ kd ∧ kd ≤ 255) (A : Option Addr) (n c : Nat) (zs : List Int) (six : Bool) (bits : Int) (hb : 0 ≤ bits ∧ bits ≤ 255) (w : World)
    (hA : Sl w w.heap.size 1 A n (zs.map (Value.int .u8))) (hz : ∀ z ∈ zs, 0 ≤ z ∧ z < 256) (hn : n ≤ 140737488355328) :
    Calls Tryz.prog 30 #[.int .u8 kd, .slice A n c, .bool six, .int .u8 bits] w fun e w' => ∃ t : Trig, e = .returned (trigA t) ∧ TrigOk kd t ∧ Below w.heap.size w w' := by
  obtain ⟨i0, hi, hz0, hz1, hz2⟩ := info_parts str_info
  obtain ⟨tk, htk⟩ : ∃ tk, tk = kd % 7 := ⟨_, rfl⟩
  have ht7 : 0 ≤ tk ∧ tk < 7 := by omega
  have hmod : kd.tmod 7 = tk := by rw [Int.tmod_eq_emod_of_nonneg hkd.1, htk]
  have hw8 : IntKind.u8.wrap tk = tk := by rw [IntKind.wrap_u8]; omega
  obtain ⟨W0, hW0⟩ : ∃ W0, W0 = (w.alloc (.cells #[.int .i64 0, .string ⟨#[]⟩, .string ⟨#[]⟩, .int .i64 0] 46)).alloc (.cells #[.int .i64 tk, .string ⟨#[]⟩, .string ⟨#[]⟩, .int .i64 0] 46) := ⟨_, rfl⟩
  have hc1 : Cs W0 w.heap.size [.int .i64 0, .string ⟨#[]⟩, .string ⟨#[]⟩, .int .i64 0] := by rw [hW0]; exact (Cs.new w _ _ _).alloc _
  have hc2 : Cs W0 (w.heap.size + 1) [.int .i64 tk, .string ⟨#[]⟩, .string ⟨#[]⟩, .int .i64 0] := by
    rw [hW0]
    exact (Cs.new (w.alloc (.cells #[.int .i64 0, .string ⟨#[]⟩, .string ⟨#[]⟩, .int .i64 0] 46)) _ _ _).at_ _ (by simp)
  have hb0 : Below w.heap.size w W0 := by
    rw [hW0]
    have h1 := (Below.refl w.heap.size w).alloc (Nat.le_refl _) (.cells #[.int .i64 0, .string ⟨#[]⟩, .string ⟨#[]⟩, .int .i64 0] 46)
    exact h1.alloc h1.size _
  have hs0 : W0.heap.size = w.heap.size + 2 := by rw [hW0]; simp
  have hA0 := (hA.below hb0).more hb0.size
  by_cases hp : tk = 0 ∨ tk = 3 ∨ tk = 6
  · have hbytes : ∃ l : List UInt8, zs.map (Value.int .u8) = l.map bv := bytes_of zs (fun z h => WalkArith.wf_u8 (by have := hz z h; omega))
    obtain ⟨l, hl⟩ := hbytes
    rw [hl] at hA0
    have had := addr_any six A n c l W0 hA0 hn
    obtain ⟨M, hM⟩ : ∃ M : Nat, M = 8 * addrN six + 1 := ⟨_, rfl⟩
    obtain ⟨m, hm⟩ : ∃ m : Nat, (m : Int) = bits % M := ⟨(bits % M).toNat, by have : (0 : Int) < M := by omega
                                                                              have := Int.emod_nonneg bits (show (M : Int) ≠ 0 by omega); omega⟩
    have hmM : m < M := by have := Int.emod_lt_of_pos bits (show (0 : Int) < M by omega); omega
    have hmt : bits.tmod (M : Int) = m := by rw [Int.tmod_eq_emod_of_nonneg hb.1, hm]
    have hMl : M = 33 ∨ M = 129 := by rw [hM]; cases six <;> simp [addrN]
    have hMM : (8 : Int) * (addrN six : Int) + 1 = M := by omega
    have hmw : IntKind.i64.wrap (m : Int) = m := IntWalk.i64_in _ (by omega)
    have hm0 : ¬ (M : Int) = 0 := by omega
    have hsl : addrN six = 4 ∨ addrN six = 16 := by cases six <;> simp [addrN]
    have hTO := fun (s : ByteArray) (h : s.size = addrN six) => trigPfx_ok (kd := kd) (by rw [← htk]; exact hp) (l := s.data.toList) (m := m) (by rw [show s.data.toList.length = s.size by simp, h]; exact addrN_ok six) (by rw [show s.data.toList.length = s.size by simp, h]; omega)
    rw [← htk] at hTO
    have HMB := Lib.hid (show m ≤ 8 * addrN six by omega)
    have HAD := Lib.hid had
    have HTO := Lib.hid hTO
    have HC1 := Lib.hid hc1
    have HC2 := Lib.hid hc2
    have HB0 := Lib.hid hb0
    have HS0 := Lib.hid hs0
    have HW0 := Lib.hid hW0
    obtain ⟨Z, hZ⟩ : ∃ Z, Z = addrN six := ⟨_, rfl⟩
    rw [← hZ] at hMM hsl
    have HZ := Lib.hid hZ
    clear had hTO hc1 hc2 hb0 hs0 hW0 hZ hA0 hl hA hz hM hm htk hmM
    rcases hp with rfl | rfl | rfl
    · go_enter Tryz.func30, Tryz.ntmps30
      go_wp2_with (go_at_call 31; rw [← HW0.out]; refine HAD.out.mono ?_; rintro e w1 ⟨s, hs, rfl, hb1⟩; refine Hid.out ?_)
      refine Lib.hid ?_
      have HTS := Lib.hid (HTO.out s hs)
      have hcut := fun w h => pcut_yes s.data.toList m w (by rw [show s.data.toList.length = s.size by simp, hs]; exact addrN_ok six) h
      rw [ba_eta] at hcut
      have hcut := fun w => hcut w (by rw [show s.data.toList.length = s.size by simp, hs]; exact HMB.out)
      obtain ⟨CB, hCB⟩ : ∃ CB, CB = baL (cutL s.data.toList m) := ⟨_, rfl⟩
      rw [show (⟨(cutL s.data.toList m).toArray⟩ : ByteArray) = CB by rw [hCB]; rfl] at hcut
      have hsZ : s.size = Z := by rw [hs, HZ.out]
      have HCUT := Lib.hid hcut
      have HCB := Lib.hid hCB
      have HC11 := Lib.hid (HC1.out.below hb1)
      have HC21 := Lib.hid (HC2.out.below hb1)
      have HB1 := Lib.hid (HB0.out.trans (hb1.mono HB0.out.size))
      clear hcut hCB hs hb1
      go_wp2_with (go_at_call 38; refine (HCUT.out _).mono ?_; rintro e w2 ⟨rfl, hb2⟩; refine Hid.out ?_)
      refine Lib.hid ?_
      have hC1 := HC11.out.below hb2
      have hC2 := HC21.out.below hb2
      have HB2 := Lib.hid (HB1.out.trans (hb2.mono HB1.out.size))
      have k0 := hC1.get 0 (.int .i64 0)
      have k1 := hC1.get 1 (.string ⟨#[]⟩)
      have k2 := hC1.get 2 (.string ⟨#[]⟩)
      have k3 := hC1.get 3 (.int .i64 0)
      have kz0 := hC1.froz 0
      have kz1 := hC1.froz 1
      have kz2 := hC1.froz 2
      have kz3 := hC1.froz 3
      have l0 := hC2.get 0 (.int .i64 0)
      have l1 := hC2.get 1 (.string ⟨#[]⟩)
      have l2 := hC2.get 2 (.string ⟨#[]⟩)
      have l3 := hC2.get 3 (.int .i64 0)
      have lz0 := hC2.froz 0
      have lz1 := hC2.froz 1
      have lz2 := hC2.froz 2
      have lz3 := hC2.froz 3
      have HC1' := Lib.hid hC1
      clear hC1 hC2 hb2 HC11 HC21 HCUT HB1
      have hne : w.heap.size + 1 ≠ w.heap.size := by omega
      go_wp2_with fail
      refine bodyPost_ret (v := .agg #[.int .i64 0, .string ⟨#[]⟩, .string CB, .int .i64 m]) ?_ rfl ⟨_, ?_, HTS.out, ?_⟩
      · have hfin := Cs.all4 (((HC1'.out.other _ 2 (.string CB) hne).other _ 3 (.int .i64 m) hne)) (a' := .int .i64 0) (b' := .string ⟨#[]⟩) (c' := .string CB) (d' := .int .i64 m)
        have g0 := hfin.get 0 (.int .i64 0)
        have g1 := hfin.get 1 (.string ⟨#[]⟩)
        have g2 := hfin.get 2 (.string CB)
        have g3 := hfin.get 3 (.int .i64 m)
        generalize ((((((w2.setCell ⟨w.heap.size + 1, 2, none⟩ (.string CB)).setCell ⟨w.heap.size + 1, 3, none⟩ (.int .i64 m)).setCell ⟨w.heap.size, 0, none⟩ (.int .i64 0)).setCell ⟨w.heap.size, 1, none⟩ (.string ⟨#[]⟩)).setCell ⟨w.heap.size, 2, none⟩ (.string CB)).setCell ⟨w.heap.size, 3, none⟩ (.int .i64 m)) = WF at g0 g1 g2 g3 ⊢
        simp [results, Tryz.results30, go_sem, g0, g1, g2, g3]
      · rw [HCB.out]; rfl
      · exact below_all4 ((HB2.out.setCell (p := ⟨w.heap.size + 1, 2, none⟩) (by simp) (.string CB)).setCell (p := ⟨w.heap.size + 1, 3, none⟩) (by simp) (.int .i64 m)) (Nat.le_refl _)
    · go_enter Tryz.func30, Tryz.ntmps30
      go_wp2_with (go_at_call 31; rw [← HW0.out]; refine HAD.out.mono ?_; rintro e w1 ⟨s, hs, rfl, hb1⟩; refine Hid.out ?_)
      refine Lib.hid ?_
      have HTS := Lib.hid (HTO.out s hs)
      have hcut := fun w h => pcut_yes s.data.toList m w (by rw [show s.data.toList.length = s.size by simp, hs]; exact addrN_ok six) h
      rw [ba_eta] at hcut
      have hcut := fun w => hcut w (by rw [show s.data.toList.length = s.size by simp, hs]; exact HMB.out)
      obtain ⟨CB, hCB⟩ : ∃ CB, CB = baL (cutL s.data.toList m) := ⟨_, rfl⟩
      rw [show (⟨(cutL s.data.toList m).toArray⟩ : ByteArray) = CB by rw [hCB]; rfl] at hcut
      have hsZ : s.size = Z := by rw [hs, HZ.out]
      have HCUT := Lib.hid hcut
      have HCB := Lib.hid hCB
      have HC11 := Lib.hid (HC1.out.below hb1)
      have HC21 := Lib.hid (HC2.out.below hb1)
      have HB1 := Lib.hid (HB0.out.trans (hb1.mono HB0.out.size))
      clear hcut hCB hs hb1
      go_wp2_with (go_at_call 38; refine (HCUT.out _).mono ?_; rintro e w2 ⟨rfl, hb2⟩; refine Hid.out ?_)
      refine Lib.hid ?_
      have hC1 := HC11.out.below hb2
      have hC2 := HC21.out.below hb2
      have HB2 := Lib.hid (HB1.out.trans (hb2.mono HB1.out.size))
      have k0 := hC1.get 0 (.int .i64 0)
      have k1 := hC1.get 1 (.string ⟨#[]⟩)
      have k2 := hC1.get 2 (.string ⟨#[]⟩)
      have k3 := hC1.get 3 (.int .i64 0)
      have kz0 := hC1.froz 0
      have kz1 := hC1.froz 1
      have kz2 := hC1.froz 2
      have kz3 := hC1.froz 3
      have l0 := hC2.get 0 (.int .i64 3)
      have l1 := hC2.get 1 (.string ⟨#[]⟩)
      have l2 := hC2.get 2 (.string ⟨#[]⟩)
      have l3 := hC2.get 3 (.int .i64 0)
      have lz0 := hC2.froz 0
      have lz1 := hC2.froz 1
      have lz2 := hC2.froz 2
      have lz3 := hC2.froz 3
      have HC1' := Lib.hid hC1
      clear hC1 hC2 hb2 HC11 HC21 HCUT HB1
      have hne : w.heap.size + 1 ≠ w.heap.size := by omega
      go_wp2_with fail
      refine bodyPost_ret (v := .agg #[.int .i64 3, .string ⟨#[]⟩, .string CB, .int .i64 m]) ?_ rfl ⟨_, ?_, HTS.out, ?_⟩
      · have hfin := Cs.all4 (((HC1'.out.other _ 2 (.string CB) hne).other _ 3 (.int .i64 m) hne)) (a' := .int .i64 3) (b' := .string ⟨#[]⟩) (c' := .string CB) (d' := .int .i64 m)
        have g0 := hfin.get 0 (.int .i64 3)
        have g1 := hfin.get 1 (.string ⟨#[]⟩)
        have g2 := hfin.get 2 (.string CB)
        have g3 := hfin.get 3 (.int .i64 m)
        generalize ((((((w2.setCell ⟨w.heap.size + 1, 2, none⟩ (.string CB)).setCell ⟨w.heap.size + 1, 3, none⟩ (.int .i64 m)).setCell ⟨w.heap.size, 0, none⟩ (.int .i64 3)).setCell ⟨w.heap.size, 1, none⟩ (.string ⟨#[]⟩)).setCell ⟨w.heap.size, 2, none⟩ (.string CB)).setCell ⟨w.heap.size, 3, none⟩ (.int .i64 m)) = WF at g0 g1 g2 g3 ⊢
        simp [results, Tryz.results30, go_sem, g0, g1, g2, g3]
      · rw [HCB.out]; rfl
      · exact below_all4 ((HB2.out.setCell (p := ⟨w.heap.size + 1, 2, none⟩) (by simp) (.string CB)).setCell (p := ⟨w.heap.size + 1, 3, none⟩) (by simp) (.int .i64 m)) (Nat.le_refl _)
    · go_enter Tryz.func30, Tryz.ntmps30
      go_wp2_with (go_at_call 31; rw [← HW0.out]; refine HAD.out.mono ?_; rintro e w1 ⟨s, hs, rfl, hb1⟩; refine Hid.out ?_)
      refine Lib.hid ?_
      have HTS := Lib.hid (HTO.out s hs)
      have hcut := fun w h => pcut_yes s.data.toList m w (by rw [show s.data.toList.length = s.size by simp, hs]; exact addrN_ok six) h
      rw [ba_eta] at hcut
      have hcut := fun w => hcut w (by rw [show s.data.toList.length = s.size by simp, hs]; exact HMB.out)
      obtain ⟨CB, hCB⟩ : ∃ CB, CB = baL (cutL s.data.toList m) := ⟨_, rfl⟩
      rw [show (⟨(cutL s.data.toList m).toArray⟩ : ByteArray) = CB by rw [hCB]; rfl] at hcut
      have hsZ : s.size = Z := by rw [hs, HZ.out]
      have HCUT := Lib.hid hcut
      have HCB := Lib.hid hCB
      have HC11 := Lib.hid (HC1.out.below hb1)
      have HC21 := Lib.hid (HC2.out.below hb1)
      have HB1 := Lib.hid (HB0.out.trans (hb1.mono HB0.out.size))
      clear hcut hCB hs hb1
      go_wp2_with (go_at_call 38; refine (HCUT.out _).mono ?_; rintro e w2 ⟨rfl, hb2⟩; refine Hid.out ?_)
      refine Lib.hid ?_
      have hC1 := HC11.out.below hb2
      have hC2 := HC21.out.below hb2
      have HB2 := Lib.hid (HB1.out.trans (hb2.mono HB1.out.size))
      have k0 := hC1.get 0 (.int .i64 0)
      have k1 := hC1.get 1 (.string ⟨#[]⟩)
      have k2 := hC1.get 2 (.string ⟨#[]⟩)
      have k3 := hC1.get 3 (.int .i64 0)
      have kz0 := hC1.froz 0
      have kz1 := hC1.froz 1
      have kz2 := hC1.froz 2
      have kz3 := hC1.froz 3
      have l0 := hC2.get 0 (.int .i64 6)
      have l1 := hC2.get 1 (.string ⟨#[]⟩)
      have l2 := hC2.get 2 (.string ⟨#[]⟩)
      have l3 := hC2.get 3 (.int .i64 0)
      have lz0 := hC2.froz 0
      have lz1 := hC2.froz 1
      have lz2 := hC2.froz 2
      have lz3 := hC2.froz 3
      have HC1' := Lib.hid hC1
      clear hC1 hC2 hb2 HC11 HC21 HCUT HB1
      have hne : w.heap.size + 1 ≠ w.heap.size := by omega
      go_wp2_with fail
      refine bodyPost_ret (v := .agg #[.int .i64 6, .string ⟨#[]⟩, .string CB, .int .i64 m]) ?_ rfl ⟨_, ?_, HTS.out, ?_⟩
      · have hfin := Cs.all4 (((HC1'.out.other _ 2 (.string CB) hne).other _ 3 (.int .i64 m) hne)) (a' := .int .i64 6) (b' := .string ⟨#[]⟩) (c' := .string CB) (d' := .int .i64 m)
        have g0 := hfin.get 0 (.int .i64 6)
        have g1 := hfin.get 1 (.string ⟨#[]⟩)
        have g2 := hfin.get 2 (.string CB)
        have g3 := hfin.get 3 (.int .i64 m)
        generalize ((((((w2.setCell ⟨w.heap.size + 1, 2, none⟩ (.string CB)).setCell ⟨w.heap.size + 1, 3, none⟩ (.int .i64 m)).setCell ⟨w.heap.size, 0, none⟩ (.int .i64 6)).setCell ⟨w.heap.size, 1, none⟩ (.string ⟨#[]⟩)).setCell ⟨w.heap.size, 2, none⟩ (.string CB)).setCell ⟨w.heap.size, 3, none⟩ (.int .i64 m)) = WF at g0 g1 g2 g3 ⊢
        simp [results, Tryz.results30, go_sem, g0, g1, g2, g3]
      · rw [HCB.out]; rfl
      · exact below_all4 ((HB2.out.setCell (p := ⟨w.heap.size + 1, 2, none⟩) (by simp) (.string CB)).setCell (p := ⟨w.heap.size + 1, 3, none⟩) (by simp) (.int .i64 m)) (Nat.le_refl _)
  · have e0 : (tk == 0) = false := by rw [beq_eq_false_iff_ne]; omega
    have e3 : (tk == 3) = false := by rw [beq_eq_false_iff_ne]; omega
    have e6 : (tk == 6) = false := by rw [beq_eq_false_iff_ne]; omega
    have hTO := fun (X : List (List UInt8)) (h : FewX X) => trigNam_ok hkd.1 (by rw [← htk]; exact hp) h
    rw [← htk] at hTO
    have HTO := Lib.hid hTO
    have HC1 := Lib.hid hc1
    have HC2 := Lib.hid hc2
    have HB0 := Lib.hid hb0
    have HS0 := Lib.hid hs0
    have HW0 := Lib.hid hW0
    have HA0 := Lib.hid hA0
    have HZ := Lib.hid hz
    have hzl : zs.length = n := by simpa using hA0.1
    have HZL := Lib.hid hzl
    have ht4 : tk = 1 ∨ tk = 2 ∨ tk = 4 ∨ tk = 5 := by omega
    have HT4 := Lib.hid ht4
    clear hTO hc1 hc2 hb0 hs0 hW0 hA0 hz hA hzl ht4 hp htk
    go_enter Tryz.func30, Tryz.ntmps30
    go_upto_region 5 with fail
    rw [← HW0.out]
    go_loopw [11, 22] (fun v i wr => ∃ (k : Nat) (X : List (List UInt8)), k ≤ n ∧ i = .int .i64 k ∧ Hid (FewX X) ∧ Buf W0.heap.size 9 W0 v X.length (X.map sv) wr) (fun _ i _ => n - (intOf i).toNat)
    case atStart => exact ⟨0, [], Nat.zero_le _, rfl, Lib.hid ⟨fun x h => by (cases h), by simp⟩, Buf.start _ _⟩
    case round =>
      obtain ⟨k, X, hk, rfl, HFX, hb⟩ := hrel
      have hXl := HFX.out.len
      obtain ⟨D, cd, rfl, hd1, hd2, hd3⟩ := hb.slice
      by_cases hlt : k < n
      · have hlt' : (k : Int) < n := by omega
        obtain ⟨b, off, u, rfl, hbb, hu, hc⟩ := (HA0.out.below hb.below).at_ hlt
        have hkl : k < zs.length := by rw [HZL.out]; exact hlt
        have hcell : wr.cell? ⟨b, off + k, none⟩ = some (.int .u8 zs[k]) := by
          rw [hc]
          simp only [List.getElem?_map, List.getElem?_eq_getElem hkl, Option.map_some] at hu
          exact hu.symm
        have hzk := HZ.out zs[k] (List.getElem_mem hkl)
        generalize zs[k] = z at *
        obtain ⟨z0, z1⟩ := hzk
        clear hc hu hd3
        by_cases h5 : X.length < 5
        · have h5i : (X.length : Int) < 5 := by omega
          have a1 : 0 ≤ z % 5 := by omega
          have a2 : z % 5 < 5 := by omega
          obtain ⟨l5, hl5, hcl5⟩ := five_cell wr z z0 9
          obtain ⟨S5, hS5⟩ : ∃ S, S = baL l5 := ⟨_, rfl⟩
          rw [← hS5] at hcl5
          have HFN : Hid (FewX (X ++ [l5])) := Lib.hid ⟨by
            intro x hx
            simp only [List.mem_append, List.mem_cons, List.not_mem_nil, or_false] at hx
            rcases hx with hx | rfl
            · exact HFX.out.mem x hx
            · exact hl5, by simp; omega⟩
          have hmap : (X ++ [l5]).map sv = X.map sv ++ [.string S5] := by rw [List.map_append, hS5]; rfl
          have HM := Lib.hid hmap
          have hb1 := hb.alloc (.cells #[.string ⟨#[97]⟩, .string ⟨#[98]⟩, .string ⟨#[119, 119, 119]⟩, .string ⟨#[101, 120]⟩, .string ⟨#[111, 114, 103]⟩] 9)
          clear hmap hS5 hl5
          go_wp2_with (at_builtin; go_loud (refine wpList_append_one rfl _ _ 63 rfl W0.heap.size 9 i0 _ 16 Tryz.underlying63 hi hz0 hz1 hz2 rfl hb1 rfl ?hx rfl ?c1 ?c2 ?_))
          case hx => exact congrArg (fun q => Value.slice (some ⟨q, 0, none⟩) 1 1) (by simp)
          case c1 => unfold maxLen; omega
          case c2 => omega
          intro v' w2 hb2
          have HB2 := Lib.hid hb2
          clear hb2 hb1
          go_wp2
          go_roundw
          case rel => exact ⟨k + 1, X ++ [l5], by omega, by go_num, HFN, by rw [HM.out, List.length_append]; exact HB2.out⟩
          case measure => simp [intOf]; omega
        · have h5i : ¬ (X.length : Int) < 5 := by omega
          go_wp2_with fail
          go_roundw
          case rel => exact ⟨k + 1, X, by omega, by go_num, HFX, hb⟩
          case measure => simp [intOf]; omega
      · have hlt' : ¬ (k : Int) < n := by omega
        have HC1w := Lib.hid (HC1.out.below hb.below)
        have HC2w := Lib.hid (HC2.out.below hb.below)
        have HBw := Lib.hid (HB0.out.trans (hb.below.mono HB0.out.size))
        have hq0 := HC2w.out.get 0 (.int .i64 tk)
        have HSLX := Lib.hid hb.sl
        clear hb hd3 HC1 HC2 HB0 HA0 HZ HZL HW0 HS0
        by_cases hsp : X = [] ∧ (tk = 1 ∨ tk = 4)
        · obtain ⟨hX0, ht⟩ := hsp
          have hxl : ((X.length : Int) == 0) = true := by rw [hX0]; rfl
          have hA5 : FewX [[97]] := ⟨by decide, by decide⟩
          have HTS := Lib.hid (HTO.out [[97]] hA5 (fun _ => by simp))
          obtain ⟨NM, hNM⟩ : ∃ N, N = baL ((makeL [[97]]).getD []) := ⟨_, rfl⟩
          have hmk := fun A c w h => makeX_any A 1 c [[97]] w h (fun x hx => by have := (five_ok x (hA5.mem x hx)).2.2.2; unfold maxLen; omega) (by unfold maxLen; decide)
          rw [show sv ((makeL [[97]]).getD []) = .string NM by rw [hNM]; rfl] at hmk
          have HMK := Lib.hid hmk
          have HNM := Lib.hid hNM
          clear hmk hNM
          have HCM := Lib.hid (HC1w.out.alloc (.cells #[.string ⟨#[97]⟩] 9))
          have HCN := Lib.hid (HC2w.out.alloc (.cells #[.string ⟨#[97]⟩] 9))
          have HBM := Lib.hid (HBw.out.alloc HBw.out.size (.cells #[.string ⟨#[97]⟩] 9))
          have HSLM := Lib.hid (Sl.fresh wr #[.string ⟨#[97]⟩] 9 1 _ rfl rfl)
          clear HTO HT4 e0 e3 e6 hX0 HSLX HFX hXl
          rcases ht with rfl | rfl
          · go_wp2_with (go_at_call 39; refine (HMK.out _ _ _ HSLM.out).mono ?_; rintro e w5 ⟨rfl, hb5⟩; refine Hid.out ?_)
            refine Lib.hid ?_
            have HC5 := Lib.hid (HCM.out.below hb5)
            have hC2 := HCN.out.below hb5
            have HB5 := Lib.hid (HBM.out.trans (hb5.mono HBM.out.size))
            have k0 := HC5.out.get 0 (.int .i64 0)
            have k1 := HC5.out.get 1 (.string ⟨#[]⟩)
            have k2 := HC5.out.get 2 (.string ⟨#[]⟩)
            have k3 := HC5.out.get 3 (.int .i64 0)
            have kz0 := HC5.out.froz 0
            have kz1 := HC5.out.froz 1
            have kz2 := HC5.out.froz 2
            have kz3 := HC5.out.froz 3
            have l0 := hC2.get 0 (.int .i64 1)
            have l1 := hC2.get 1 (.string ⟨#[]⟩)
            have l2 := hC2.get 2 (.string ⟨#[]⟩)
            have l3 := hC2.get 3 (.int .i64 0)
            have lz1 := hC2.froz 1
            clear hb5 hC2 hq0 HMK
            go_wp2_with fail
            have hne : w.heap.size + 1 ≠ w.heap.size := by omega
            refine bodyPost_ret (v := .agg #[.int .i64 1, .string NM, .string ⟨#[]⟩, .int .i64 0]) ?_ rfl ⟨_, ?_, HTS.out, ?_⟩
            · have hfin := Cs.all4 ((HC5.out.other _ 1 (.string NM) hne)) (a' := .int .i64 1) (b' := .string NM) (c' := .string ⟨#[]⟩) (d' := .int .i64 0)
              have g0 := hfin.get 0 (.int .i64 1)
              have g1 := hfin.get 1 (.string NM)
              have g2 := hfin.get 2 (.string ⟨#[]⟩)
              have g3 := hfin.get 3 (.int .i64 0)
              generalize (((((w5.setCell ⟨w.heap.size + 1, 1, none⟩ (.string NM)).setCell ⟨w.heap.size, 0, none⟩ (.int .i64 1)).setCell ⟨w.heap.size, 1, none⟩ (.string NM)).setCell ⟨w.heap.size, 2, none⟩ (.string ⟨#[]⟩)).setCell ⟨w.heap.size, 3, none⟩ (.int .i64 0)) = WF at g0 g1 g2 g3 ⊢
              simp [results, Tryz.results30, go_sem, g0, g1, g2, g3]
            · rw [HNM.out]; rfl
            · exact below_all4 (HB5.out.setCell (p := ⟨w.heap.size + 1, 1, none⟩) (by simp) (.string NM)) (Nat.le_refl _)
          · go_wp2_with (go_at_call 39; refine (HMK.out _ _ _ HSLM.out).mono ?_; rintro e w5 ⟨rfl, hb5⟩; refine Hid.out ?_)
            refine Lib.hid ?_
            have HC5 := Lib.hid (HCM.out.below hb5)
            have hC2 := HCN.out.below hb5
            have HB5 := Lib.hid (HBM.out.trans (hb5.mono HBM.out.size))
            have k0 := HC5.out.get 0 (.int .i64 0)
            have k1 := HC5.out.get 1 (.string ⟨#[]⟩)
            have k2 := HC5.out.get 2 (.string ⟨#[]⟩)
            have k3 := HC5.out.get 3 (.int .i64 0)
            have kz0 := HC5.out.froz 0
            have kz1 := HC5.out.froz 1
            have kz2 := HC5.out.froz 2
            have kz3 := HC5.out.froz 3
            have l0 := hC2.get 0 (.int .i64 4)
            have l1 := hC2.get 1 (.string ⟨#[]⟩)
            have l2 := hC2.get 2 (.string ⟨#[]⟩)
            have l3 := hC2.get 3 (.int .i64 0)
            have lz1 := hC2.froz 1
            clear hb5 hC2 hq0 HMK
            go_wp2_with fail
            have hne : w.heap.size + 1 ≠ w.heap.size := by omega
            refine bodyPost_ret (v := .agg #[.int .i64 4, .string NM, .string ⟨#[]⟩, .int .i64 0]) ?_ rfl ⟨_, ?_, HTS.out, ?_⟩
            · have hfin := Cs.all4 ((HC5.out.other _ 1 (.string NM) hne)) (a' := .int .i64 4) (b' := .string NM) (c' := .string ⟨#[]⟩) (d' := .int .i64 0)
              have g0 := hfin.get 0 (.int .i64 4)
              have g1 := hfin.get 1 (.string NM)
              have g2 := hfin.get 2 (.string ⟨#[]⟩)
              have g3 := hfin.get 3 (.int .i64 0)
              generalize (((((w5.setCell ⟨w.heap.size + 1, 1, none⟩ (.string NM)).setCell ⟨w.heap.size, 0, none⟩ (.int .i64 4)).setCell ⟨w.heap.size, 1, none⟩ (.string NM)).setCell ⟨w.heap.size, 2, none⟩ (.string ⟨#[]⟩)).setCell ⟨w.heap.size, 3, none⟩ (.int .i64 0)) = WF at g0 g1 g2 g3 ⊢
              simp [results, Tryz.results30, go_sem, g0, g1, g2, g3]
            · rw [HNM.out]; rfl
            · exact below_all4 (HB5.out.setCell (p := ⟨w.heap.size + 1, 1, none⟩) (by simp) (.string NM)) (Nat.le_refl _)
        · have hnsp : X ≠ [] ∨ (tk = 2 ∨ tk = 5) := by
            have := HT4.out
            by_cases hX0 : X = []
            · right; rcases this with h | h | h | h
              · exact absurd ⟨hX0, .inl h⟩ hsp
              · exact .inl h
              · exact absurd ⟨hX0, .inr h⟩ hsp
              · exact .inr h
            · exact .inl hX0
          have HTS := Lib.hid (HTO.out X HFX.out (fun h hX0 => hsp ⟨hX0, h⟩))
          obtain ⟨NM, hNM⟩ : ∃ N, N = baL ((makeL X).getD []) := ⟨_, rfl⟩
          have hmk := fun A c w h => makeX_any A X.length c X w h (fun x hx => by have := (five_ok x (HFX.out.mem x hx)).2.2.2; unfold maxLen; omega) (by unfold maxLen; have := HFX.out.len; omega)
          rw [show sv ((makeL X).getD []) = .string NM by rw [hNM]; rfl] at hmk
          have HMK := Lib.hid hmk
          have HNM := Lib.hid hNM
          clear hmk hNM
          have HCM := HC1w
          have HCN := HC2w
          have HBM := HBw
          have ht := HT4.out
          clear HTO HT4 e0 e3 e6 hsp
          rcases hnsp with hX0 | hk25
          · have hxl : ((X.length : Int) == 0) = false := by
              have := List.length_pos_iff.2 hX0
              rw [beq_eq_false_iff_ne]; omega
            clear hX0
            rcases ht with rfl | rfl | rfl | rfl
            · go_wp2_with (go_at_call 39; refine (HMK.out _ _ _ HSLX.out).mono ?_; rintro e w5 ⟨rfl, hb5⟩; refine Hid.out ?_)
              refine Lib.hid ?_
              have HC5 := Lib.hid (HCM.out.below hb5)
              have hC2 := HCN.out.below hb5
              have HB5 := Lib.hid (HBM.out.trans (hb5.mono HBM.out.size))
              have k0 := HC5.out.get 0 (.int .i64 0)
              have k1 := HC5.out.get 1 (.string ⟨#[]⟩)
              have k2 := HC5.out.get 2 (.string ⟨#[]⟩)
              have k3 := HC5.out.get 3 (.int .i64 0)
              have kz0 := HC5.out.froz 0
              have kz1 := HC5.out.froz 1
              have kz2 := HC5.out.froz 2
              have kz3 := HC5.out.froz 3
              have l0 := hC2.get 0 (.int .i64 1)
              have l1 := hC2.get 1 (.string ⟨#[]⟩)
              have l2 := hC2.get 2 (.string ⟨#[]⟩)
              have l3 := hC2.get 3 (.int .i64 0)
              have lz1 := hC2.froz 1
              clear hb5 hC2 hq0 HMK
              go_wp2_with fail
              have hne : w.heap.size + 1 ≠ w.heap.size := by omega
              refine bodyPost_ret (v := .agg #[.int .i64 1, .string NM, .string ⟨#[]⟩, .int .i64 0]) ?_ rfl ⟨_, ?_, HTS.out, ?_⟩
              · have hfin := Cs.all4 ((HC5.out.other _ 1 (.string NM) hne)) (a' := .int .i64 1) (b' := .string NM) (c' := .string ⟨#[]⟩) (d' := .int .i64 0)
                have g0 := hfin.get 0 (.int .i64 1)
                have g1 := hfin.get 1 (.string NM)
                have g2 := hfin.get 2 (.string ⟨#[]⟩)
                have g3 := hfin.get 3 (.int .i64 0)
                generalize (((((w5.setCell ⟨w.heap.size + 1, 1, none⟩ (.string NM)).setCell ⟨w.heap.size, 0, none⟩ (.int .i64 1)).setCell ⟨w.heap.size, 1, none⟩ (.string NM)).setCell ⟨w.heap.size, 2, none⟩ (.string ⟨#[]⟩)).setCell ⟨w.heap.size, 3, none⟩ (.int .i64 0)) = WF at g0 g1 g2 g3 ⊢
                simp [results, Tryz.results30, go_sem, g0, g1, g2, g3]
              · rw [HNM.out]; rfl
              · exact below_all4 (HB5.out.setCell (p := ⟨w.heap.size + 1, 1, none⟩) (by simp) (.string NM)) (Nat.le_refl _)
            · go_wp2_with (go_at_call 39; refine (HMK.out _ _ _ HSLX.out).mono ?_; rintro e w5 ⟨rfl, hb5⟩; refine Hid.out ?_)
              refine Lib.hid ?_
              have HC5 := Lib.hid (HCM.out.below hb5)
              have hC2 := HCN.out.below hb5
              have HB5 := Lib.hid (HBM.out.trans (hb5.mono HBM.out.size))
              have k0 := HC5.out.get 0 (.int .i64 0)
              have k1 := HC5.out.get 1 (.string ⟨#[]⟩)
              have k2 := HC5.out.get 2 (.string ⟨#[]⟩)
              have k3 := HC5.out.get 3 (.int .i64 0)
              have kz0 := HC5.out.froz 0
              have kz1 := HC5.out.froz 1
              have kz2 := HC5.out.froz 2
              have kz3 := HC5.out.froz 3
              have l0 := hC2.get 0 (.int .i64 2)
              have l1 := hC2.get 1 (.string ⟨#[]⟩)
              have l2 := hC2.get 2 (.string ⟨#[]⟩)
              have l3 := hC2.get 3 (.int .i64 0)
              have lz1 := hC2.froz 1
              clear hb5 hC2 hq0 HMK
              go_wp2_with fail
              have hne : w.heap.size + 1 ≠ w.heap.size := by omega
              refine bodyPost_ret (v := .agg #[.int .i64 2, .string NM, .string ⟨#[]⟩, .int .i64 0]) ?_ rfl ⟨_, ?_, HTS.out, ?_⟩
              · have hfin := Cs.all4 ((HC5.out.other _ 1 (.string NM) hne)) (a' := .int .i64 2) (b' := .string NM) (c' := .string ⟨#[]⟩) (d' := .int .i64 0)
                have g0 := hfin.get 0 (.int .i64 2)
                have g1 := hfin.get 1 (.string NM)
                have g2 := hfin.get 2 (.string ⟨#[]⟩)
                have g3 := hfin.get 3 (.int .i64 0)
                generalize (((((w5.setCell ⟨w.heap.size + 1, 1, none⟩ (.string NM)).setCell ⟨w.heap.size, 0, none⟩ (.int .i64 2)).setCell ⟨w.heap.size, 1, none⟩ (.string NM)).setCell ⟨w.heap.size, 2, none⟩ (.string ⟨#[]⟩)).setCell ⟨w.heap.size, 3, none⟩ (.int .i64 0)) = WF at g0 g1 g2 g3 ⊢
                simp [results, Tryz.results30, go_sem, g0, g1, g2, g3]
              · rw [HNM.out]; rfl
              · exact below_all4 (HB5.out.setCell (p := ⟨w.heap.size + 1, 1, none⟩) (by simp) (.string NM)) (Nat.le_refl _)
            · go_wp2_with (go_at_call 39; refine (HMK.out _ _ _ HSLX.out).mono ?_; rintro e w5 ⟨rfl, hb5⟩; refine Hid.out ?_)
              refine Lib.hid ?_
              have HC5 := Lib.hid (HCM.out.below hb5)
              have hC2 := HCN.out.below hb5
              have HB5 := Lib.hid (HBM.out.trans (hb5.mono HBM.out.size))
              have k0 := HC5.out.get 0 (.int .i64 0)
              have k1 := HC5.out.get 1 (.string ⟨#[]⟩)
              have k2 := HC5.out.get 2 (.string ⟨#[]⟩)
              have k3 := HC5.out.get 3 (.int .i64 0)
              have kz0 := HC5.out.froz 0
              have kz1 := HC5.out.froz 1
              have kz2 := HC5.out.froz 2
              have kz3 := HC5.out.froz 3
              have l0 := hC2.get 0 (.int .i64 4)
              have l1 := hC2.get 1 (.string ⟨#[]⟩)
              have l2 := hC2.get 2 (.string ⟨#[]⟩)
              have l3 := hC2.get 3 (.int .i64 0)
              have lz1 := hC2.froz 1
              clear hb5 hC2 hq0 HMK
              go_wp2_with fail
              have hne : w.heap.size + 1 ≠ w.heap.size := by omega
              refine bodyPost_ret (v := .agg #[.int .i64 4, .string NM, .string ⟨#[]⟩, .int .i64 0]) ?_ rfl ⟨_, ?_, HTS.out, ?_⟩
              · have hfin := Cs.all4 ((HC5.out.other _ 1 (.string NM) hne)) (a' := .int .i64 4) (b' := .string NM) (c' := .string ⟨#[]⟩) (d' := .int .i64 0)
                have g0 := hfin.get 0 (.int .i64 4)
                have g1 := hfin.get 1 (.string NM)
                have g2 := hfin.get 2 (.string ⟨#[]⟩)
                have g3 := hfin.get 3 (.int .i64 0)
                generalize (((((w5.setCell ⟨w.heap.size + 1, 1, none⟩ (.string NM)).setCell ⟨w.heap.size, 0, none⟩ (.int .i64 4)).setCell ⟨w.heap.size, 1, none⟩ (.string NM)).setCell ⟨w.heap.size, 2, none⟩ (.string ⟨#[]⟩)).setCell ⟨w.heap.size, 3, none⟩ (.int .i64 0)) = WF at g0 g1 g2 g3 ⊢
                simp [results, Tryz.results30, go_sem, g0, g1, g2, g3]
              · rw [HNM.out]; rfl
              · exact below_all4 (HB5.out.setCell (p := ⟨w.heap.size + 1, 1, none⟩) (by simp) (.string NM)) (Nat.le_refl _)
            · go_wp2_with (go_at_call 39; refine (HMK.out _ _ _ HSLX.out).mono ?_; rintro e w5 ⟨rfl, hb5⟩; refine Hid.out ?_)
              refine Lib.hid ?_
              have HC5 := Lib.hid (HCM.out.below hb5)
              have hC2 := HCN.out.below hb5
              have HB5 := Lib.hid (HBM.out.trans (hb5.mono HBM.out.size))
              have k0 := HC5.out.get 0 (.int .i64 0)
              have k1 := HC5.out.get 1 (.string ⟨#[]⟩)
              have k2 := HC5.out.get 2 (.string ⟨#[]⟩)
              have k3 := HC5.out.get 3 (.int .i64 0)
              have kz0 := HC5.out.froz 0
              have kz1 := HC5.out.froz 1
              have kz2 := HC5.out.froz 2
              have kz3 := HC5.out.froz 3
              have l0 := hC2.get 0 (.int .i64 5)
              have l1 := hC2.get 1 (.string ⟨#[]⟩)
              have l2 := hC2.get 2 (.string ⟨#[]⟩)
              have l3 := hC2.get 3 (.int .i64 0)
              have lz1 := hC2.froz 1
              clear hb5 hC2 hq0 HMK
              go_wp2_with fail
              have hne : w.heap.size + 1 ≠ w.heap.size := by omega
              refine bodyPost_ret (v := .agg #[.int .i64 5, .string NM, .string ⟨#[]⟩, .int .i64 0]) ?_ rfl ⟨_, ?_, HTS.out, ?_⟩
              · have hfin := Cs.all4 ((HC5.out.other _ 1 (.string NM) hne)) (a' := .int .i64 5) (b' := .string NM) (c' := .string ⟨#[]⟩) (d' := .int .i64 0)
                have g0 := hfin.get 0 (.int .i64 5)
                have g1 := hfin.get 1 (.string NM)
                have g2 := hfin.get 2 (.string ⟨#[]⟩)
                have g3 := hfin.get 3 (.int .i64 0)
                generalize (((((w5.setCell ⟨w.heap.size + 1, 1, none⟩ (.string NM)).setCell ⟨w.heap.size, 0, none⟩ (.int .i64 5)).setCell ⟨w.heap.size, 1, none⟩ (.string NM)).setCell ⟨w.heap.size, 2, none⟩ (.string ⟨#[]⟩)).setCell ⟨w.heap.size, 3, none⟩ (.int .i64 0)) = WF at g0 g1 g2 g3 ⊢
                simp [results, Tryz.results30, go_sem, g0, g1, g2, g3]
              · rw [HNM.out]; rfl
              · exact below_all4 (HB5.out.setCell (p := ⟨w.heap.size + 1, 1, none⟩) (by simp) (.string NM)) (Nat.le_refl _)
          · clear ht
            cases hxl : ((X.length : Int) == 0) with
            | true =>
              rcases hk25 with rfl | rfl
              · go_wp2_with (go_at_call 39; refine (HMK.out _ _ _ HSLX.out).mono ?_; rintro e w5 ⟨rfl, hb5⟩; refine Hid.out ?_)
                refine Lib.hid ?_
                have HC5 := Lib.hid (HCM.out.below hb5)
                have hC2 := HCN.out.below hb5
                have HB5 := Lib.hid (HBM.out.trans (hb5.mono HBM.out.size))
                have k0 := HC5.out.get 0 (.int .i64 0)
                have k1 := HC5.out.get 1 (.string ⟨#[]⟩)
                have k2 := HC5.out.get 2 (.string ⟨#[]⟩)
                have k3 := HC5.out.get 3 (.int .i64 0)
                have kz0 := HC5.out.froz 0
                have kz1 := HC5.out.froz 1
                have kz2 := HC5.out.froz 2
                have kz3 := HC5.out.froz 3
                have l0 := hC2.get 0 (.int .i64 2)
                have l1 := hC2.get 1 (.string ⟨#[]⟩)
                have l2 := hC2.get 2 (.string ⟨#[]⟩)
                have l3 := hC2.get 3 (.int .i64 0)
                have lz1 := hC2.froz 1
                clear hb5 hC2 hq0 HMK
                go_wp2_with fail
                have hne : w.heap.size + 1 ≠ w.heap.size := by omega
                refine bodyPost_ret (v := .agg #[.int .i64 2, .string NM, .string ⟨#[]⟩, .int .i64 0]) ?_ rfl ⟨_, ?_, HTS.out, ?_⟩
                · have hfin := Cs.all4 ((HC5.out.other _ 1 (.string NM) hne)) (a' := .int .i64 2) (b' := .string NM) (c' := .string ⟨#[]⟩) (d' := .int .i64 0)
                  have g0 := hfin.get 0 (.int .i64 2)
                  have g1 := hfin.get 1 (.string NM)
                  have g2 := hfin.get 2 (.string ⟨#[]⟩)
                  have g3 := hfin.get 3 (.int .i64 0)
                  generalize (((((w5.setCell ⟨w.heap.size + 1, 1, none⟩ (.string NM)).setCell ⟨w.heap.size, 0, none⟩ (.int .i64 2)).setCell ⟨w.heap.size, 1, none⟩ (.string NM)).setCell ⟨w.heap.size, 2, none⟩ (.string ⟨#[]⟩)).setCell ⟨w.heap.size, 3, none⟩ (.int .i64 0)) = WF at g0 g1 g2 g3 ⊢
                  simp [results, Tryz.results30, go_sem, g0, g1, g2, g3]
                · rw [HNM.out]; rfl
                · exact below_all4 (HB5.out.setCell (p := ⟨w.heap.size + 1, 1, none⟩) (by simp) (.string NM)) (Nat.le_refl _)
              · go_wp2_with (go_at_call 39; refine (HMK.out _ _ _ HSLX.out).mono ?_; rintro e w5 ⟨rfl, hb5⟩; refine Hid.out ?_)
                refine Lib.hid ?_
                have HC5 := Lib.hid (HCM.out.below hb5)
                have hC2 := HCN.out.below hb5
                have HB5 := Lib.hid (HBM.out.trans (hb5.mono HBM.out.size))
                have k0 := HC5.out.get 0 (.int .i64 0)
                have k1 := HC5.out.get 1 (.string ⟨#[]⟩)
                have k2 := HC5.out.get 2 (.string ⟨#[]⟩)
                have k3 := HC5.out.get 3 (.int .i64 0)
                have kz0 := HC5.out.froz 0
                have kz1 := HC5.out.froz 1
                have kz2 := HC5.out.froz 2
                have kz3 := HC5.out.froz 3
                have l0 := hC2.get 0 (.int .i64 5)
                have l1 := hC2.get 1 (.string ⟨#[]⟩)
                have l2 := hC2.get 2 (.string ⟨#[]⟩)
                have l3 := hC2.get 3 (.int .i64 0)
                have lz1 := hC2.froz 1
                clear hb5 hC2 hq0 HMK
                go_wp2_with fail
                have hne : w.heap.size + 1 ≠ w.heap.size := by omega
                refine bodyPost_ret (v := .agg #[.int .i64 5, .string NM, .string ⟨#[]⟩, .int .i64 0]) ?_ rfl ⟨_, ?_, HTS.out, ?_⟩
                · have hfin := Cs.all4 ((HC5.out.other _ 1 (.string NM) hne)) (a' := .int .i64 5) (b' := .string NM) (c' := .string ⟨#[]⟩) (d' := .int .i64 0)
                  have g0 := hfin.get 0 (.int .i64 5)
                  have g1 := hfin.get 1 (.string NM)
                  have g2 := hfin.get 2 (.string ⟨#[]⟩)
                  have g3 := hfin.get 3 (.int .i64 0)
                  generalize (((((w5.setCell ⟨w.heap.size + 1, 1, none⟩ (.string NM)).setCell ⟨w.heap.size, 0, none⟩ (.int .i64 5)).setCell ⟨w.heap.size, 1, none⟩ (.string NM)).setCell ⟨w.heap.size, 2, none⟩ (.string ⟨#[]⟩)).setCell ⟨w.heap.size, 3, none⟩ (.int .i64 0)) = WF at g0 g1 g2 g3 ⊢
                  simp [results, Tryz.results30, go_sem, g0, g1, g2, g3]
                · rw [HNM.out]; rfl
                · exact below_all4 (HB5.out.setCell (p := ⟨w.heap.size + 1, 1, none⟩) (by simp) (.string NM)) (Nat.le_refl _)
            | false =>
              rcases hk25 with rfl | rfl
              · go_wp2_with (go_at_call 39; refine (HMK.out _ _ _ HSLX.out).mono ?_; rintro e w5 ⟨rfl, hb5⟩; refine Hid.out ?_)
                refine Lib.hid ?_
                have HC5 := Lib.hid (HCM.out.below hb5)
                have hC2 := HCN.out.below hb5
                have HB5 := Lib.hid (HBM.out.trans (hb5.mono HBM.out.size))
                have k0 := HC5.out.get 0 (.int .i64 0)
                have k1 := HC5.out.get 1 (.string ⟨#[]⟩)
                have k2 := HC5.out.get 2 (.string ⟨#[]⟩)
                have k3 := HC5.out.get 3 (.int .i64 0)
                have kz0 := HC5.out.froz 0
                have kz1 := HC5.out.froz 1
                have kz2 := HC5.out.froz 2
                have kz3 := HC5.out.froz 3
                have l0 := hC2.get 0 (.int .i64 2)
                have l1 := hC2.get 1 (.string ⟨#[]⟩)
                have l2 := hC2.get 2 (.string ⟨#[]⟩)
                have l3 := hC2.get 3 (.int .i64 0)
                have lz1 := hC2.froz 1
                clear hb5 hC2 hq0 HMK
                go_wp2_with fail
                have hne : w.heap.size + 1 ≠ w.heap.size := by omega
                refine bodyPost_ret (v := .agg #[.int .i64 2, .string NM, .string ⟨#[]⟩, .int .i64 0]) ?_ rfl ⟨_, ?_, HTS.out, ?_⟩
                · have hfin := Cs.all4 ((HC5.out.other _ 1 (.string NM) hne)) (a' := .int .i64 2) (b' := .string NM) (c' := .string ⟨#[]⟩) (d' := .int .i64 0)
                  have g0 := hfin.get 0 (.int .i64 2)
                  have g1 := hfin.get 1 (.string NM)
                  have g2 := hfin.get 2 (.string ⟨#[]⟩)
                  have g3 := hfin.get 3 (.int .i64 0)
                  generalize (((((w5.setCell ⟨w.heap.size + 1, 1, none⟩ (.string NM)).setCell ⟨w.heap.size, 0, none⟩ (.int .i64 2)).setCell ⟨w.heap.size, 1, none⟩ (.string NM)).setCell ⟨w.heap.size, 2, none⟩ (.string ⟨#[]⟩)).setCell ⟨w.heap.size, 3, none⟩ (.int .i64 0)) = WF at g0 g1 g2 g3 ⊢
                  simp [results, Tryz.results30, go_sem, g0, g1, g2, g3]
                · rw [HNM.out]; rfl
                · exact below_all4 (HB5.out.setCell (p := ⟨w.heap.size + 1, 1, none⟩) (by simp) (.string NM)) (Nat.le_refl _)
              · go_wp2_with (go_at_call 39; refine (HMK.out _ _ _ HSLX.out).mono ?_; rintro e w5 ⟨rfl, hb5⟩; refine Hid.out ?_)
                refine Lib.hid ?_
                have HC5 := Lib.hid (HCM.out.below hb5)
                have hC2 := HCN.out.below hb5
                have HB5 := Lib.hid (HBM.out.trans (hb5.mono HBM.out.size))
                have k0 := HC5.out.get 0 (.int .i64 0)
                have k1 := HC5.out.get 1 (.string ⟨#[]⟩)
                have k2 := HC5.out.get 2 (.string ⟨#[]⟩)
                have k3 := HC5.out.get 3 (.int .i64 0)
                have kz0 := HC5.out.froz 0
                have kz1 := HC5.out.froz 1
                have kz2 := HC5.out.froz 2
                have kz3 := HC5.out.froz 3
                have l0 := hC2.get 0 (.int .i64 5)
                have l1 := hC2.get 1 (.string ⟨#[]⟩)
                have l2 := hC2.get 2 (.string ⟨#[]⟩)
                have l3 := hC2.get 3 (.int .i64 0)
                have lz1 := hC2.froz 1
                clear hb5 hC2 hq0 HMK
                go_wp2_with fail
                have hne : w.heap.size + 1 ≠ w.heap.size := by omega
                refine bodyPost_ret (v := .agg #[.int .i64 5, .string NM, .string ⟨#[]⟩, .int .i64 0]) ?_ rfl ⟨_, ?_, HTS.out, ?_⟩
                · have hfin := Cs.all4 ((HC5.out.other _ 1 (.string NM) hne)) (a' := .int .i64 5) (b' := .string NM) (c' := .string ⟨#[]⟩) (d' := .int .i64 0)
                  have g0 := hfin.get 0 (.int .i64 5)
                  have g1 := hfin.get 1 (.string NM)
                  have g2 := hfin.get 2 (.string ⟨#[]⟩)
                  have g3 := hfin.get 3 (.int .i64 0)
                  generalize (((((w5.setCell ⟨w.heap.size + 1, 1, none⟩ (.string NM)).setCell ⟨w.heap.size, 0, none⟩ (.int .i64 5)).setCell ⟨w.heap.size, 1, none⟩ (.string NM)).setCell ⟨w.heap.size, 2, none⟩ (.string ⟨#[]⟩)).setCell ⟨w.heap.size, 3, none⟩ (.int .i64 0)) = WF at g0 g1 g2 g3 ⊢
                  simp [results, Tryz.results30, go_sem, g0, g1, g2, g3]
                · rw [HNM.out]; rfl
                · exact below_all4 (HB5.out.setCell (p := ⟨w.heap.size + 1, 1, none⟩) (by simp) (.string NM)) (Nat.le_refl _)
end Go.Proofs.YtkdknfedieeenaaGreatDoor
namespace Go.Proofs.YtkdknfedieeenaaGreatDoor
open Go.RowKit
set_option linter.unusedVariables false
section
variable {P : Program} {ops : Array Oper} {Q : Exit → Act → World → Prop}
/-- Operations one behind the other. -/
def tailWp (P : Program) (Q : Exit → Act → World → Prop) : List Oper → Act → World → Prop
  | [], a, w => Q .normal a w
  | o :: os, a, w => Oper.wp P o a w (fun a' w' => ∃ v, a' = a.put o.dst v ∧ tailWp P Q os a' w') Q
/-- From N on each operation waits for all ahead of it. -/
def tailOk (ops : Array Oper) (N : Nat) : Bool :=
  ((List.range N).all fun i => reachX ops 20 i N) && ((List.range ops.size).all fun j => decide (j ≤ N) || reachX ops 20 (j - 1) j) && ((ops.toList.drop N).all fun o => o.guard.isNone) && decide (N < ops.size)
/-- As Next; an operation that is named fresh gives a block that is new. -/
def NextL (A : Act) (d : Option Tmp) (p : Value → World → Prop) (R : World → Prop) (L : List Nat) (i : Nat) (w : World) (a' : Act) (w' : World) : Prop :=
  ∃ v, a' = A.put d v ∧ p v w' ∧ R w' ∧ Goes w w' ∧ (L.contains i = true → v = .pointer (some ⟨w.heap.size, 0, none⟩) ∧ w.heap.size < w'.heap.size)
theorem nextL {A a' : Act} {d : Option Tmp} {p : Value → World → Prop} {R : World → Prop} {L : List Nat} {i : Nat} {w w' : World} (v : Value) (ha : a' = A.put d v) (hp : p v w') (hR : R w') (he : Goes w w') (hL : L.contains i = false := by rfl) : NextL A d p R L i w a' w' :=
  ⟨v, ha, hp, hR, he, fun h => by rw [hL] at h; cases h⟩
theorem nextL_new {A a' : Act} {d : Option Tmp} {p : Value → World → Prop} {R : World → Prop} {L : List Nat} {i : Nat} {w : World} (o : Obj) (ha : a' = A.put d (.pointer (some ⟨w.heap.size, 0, none⟩))) (hp : p (.pointer (some ⟨w.heap.size, 0, none⟩)) (w.alloc o)) (hR : R (w.alloc o)) : NextL A d p R L i w a' (w.alloc o) :=
  ⟨_, ha, hp, hR, (Below.refl _ _).alloc (Nat.le_refl _) _, fun _ => ⟨rfl, by simp⟩⟩
def OpStepL (P : Program) (ops : Array Oper) (Q : Exit → Act → World → Prop) (Ws : List (Value → World → Prop)) (R : World → Prop) (L : List Nat) (FF : (Nat → Value) → Act) (i : Nat) (o : Oper) : Prop :=
  ∀ (x : Nat → Value) (w : World), R w → Deps (wordOf Ws) x w o.after.toList → (wantedX o x = true → Oper.wp P o (FF x) w (NextL (FF x) o.dst (wordOf Ws i) R L i w) Q) ∧ (wantedX o x = false → wordOf Ws i undef w ∧ L.contains i = false)
def OpStepsL (P : Program) (ops : Array Oper) (Q : Exit → Act → World → Prop) (Ws : List (Value → World → Prop)) (R : World → Prop) (L : List Nat) (FF : (Nat → Value) → Act) (skip : Nat → Bool) : Nat → List Oper → Prop
  | _, [] => True
  | i, o :: os => (skip i = false → OpStepL P ops Q Ws R L FF i o) ∧ OpStepsL P ops Q Ws R L FF skip (i + 1) os
theorem OpStepsL.get {Ws : List (Value → World → Prop)} {R : World → Prop} {L : List Nat} {FF : (Nat → Value) → Act} {skip : Nat → Bool} : ∀ {l : List Oper} {k : Nat}, OpStepsL P ops Q Ws R L FF skip k l → ∀ i o, l[i]? = some o → skip (k + i) = false → OpStepL P ops Q Ws R L FF (k + i) o
  | [], _, _, i, o, h, _ => by simp at h
  | p :: l, k, hs, 0, o, h, hk => by simp at h; subst h; exact hs.1 hk
  | p :: l, k, hs, i + 1, o, h, hk => by
    have := OpStepsL.get hs.2 i o (by simpa using h) (by rwa [show k + 1 + i = k + (i + 1) by omega])
    rwa [show k + 1 + i = k + (i + 1) by omega] at this
/-- The blocks that are named fresh are there, and no two of them the same. -/
def Apart (L : List Nat) (d : Nat → Bool) (x : Nat → Value) (w : World) : Prop :=
  (∀ i ∈ L, d i = true → ∃ g, x i = .pointer (some ⟨g, 0, none⟩) ∧ g < w.heap.size) ∧ ∀ i ∈ L, ∀ j ∈ L, i ≠ j → d i = true → d j = true → x i ≠ x j
theorem Apart.next {L : List Nat} {d : Nat → Bool} {x : Nat → Value} {w w' : World} {i : Nat} {v : Value} (h : Apart L d x w) (hd : d i = false) (hs : w.heap.size ≤ w'.heap.size) (hv : L.contains i = true → v = .pointer (some ⟨w.heap.size, 0, none⟩) ∧ w.heap.size < w'.heap.size) :
    Apart L (setD d i) (fun j => if j = i then v else x j) w' := by
  refine ⟨fun j hj hdj => ?_, fun j hj k hk hjk hdj hdk => ?_⟩
  · by_cases hji : j = i
    · subst hji
      obtain ⟨h1, h2⟩ := hv (by simpa using hj)
      exact ⟨_, by simpa using h1, h2⟩
    · rw [setD_ne d hji] at hdj
      obtain ⟨g, h1, h2⟩ := h.1 j hj hdj
      exact ⟨g, by simpa [hji] using h1, by omega⟩
  · by_cases hji : j = i
    · subst hji
      have hkj : k ≠ j := fun e => hjk e.symm
      rw [setD_ne d hkj] at hdk
      obtain ⟨h1, h2⟩ := hv (by simpa using hj)
      obtain ⟨g, h3, h4⟩ := h.1 k hk hdk
      simp only [if_true, hkj, if_false]
      rw [h1, h3]
      intro e
      injection e with e; injection e with e; injection e with e
      omega
    · by_cases hki : k = i
      · subst hki
        rw [setD_ne d hjk] at hdj
        obtain ⟨h1, h2⟩ := hv (by simpa using hk)
        obtain ⟨g, h3, h4⟩ := h.1 j hj hdj
        simp only [if_true, hjk, if_false]
        rw [h1, h3]
        intro e
        injection e with e; injection e with e; injection e with e
        omega
      · rw [setD_ne d hji] at hdj
        rw [setD_ne d hki] at hdk
        simp only [hji, hki, if_false]
        exact h.2 j hj k hk hjk hdj hdk
theorem wp_region_tail {id : Nat} {base : Act} {w0 : World} (hm : P.follows .mixedOrders = true) {FF : (Nat → Value) → Act} (hFF : ∀ x, putsF x 0 (ops.toList.map (·.dst)) base = FF x) (R : World → Prop) (Ws : List (Value → World → Prop)) (N : Nat) (L : List Nat)
    (hn : noTwice (ops.toList.map (·.dst)) = true) (hg : guardsIn ops base.tmps.size = true) (hwf : wellFormed ops = true) (hlen : Ws.length = N) (htl : tailOk ops N = true) (hLN : (L.all fun i => decide (i < N)) = true)
    (stays : AllStay Ws) (start : R w0.drew)
    (steps : OpStepsL P ops Q Ws R L FF (fun i => decide (N ≤ i)) 0 ops.toList)
    (fin : ∀ (x : Nat → Value) (w : World), R w → AllWords Ws x w 0 Ws → (∀ i ∈ L, ∀ j ∈ L, i ≠ j → x i ≠ x j) → tailWp P Q (ops.toList.drop N) (FF x) w) :
    (Code.region id ops true).wp P Q base w0 := by
  unfold tailOk at htl
  simp only [Bool.and_eq_true, List.all_eq_true, List.mem_range, Bool.or_eq_true, decide_eq_true_eq] at htl
  obtain ⟨⟨⟨t1, t2⟩, t3⟩, t4⟩ := htl
  have hword : ∀ (i : Nat), ∀ v w w', wordOf Ws i v w → Goes w w' → wordOf Ws i v w' := by
    intro i v w w' hw he
    unfold wordOf at hw ⊢
    cases hp : Ws[i]? with
    | none => trivial
    | some p =>
      rw [hp] at hw
      exact stays.mem p (List.mem_of_getElem? hp) _ _ _ hw he
  refine wp_region_joint hm (fun d x w => ClosedX ops d ∧ (((∀ j, N ≤ j → j < ops.size → d j = false) ∧ R w ∧ Apart L d x w ∧ ∀ i, i < N → d i = true → wordOf Ws i (x i) w) ∨
    (∃ m, N < m ∧ m ≤ ops.size ∧ (∀ i, i < m → d i = true) ∧ (∀ i, m ≤ i → i < ops.size → d i = false) ∧ tailWp P Q (ops.toList.drop m) (FF x) w))) hn hwf ?_ ?_ ?_
  · exact fun x => ⟨fun j o _ h => (by cases h), .inl ⟨fun _ _ _ => rfl, start, ⟨fun _ _ h => (by cases h), fun _ _ _ _ _ h => (by cases h)⟩, by simp⟩⟩
  · rintro i hi d x w ⟨hcl, hJ⟩ hd hdeps
    have hoi : ops[i]? = some ops[i] := Array.getElem?_eq_getElem hi
    have hmem : ops[i] ∈ ops.toList := by simp
    have hsrc : SrcX ops d ops[i] := hdeps
    have hwant : Region.wanted ops[i] (yielded ops (putsF x 0 (ops.toList.map (·.dst)) base).tmps) = wantedX ops[i] x := wanted_eq hn hg ops[i] hmem x
    have hset : (fun j => if j = i then true else d j) = setD d i := rfl
    have hcl2 : ClosedX ops (setD d i) := by
      intro j o hj hdj e he hb
      by_cases hji : j = i
      · subst hji
        rw [hoi] at hj
        obtain rfl := Option.some.inj hj
        exact setD_le d _ _ (hdeps e he hb)
      · rw [setD_ne d hji] at hdj
        exact setD_le d _ _ (hcl j o hj hdj e he hb)
    have hprev : N < i → d (i - 1) = true := by
      intro hNi
      rcases t2 i hi with h | h
      · omega
      · rcases Nat.eq_or_lt_of_le (Nat.sub_le i 1) with h1 | h1
        · omega
        · exact hsrc.reach (K := i) hcl hoi 19 (i - 1) (by omega) h
    have hput : ∀ v, FF (fun j => if j = i then v else x j) = (FF x).put (ops[i]).dst v := by
      intro v
      have := putsF_set x (ops.toList.map (·.dst)) 0 i base (ops[i]).dst v hn (by simp [hi])
      rw [Nat.zero_add] at this
      rw [← hFF, ← hFF, this]
    have hdrop : ops.toList.drop i = ops[i] :: ops.toList.drop (i + 1) := by
      rw [List.drop_eq_getElem_cons (by simpa using hi)]
      simp
    -- an operation of the tail
    have run : N ≤ i → (∀ j, j < i → d j = true) → (∀ j, i ≤ j → j < ops.size → d j = false) → tailWp P Q (ops.toList.drop i) (FF x) w →
        if Region.wanted ops[i] (yielded ops (putsF x 0 (ops.toList.map (·.dst)) base).tmps) = true
        then Oper.wp P ops[i] (putsF x 0 (ops.toList.map (·.dst)) base) w (fun a' w' => ∃ v, a' = (putsF x 0 (ops.toList.map (·.dst)) base).put (ops[i]).dst v ∧ (ClosedX ops (fun j => if j = i then true else d j) ∧ (((∀ j, N ≤ j → j < ops.size → (fun j => if j = i then true else d j) j = false) ∧ R w' ∧ Apart L (fun j => if j = i then true else d j) (fun j => if j = i then v else x j) w' ∧ ∀ k, k < N → (fun j => if j = i then true else d j) k = true → wordOf Ws k ((fun j => if j = i then v else x j) k) w') ∨
          (∃ m, N < m ∧ m ≤ ops.size ∧ (∀ k, k < m → (fun j => if j = i then true else d j) k = true) ∧ (∀ k, m ≤ k → k < ops.size → (fun j => if j = i then true else d j) k = false) ∧ tailWp P Q (ops.toList.drop m) (FF (fun j => if j = i then v else x j)) w')))) Q
        else (ClosedX ops (fun j => if j = i then true else d j) ∧ (((∀ j, N ≤ j → j < ops.size → (fun j => if j = i then true else d j) j = false) ∧ R w ∧ Apart L (fun j => if j = i then true else d j) (fun j => if j = i then undef else x j) w ∧ ∀ k, k < N → (fun j => if j = i then true else d j) k = true → wordOf Ws k ((fun j => if j = i then undef else x j) k) w) ∨
          (∃ m, N < m ∧ m ≤ ops.size ∧ (∀ k, k < m → (fun j => if j = i then true else d j) k = true) ∧ (∀ k, m ≤ k → k < ops.size → (fun j => if j = i then true else d j) k = false) ∧ tailWp P Q (ops.toList.drop m) (FF (fun j => if j = i then undef else x j)) w))) := by
      intro hNi hbefore hbehind htw
      have hgn : (ops[i]).guard = none := by
        have := t3 ops[i] (by
          rw [List.mem_iff_getElem?]
          exact ⟨i - N, by rw [List.getElem?_drop, show N + (i - N) = i by omega]; simp [hi]⟩)
        simpa using this
      have hwt : Region.wanted ops[i] (yielded ops (putsF x 0 (ops.toList.map (·.dst)) base).tmps) = true := by unfold Region.wanted; rw [hgn]
      rw [if_pos hwt, hFF x]
      rw [hdrop] at htw
      unfold tailWp at htw
      refine Oper.wp_mono ?_ htw
      rintro a' w' ⟨v, rfl, ht⟩
      refine ⟨v, rfl, hcl2, .inr ⟨i + 1, by omega, by omega, fun k hk => ?_, fun k hk hks => ?_, ?_⟩⟩
      · by_cases hki : k = i
        · simp [hki]
        · simp [hki, hbefore k (by omega)]
      · simp [show k ≠ i by omega, hbehind k (by omega) hks]
      · rw [hput v]; exact ht
    rcases hJ with ⟨hno, hR, hAp, hw⟩ | ⟨m, hNm, hms, hyes, hno, htw⟩
    · rcases Nat.lt_or_ge i N with hiN | hiN
      · have hs := OpStepsL.get steps i ops[i] (by simp [hi]) (by simp; omega)
        rw [Nat.zero_add] at hs
        have hD : Deps (wordOf Ws) x w (ops[i]).after.toList := Deps.of (fun e he hb => by
          have hdon := hdeps e he hb
          have hlt : e.on < i := by
            unfold wellFormed at hwf
            rw [List.all_eq_true] at hwf
            have := hwf (ops[i], i) (by rw [List.mem_zipIdx_iff_getElem?]; simp [hi])
            simp only [Array.all_eq_true'] at this
            have := this e (by simpa using he)
            simpa [hb] using this
          exact hw _ (by omega) hdon)
        have := hs x w hR hD
        have put : ∀ v w', wordOf Ws i v w' → Goes w w' → ∀ j, j < N → setD d i j = true → wordOf Ws j (if j = i then v else x j) w' := by
          intro v w' hv he j hj hdj
          by_cases hji : j = i
          · subst hji; simpa using hv
          · rw [setD_ne d hji] at hdj
            rw [if_neg hji]
            exact hword j _ _ _ (hw j hj hdj) he
        have keep : ∀ j, N ≤ j → j < ops.size → setD d i j = false := fun j hj hjs => by rw [setD_ne d (by omega)]; exact hno j hj hjs
        rw [hwant, hFF x]
        split
        · rename_i hwt
          refine Oper.wp_mono ?_ (this.1 hwt)
          rintro a' w' ⟨v, rfl, hv, hR', he, hLv⟩
          exact ⟨v, rfl, hcl2, .inl ⟨keep, hR', hAp.next hd he.size hLv, put v w' hv he⟩⟩
        · rename_i hwt
          obtain ⟨h1, h2⟩ := this.2 (by simpa using hwt)
          exact ⟨hcl2, .inl ⟨keep, hR, hAp.next hd (Nat.le_refl _) (fun h => by rw [h2] at h; cases h), put undef w h1 (Below.refl _ _)⟩⟩
      · have hiN' : i = N := by
          rcases Nat.eq_or_lt_of_le hiN with h | h
          · exact h.symm
          · have := hprev h
            rw [hno (i - 1) (by omega) (by omega)] at this; cases this
        subst hiN'
        have hall : ∀ j, j < i → d j = true := fun j hj => hsrc.reach (K := i) hcl hoi 19 j (by omega) (t1 j hj)
        refine run (Nat.le_refl _) hall (fun j hj hjs => hno j hj hjs) (fin x w hR (allWords_of Ws 0 (fun j _ => by simp) (fun j hj => hw j (by omega) (hall j (by omega)))) (fun p hp q hq hpq => hAp.2 p hp q hq hpq (hall p (by rw [List.all_eq_true] at hLN; simpa using hLN p hp)) (hall q (by rw [List.all_eq_true] at hLN; simpa using hLN q hq))))
    · have him : i = m := by
        rcases Nat.lt_or_ge i m with h | h
        · rw [hyes i h] at hd; cases hd
        · rcases Nat.eq_or_lt_of_le h with h | h
          · exact h.symm
          · have := hprev (by omega)
            rw [hno (i - 1) (by omega) (by omega)] at this; cases this
      subst him
      exact run (by omega) hyes hno htw
  · rintro d x w hall ⟨hcl, hJ⟩
    rw [hFF x]
    rcases hJ with ⟨hno, -, -⟩ | ⟨m, hNm, hms, hyes, hno, htw⟩
    · have := hno N (Nat.le_refl _) t4
      rw [hall N t4] at this; cases this
    · have : m = ops.size := by
        rcases Nat.eq_or_lt_of_le hms with h | h
        · exact h
        · have := hno m (Nat.le_refl _) h
          rw [hall m h] at this; cases this
      subst this
      rw [List.drop_of_length_le (by simp)] at htw
      exact htw
end
end Go.Proofs.YtkdknfedieeenaaGreatDoor
namespace Go.Proofs.YtkdknfedieeenaaGreatDoor
open Go.RowKit
set_option linter.unusedVariables false
set_option linter.unusedSimpArgs false
set_option maxRecDepth 20000
attribute [local simp] putsF isV wordOf Deps Region.binds Region.wanted wantedX isB Act.put
theorem ad_follows : Tryz.prog.follows .mixedOrders = true := by kernel_rfl
theorem adtail_cons {P : Program} {Q : Exit → Act → World → Prop} (o : Oper) (os : List Oper) (a : Act) (w : World) : tailWp P Q (o :: os) a w = Oper.wp P o a w (fun a' w' => ∃ v, a' = a.put o.dst v ∧ tailWp P Q os a' w') Q := rfl
theorem adtail_nil {P : Program} {Q : Exit → Act → World → Prop} (a : Act) (w : World) : tailWp P Q [] a w = Q .normal a w := rfl
def litD (n : Nat) (vs : List Value) : Value → World → Prop := fun v w => ∃ g, v = .slice (some ⟨g, 0, none⟩) n n ∧ Cs w g vs
theorem litD_stays (n : Nat) (vs : List Value) : ∀ v w w', litD n vs v w → Goes w w' → litD n vs v w' := by
  rintro v w w' ⟨g, hx, hc⟩ he
  exact ⟨g, hx, hc.below he⟩
def atD (j : Nat) (vs : List Value) : Value → World → Prop := fun v w => ∃ g, v = .pointer (some ⟨g, j, none⟩) ∧ Cs w g vs
theorem atD_stays (j : Nat) (vs : List Value) : ∀ v w w', atD j vs v w → Goes w w' → atD j vs v w' := by
  rintro v w w' ⟨g, hx, hc⟩ he
  exact ⟨g, hx, hc.below he⟩
/-- Which byte a number chooses. -/
def pickA (y : Nat) : Nat := [0, 1, 128, 255, 192, y].getD (y % 6) 0
theorem pickA_lt {y : Nat} (h : y < 256) : pickA y < 256 := by
  have h6 : y % 6 < 6 := Nat.mod_lt _ (by omega)
  unfold pickA
  generalize y % 6 = j at h6
  match j, h6 with
  | 0, _ => simp
  | 1, _ => simp
  | 2, _ => simp
  | 3, _ => simp
  | 4, _ => simp
  | 5, _ => exact h
theorem pickA_cell (y : Nat) : ([.int .u8 0, .int .u8 1, .int .u8 128, .int .u8 255, .int .u8 192, .int .u8 y] : List Value)[y % 6]? = some (.int .u8 (pickA y)) := by
  have h6 : y % 6 < 6 := Nat.mod_lt _ (by omega)
  unfold pickA
  generalize y % 6 = j at h6
  match j, h6 with
  | 0, _ => rfl
  | 1, _ => rfl
  | 2, _ => rfl
  | 3, _ => rfl
  | 4, _ => rfl
  | 5, _ => rfl
def addrK (N : Nat) (l : List UInt8) : Nat → List UInt8
  | 0 => List.replicate N 0
  | k + 1 => if k < N then (addrK N l k).set (k * 7 % N) (UInt8.ofNat (pickA (l.getD k 0).toNat)) else addrK N l k
/-- The address that the statements make of numbers. -/
def addrD (six : Bool) (l : List UInt8) : List UInt8 := addrK (addrN six) l l.length
theorem addrK_len (N : Nat) (l : List UInt8) : ∀ k, (addrK N l k).length = N
  | 0 => by simp [addrK]
  | k + 1 => by
    have := addrK_len N l k
    unfold addrK
    split
    · simpa using this
    · exact this
theorem addrD_len (six : Bool) (l : List UInt8) : (addrD six l).length = addrN six := addrK_len _ _ _

set_option maxHeartbeats 8000000 in
theorem addrD_any (six : Bool) (A : Option Addr) (n c : Nat) (l : List UInt8) (w : World) (hA : Sl w w.heap.size 1 A n (l.map bv)) (hn : n ≤ 140737488355328) :
    Calls Tryz.prog 31 #[.bool six, .slice A n c] w fun e w' => e = .returned (.string ⟨(addrD six l).toArray⟩) ∧ Below w.heap.size w w' := by
  have hln : l.length = n := by simpa using hA.1
  have HLN := Lib.hid hln
  clear hln
  obtain ⟨i0, hi, hi0, hi1, hi2⟩ := info_parts pfx_info
  obtain ⟨N, hN⟩ : ∃ N, N = addrN six := ⟨_, rfl⟩
  have hN2 : N = 4 ∨ N = 16 := by rw [hN]; unfold addrN; cases six <;> simp
  have HN := Lib.hid hN
  clear hN
  go_enter Tryz.func31, Tryz.ntmps31
  go_upto_if 9 with (first
    | (at_make; refine wpList_make_full _ rfl _ _ 23 rfl w.heap.size 5 i0 (.int .u8 0) 1 Tryz.underlying23 hi hi0 hi1 _ _ _ _ 4 rfl rfl (by omega) (by omega) (by rw [hi2]; omega) (by unfold maxLen; omega) (by simp) ?_; intro w1 hown1 hg1))
  rw [show (madeCells (Value.int .u8 0).cells (4 * 1)).toList = (List.replicate 4 (0 : UInt8)).map bv by rw [Nat.mul_one, List.map_replicate]; exact toList_madeCells_one _ _] at hown1
  have hob1 := OB.of_own hown1 (below_grown_none (Below.refl _ _) hg1 (Nat.le_refl _)) hg1.size
  have hz1 := hg1.size
  clear hown1 hg1
  go_cut [5] (fun v wc => ∃ g, v = .slice (some ⟨g, 0, none⟩) N N ∧ OB w.heap.size w v N ((addrK N l 0).map bv) wc)
  case first =>
    cases six with
    | false =>
      obtain rfl : N = 4 := HN.out
      go_wp2_with fail
      go_meet
      exact ⟨_, rfl, hob1⟩
    | true =>
      obtain rfl : N = 16 := HN.out
      go_wp2_with (first
        | (at_make; refine wpList_make_full _ rfl _ _ 23 rfl w.heap.size 5 i0 (.int .u8 0) 1 Tryz.underlying23 hi hi0 hi1 _ _ _ _ 16 rfl rfl (by omega) (by omega) (by rw [hi2]; omega) (by unfold maxLen; omega) (by omega) ?_; intro w2 hown2 hg2))
      rw [show (madeCells (Value.int .u8 0).cells (16 * 1)).toList = (List.replicate 16 (0 : UInt8)).map bv by rw [Nat.mul_one, List.map_replicate]; exact toList_madeCells_one _ _] at hown2
      have hob2 := OB.of_own hown2 (below_grown_none hob1.bel hg2 hob1.base) (by have := hg2.size; omega)
      go_meet
      exact ⟨_, rfl, hob2⟩
  case rest =>
    obtain ⟨g, rfl, hob⟩ := hcut
    have hB := hob.lt g rfl
    have HO0 := Lib.hid hob
    clear hob hob1 hz1
    go_wp2_with fail
    go_loopw [13] (fun i wr => ∃ k : Nat, k ≤ n ∧ i = .int .i64 k ∧ Hid (OB w.heap.size w (.slice (some ⟨g, 0, none⟩) N N) N ((addrK N l k).map bv) wr)) (fun i _ => n - (intOf i).toNat)
    case atStart => exact ⟨0, Nat.zero_le _, rfl, HO0⟩
    case round =>
      obtain ⟨k, hk, rfl, HR⟩ := hrel
      have hb := HR.out
      by_cases hlt : k < n
      · obtain ⟨b, off, u, rfl, hbb, hu, hc⟩ := hA.at_ hlt
        have hcell : wr.cell? ⟨b, off + k, none⟩ = some u := (hb.bel.cell (p := ⟨b, off + k, none⟩) hbb).trans hc
        rw [List.getElem?_map] at hu
        obtain ⟨yc, hyc, rfl⟩ := Option.map_eq_some_iff.1 hu
        have h8 := UInt8.toNat_lt yc
        have hgd : l.getD k 0 = yc := by rw [List.getD_eq_getElem?_getD, hyc]; rfl
        have hnext : addrK N l (k + 1) = if k < N then (addrK N l k).set (k * 7 % N) (UInt8.ofNat (pickA yc.toNat)) else addrK N l k := by rw [← hgd]; rfl
        clear hgd
        simp only [bv] at hcell
        generalize yc.toNat = y at *
        clear hu hyc hc
        by_cases hkN : k < N
        · obtain ⟨p, hp⟩ : ∃ p, p = k * 7 % N := ⟨_, rfl⟩
          have hpN : p < N := by rw [hp]; exact Nat.mod_lt _ (by omega)
          have hm : (k : Int) * 7 % (N : Int) = (p : Int) := by rw [hp]; simp
          have hm2 : ((k : Int) * 7).tmod (N : Int) = (p : Int) := by rw [Int.tmod_eq_emod_of_nonneg (by omega)]; exact hm
          have e1 : IntKind.i64.wrap ((k : Int) * 7) = (k : Int) * 7 := IntWalk.i64_in _ (by omega)
          have e2 : IntKind.i64.wrap (p : Int) = (p : Int) := IntWalk.i64_in _ (by omega)
          have e3 : ¬ (N : Int) = 0 := by omega
          have e4 : 0 ≤ (y : Int) % 6 := by omega
          have e5 : (y : Int) % 6 < 6 := by omega
          have e6 : ((y : Int) % 6).toNat = y % 6 := by omega
          have e7 : IntKind.u8.wrap ((y : Int) % 6) = (y : Int) % 6 := by rw [IntKind.wrap_u8]; omega
          have e8 : (p : Int) < N := by omega
          have e9 : (y : Int).tmod 6 = (y : Int) % 6 := Int.tmod_eq_emod_of_nonneg (by omega)
          rw [if_pos hkN, ← hp] at hnext
          have hplt := pickA_lt h8
          have hcl6 := pickA_cell y
          have HN2 := Lib.hid hnext
          have HCL6 := Lib.hid hcl6
          have e3' : ¬ N = 0 := by omega
          clear hb hp hnext hcl6
          go_upto_region 8 with fail
          refine wp_region_tail ad_follows (fun x => by simp [putsF, Act.put]; rfl) (fun v => Below wr.heap.size wr v)
            [isV (.slice (some ⟨g, 0, none⟩) N N), isV (.int .i64 k), isV (.int .i64 (k * 7)), isV (.slice (some ⟨g, 0, none⟩) N N), isV (.int .i64 N), isV (.int .i64 p), isV (.int .u8 y), litD 6 [.int .u8 0, .int .u8 1, .int .u8 128, .int .u8 255, .int .u8 192, .int .u8 y], isV (.int .u8 y), isV (.int .u8 ((y : Int) % 6)),
             atD (y % 6) [.int .u8 0, .int .u8 1, .int .u8 128, .int .u8 255, .int .u8 192, .int .u8 y], isV (.int .u8 (pickA y)), isV (.pointer (some ⟨g, p, none⟩))]
            13 [] (by kernel_rfl) (by kernel_rfl) (by kernel_rfl) rfl (by kernel_rfl) (by kernel_rfl) ?_ (Below.refl _ _).drew ?_ ?_
          · repeat (first | exact trivial | refine ⟨by first | exact isV_stays _ | exact litD_stays _ _ | exact atD_stays _ _, ?_⟩)
          · refine ⟨?_, ?_, ?_, ?_, ?_, ?_, ?_, ?_, ?_, ?_, ?_, ?_, ?_, skipped rfl, trivial⟩
            all_goals
              intro _ x wx hR hd
              refine ⟨fun _ => ?_, fun hX => by simp at hX⟩
              simp at hd ⊢
            · go_simp; exact nextL _ rfl rfl hR (Below.refl _ _)
            · go_simp; exact nextL _ rfl rfl hR (Below.refl _ _)
            · go_simp; exact nextL _ rfl rfl hR (Below.refl _ _)
            · go_simp; exact nextL _ rfl rfl hR (Below.refl _ _)
            · go_simp; exact nextL _ rfl rfl hR (Below.refl _ _)
            · obtain ⟨hd0, hd1⟩ := hd
              go_simp; exact nextL _ rfl rfl hR (Below.refl _ _)
            · go_simp; exact nextL _ rfl rfl hR (Below.refl _ _)
            · go_simp; exact nextL _ rfl ⟨_, rfl, Cs.new _ _ _ _⟩ (hR.alloc hR.size _) ((Below.refl _ _).alloc (Nat.le_refl _) _)
            · go_simp; exact nextL _ rfl rfl hR (Below.refl _ _)
            · go_simp; exact nextL _ rfl rfl hR (Below.refl _ _)
            · obtain ⟨⟨h, hx7, hcs⟩, hd1⟩ := hd
              rw [hx7, hd1]
              go_simp; exact nextL _ rfl ⟨h, rfl, hcs⟩ hR (Below.refl _ _)
            · obtain ⟨h, hx10, hcs⟩ := hd
              rw [hx10]
              have hc0 := hcs.get (y % 6) _ HCL6.out
              go_simp; exact nextL _ rfl rfl hR (Below.refl _ _)
            · obtain ⟨hd1, hd2⟩ := hd
              go_simp; exact nextL _ rfl rfl hR (Below.refl _ _)
          intro x w5 hR5 hx _
          obtain ⟨-, -, -, -, -, -, -, -, -, -, -, x11, x12, -⟩ := hx
          have x11 : x 11 = .int .u8 (pickA y) := x11
          have x12 : x 12 = .pointer (some ⟨g, p, none⟩) := x12
          have hob5 := HR.out.keep hR5 (Nat.le_refl _)
          have hpl : p < ((addrK N l k).map bv).length := by rw [List.length_map, addrK_len]; exact hpN
          have m0 := hob5.cell p _ (List.getElem?_eq_getElem hpl)
          have f0 := hob5.frozen p hpN
          have hob6 := hob5.set p hpN (.int .u8 (pickA y))
          rw [show (.int .u8 (pickA y) : Value) = bv (UInt8.ofNat (pickA y)) by unfold bv; rw [UInt8.toNat_ofNat_of_lt' (by show _ < 256; exact hplt)], ← List.map_set, ← HN2.out, show bv (UInt8.ofNat (pickA y)) = (.int .u8 (pickA y) : Value) by unfold bv; rw [UInt8.toNat_ofNat_of_lt' (by show _ < 256; exact hplt)]] at hob6
          have HOB6 := Lib.hid hob6
          generalize ((addrK N l k).map bv)[p] = y0 at m0
          clear hob5 hob6 hpl
          change tailWp _ _ [_] _ _
          rw [adtail_cons, x11, x12]
          go_simp
          rw [adtail_nil]
          go_wp2_with fail
          go_roundw
          case rel => exact ⟨k + 1, by omega, by go_num, HOB6⟩
          case measure => simp [intOf]; omega
        · rw [if_neg hkN] at hnext
          have HN2 := Lib.hid hnext
          clear hnext hb
          go_wp2_with fail
          go_roundw
          case rel => exact ⟨k + 1, by omega, by go_num, by rw [HN2.out]; exact HR⟩
          case measure => simp [intOf]; omega
      · obtain rfl : k = n := by omega
        have hst := run_string_of (P := Tryz.prog) wr 23 9 5 _ _ N (addrK N l k) Tryz.underlying23 Tryz.underlying5 Tryz.underlying9 hb.sl (by intro h; cases h) N
        have hC : (⟨(addrK N l k).toArray⟩ : ByteArray) = ⟨(addrD six l).toArray⟩ := by unfold addrD; rw [HLN.out, HN.out]
        rw [hC] at hst
        obtain ⟨C, eC⟩ : ∃ C : ByteArray, C = ⟨(addrD six l).toArray⟩ := ⟨_, rfl⟩
        rw [← eC] at hst
        have HEC := Lib.hid eC
        have hbel := hb.bel
        clear hb eC hC
        go_wp2_with fail
        go_ret
        exact ⟨congrArg (fun q => Ending.returned (Value.string q)) HEC.out, hbel⟩
end Go.Proofs.YtkdknfedieeenaaGreatDoor
namespace Go.Proofs.YtkdknfedieeenaaGreatDoor
open Go.RowKit
set_option linter.unusedVariables false
set_option linter.unusedSimpArgs false
set_option maxRecDepth 20000
def nm5 (z : Int) : List UInt8 := five.getD (z % 5).toNat []
theorem five_cellD (w : World) (z : Int) (hz : 0 ≤ z) (T : TypeId) :
    ∃ l, l = nm5 z ∧ l ∈ five ∧ (w.alloc (.cells #[.string ⟨#[97]⟩, .string ⟨#[98]⟩, .string ⟨#[119, 119, 119]⟩, .string ⟨#[101, 120]⟩, .string ⟨#[111, 114, 103]⟩] T)).cell? ⟨w.heap.size, (z % 5).toNat, none⟩ = some (.string (baL l)) := by
  obtain ⟨k, hk, hk5⟩ : ∃ k : Nat, (z % 5).toNat = k ∧ k < 5 := ⟨_, rfl, by omega⟩
  unfold nm5
  rw [hk]
  have hl : k < five.length := hk5
  have e : five.getD k [] = five[k] := by rw [List.getD_eq_getElem?_getD, List.getElem?_eq_getElem hl]; rfl
  refine ⟨_, rfl, by rw [e]; exact List.getElem_mem hl, ?_⟩
  rw [e]
  have h := news_at w #[.string ⟨#[97]⟩, .string ⟨#[98]⟩, .string ⟨#[119, 119, 119]⟩, .string ⟨#[101, 120]⟩, .string ⟨#[111, 114, 103]⟩] T k (.string (baL five[k]))
  rw [Addr.add_lit, Nat.zero_add] at h
  apply h
  match k, hk5 with
  | 0, _ => rfl
  | 1, _ => rfl
  | 2, _ => rfl
  | 3, _ => rfl
  | 4, _ => rfl
def fewK (zs : List Int) (k : Nat) : List (List UInt8) := ((zs.take k).map nm5).take 5
theorem fewK_add {zs : List Int} {k : Nat} (h : k < zs.length) : ((fewK zs k).length < 5 → fewK zs k ++ [nm5 zs[k]] = fewK zs (k + 1)) ∧ (¬ (fewK zs k).length < 5 → fewK zs k = fewK zs (k + 1)) := by
  unfold fewK
  rw [List.take_succ_eq_append_getElem h, List.map_append]
  generalize (zs.take k).map nm5 = A
  constructor
  · intro hA
    have hl : A.length < 5 := by rw [List.length_take] at hA; omega
    rw [List.take_of_length_le (by omega), List.take_of_length_le (by simp; omega)]
    rfl
  · intro hA
    have hl : 5 ≤ A.length := by rw [List.length_take] at hA; omega
    rw [List.take_append_of_le_length hl]
theorem nm5_mem (z : Int) : nm5 z ∈ five := by
  obtain ⟨k, hk, hk5⟩ : ∃ k : Nat, (z % 5).toNat = k ∧ k < 5 := ⟨_, rfl, by omega⟩
  unfold nm5
  rw [hk]
  have hl : k < five.length := hk5
  rw [List.getD_eq_getElem?_getD, List.getElem?_eq_getElem hl]
  exact List.getElem_mem hl
theorem fewK_ok (zs : List Int) (k : Nat) : FewX (fewK zs k) := by
  refine ⟨fun x hx => ?_, by unfold fewK; rw [List.length_take]; omega⟩
  obtain ⟨z, _, rfl⟩ := List.mem_map.1 (List.mem_of_mem_take hx)
  exact nm5_mem z
def bytesZ (zs : List Int) : List UInt8 := zs.map fun z => UInt8.ofNat z.toNat
theorem bytesZ_map (zs : List Int) (h : ∀ z ∈ zs, 0 ≤ z ∧ z < 256) : zs.map (Value.int .u8) = (bytesZ zs).map bv := by
  unfold bytesZ
  rw [List.map_map]
  apply List.map_congr_left
  intro z hz
  have := h z hz
  simp only [Function.comp, bv]
  rw [UInt8.toNat_ofNat_of_lt' (by show _ < 256; omega), Int.toNat_of_nonneg this.1]
def namD (tk : Int) (zs : List Int) : List (List UInt8) := if fewK zs zs.length = [] ∧ (tk = 1 ∨ tk = 4) then [[97]] else fewK zs zs.length
def bitsD (six : Bool) (bits : Int) : Int := bits % ((8 * addrN six + 1 : Nat) : Int)
/-- The trigger that the statements make of numbers. -/
def trigD (kd : Int) (zs : List Int) (six : Bool) (bits : Int) : Trig :=
  if kd % 7 = 0 ∨ kd % 7 = 3 ∨ kd % 7 = 6 then ⟨kd % 7, [], cutL (addrD six (bytesZ zs)) (bitsD six bits).toNat, bitsD six bits⟩ else ⟨kd % 7, (makeL (namD (kd % 7) zs)).getD [], [], 0⟩
structure TrigIs (kd : Int) (t T : Trig) : Prop where
  ok : TrigOk kd t
  eq : t = T

set_option maxHeartbeats 16000000 in
theorem trigD_any (kd : Int) (hkd : 0 ≤ kd ∧ kd ≤ 255) (A : Option Addr) (n c : Nat) (zs : List Int) (six : Bool) (bits : Int) (hb : 0 ≤ bits ∧ bits ≤ 255) (w : World)
    (hA : Sl w w.heap.size 1 A n (zs.map (Value.int .u8))) (hz : ∀ z ∈ zs, 0 ≤ z ∧ z < 256) (hn : n ≤ 140737488355328) :
    Calls Tryz.prog 30 #[.int .u8 kd, .slice A n c, .bool six, .int .u8 bits] w fun e w' => ∃ t : Trig, e = .returned (trigA t) ∧ TrigIs kd t (trigD kd zs six bits) ∧ Below w.heap.size w w' := by
  obtain ⟨i0, hi, hz0, hz1, hz2⟩ := info_parts str_info
  obtain ⟨tk, htk⟩ : ∃ tk, tk = kd % 7 := ⟨_, rfl⟩
  have ht7 : 0 ≤ tk ∧ tk < 7 := by omega
  have hmod : kd.tmod 7 = tk := by rw [Int.tmod_eq_emod_of_nonneg hkd.1, htk]
  have hw8 : IntKind.u8.wrap tk = tk := by rw [IntKind.wrap_u8]; omega
  obtain ⟨W0, hW0⟩ : ∃ W0, W0 = (w.alloc (.cells #[.int .i64 0, .string ⟨#[]⟩, .string ⟨#[]⟩, .int .i64 0] 46)).alloc (.cells #[.int .i64 tk, .string ⟨#[]⟩, .string ⟨#[]⟩, .int .i64 0] 46) := ⟨_, rfl⟩
  have hc1 : Cs W0 w.heap.size [.int .i64 0, .string ⟨#[]⟩, .string ⟨#[]⟩, .int .i64 0] := by rw [hW0]; exact (Cs.new w _ _ _).alloc _
  have hc2 : Cs W0 (w.heap.size + 1) [.int .i64 tk, .string ⟨#[]⟩, .string ⟨#[]⟩, .int .i64 0] := by
    rw [hW0]
    exact (Cs.new (w.alloc (.cells #[.int .i64 0, .string ⟨#[]⟩, .string ⟨#[]⟩, .int .i64 0] 46)) _ _ _).at_ _ (by simp)
  have hb0 : Below w.heap.size w W0 := by
    rw [hW0]
    have h1 := (Below.refl w.heap.size w).alloc (Nat.le_refl _) (.cells #[.int .i64 0, .string ⟨#[]⟩, .string ⟨#[]⟩, .int .i64 0] 46)
    exact h1.alloc h1.size _
  have hs0 : W0.heap.size = w.heap.size + 2 := by rw [hW0]; simp
  have hA0 := (hA.below hb0).more hb0.size
  by_cases hp : tk = 0 ∨ tk = 3 ∨ tk = 6
  · have hl := bytesZ_map zs hz
    have had : Calls Tryz.prog 31 #[.bool six, .slice A n c] W0 fun e w' => ∃ s : ByteArray, (s.size = addrN six ∧ s.data.toList = addrD six (bytesZ zs)) ∧ e = .returned (.string s) ∧ Below W0.heap.size W0 w' := by
      refine (addrD_any six A n c (bytesZ zs) W0 (by rw [← hl]; exact hA0) hn).mono ?_
      rintro e w' ⟨rfl, hb⟩
      exact ⟨_, ⟨by rw [mk_size]; exact addrD_len _ _, by simp⟩, rfl, hb⟩
    obtain ⟨M, hM⟩ : ∃ M : Nat, M = 8 * addrN six + 1 := ⟨_, rfl⟩
    obtain ⟨m, hm⟩ : ∃ m : Nat, (m : Int) = bits % M := ⟨(bits % M).toNat, by have : (0 : Int) < M := by omega
                                                                              have := Int.emod_nonneg bits (show (M : Int) ≠ 0 by omega); omega⟩
    have hmM : m < M := by have := Int.emod_lt_of_pos bits (show (0 : Int) < M by omega); omega
    have hmt : bits.tmod (M : Int) = m := by rw [Int.tmod_eq_emod_of_nonneg hb.1, hm]
    have hMl : M = 33 ∨ M = 129 := by rw [hM]; cases six <;> simp [addrN]
    have hMM : (8 : Int) * (addrN six : Int) + 1 = M := by omega
    have hmw : IntKind.i64.wrap (m : Int) = m := IntWalk.i64_in _ (by omega)
    have hm0 : ¬ (M : Int) = 0 := by omega
    have hsl : addrN six = 4 ∨ addrN six = 16 := by cases six <;> simp [addrN]
    have hbm : bitsD six bits = m := by unfold bitsD; rw [← hM, hm]
    have hTO : ∀ (s : ByteArray), (s.size = addrN six ∧ s.data.toList = addrD six (bytesZ zs)) → TrigIs kd ⟨kd % 7, [], cutL s.data.toList m, m⟩ (trigD kd zs six bits) := fun s h => ⟨trigPfx_ok (kd := kd) (by rw [← htk]; exact hp) (l := s.data.toList) (m := m) (by rw [show s.data.toList.length = s.size by simp, h.1]; exact addrN_ok six) (by rw [show s.data.toList.length = s.size by simp, h.1]; omega), by
      unfold trigD
      rw [if_pos (by rw [← htk]; exact hp), hbm, h.2, Int.toNat_natCast]⟩
    rw [← htk] at hTO
    have HMB := Lib.hid (show m ≤ 8 * addrN six by omega)
    have HAD := Lib.hid had
    have HTO := Lib.hid hTO
    have HC1 := Lib.hid hc1
    have HC2 := Lib.hid hc2
    have HB0 := Lib.hid hb0
    have HS0 := Lib.hid hs0
    have HW0 := Lib.hid hW0
    obtain ⟨Z, hZ⟩ : ∃ Z, Z = addrN six := ⟨_, rfl⟩
    rw [← hZ] at hMM hsl
    have HZ := Lib.hid hZ
    clear had hTO hc1 hc2 hb0 hs0 hW0 hZ hA0 hl hA hz hM hm htk hmM hbm
    rcases hp with rfl | rfl | rfl
    · go_enter Tryz.func30, Tryz.ntmps30
      go_wp2_with (go_at_call 31; rw [← HW0.out]; refine HAD.out.mono ?_; rintro e w1 ⟨s, ⟨hs, hsd⟩, rfl, hb1⟩; refine Hid.out ?_)
      refine Lib.hid ?_
      have HTS := Lib.hid (HTO.out s ⟨hs, hsd⟩)
      have hcut := fun w h => pcut_yes s.data.toList m w (by rw [show s.data.toList.length = s.size by simp, hs]; exact addrN_ok six) h
      rw [ba_eta] at hcut
      have hcut := fun w => hcut w (by rw [show s.data.toList.length = s.size by simp, hs]; exact HMB.out)
      obtain ⟨CB, hCB⟩ : ∃ CB, CB = baL (cutL s.data.toList m) := ⟨_, rfl⟩
      rw [show (⟨(cutL s.data.toList m).toArray⟩ : ByteArray) = CB by rw [hCB]; rfl] at hcut
      have hsZ : s.size = Z := by rw [hs, HZ.out]
      have HCUT := Lib.hid hcut
      have HCB := Lib.hid hCB
      have HC11 := Lib.hid (HC1.out.below hb1)
      have HC21 := Lib.hid (HC2.out.below hb1)
      have HB1 := Lib.hid (HB0.out.trans (hb1.mono HB0.out.size))
      clear hcut hCB hs hsd hb1
      go_wp2_with (go_at_call 38; refine (HCUT.out _).mono ?_; rintro e w2 ⟨rfl, hb2⟩; refine Hid.out ?_)
      refine Lib.hid ?_
      have hC1 := HC11.out.below hb2
      have hC2 := HC21.out.below hb2
      have HB2 := Lib.hid (HB1.out.trans (hb2.mono HB1.out.size))
      have k0 := hC1.get 0 (.int .i64 0)
      have k1 := hC1.get 1 (.string ⟨#[]⟩)
      have k2 := hC1.get 2 (.string ⟨#[]⟩)
      have k3 := hC1.get 3 (.int .i64 0)
      have kz0 := hC1.froz 0
      have kz1 := hC1.froz 1
      have kz2 := hC1.froz 2
      have kz3 := hC1.froz 3
      have l0 := hC2.get 0 (.int .i64 0)
      have l1 := hC2.get 1 (.string ⟨#[]⟩)
      have l2 := hC2.get 2 (.string ⟨#[]⟩)
      have l3 := hC2.get 3 (.int .i64 0)
      have lz0 := hC2.froz 0
      have lz1 := hC2.froz 1
      have lz2 := hC2.froz 2
      have lz3 := hC2.froz 3
      have HC1' := Lib.hid hC1
      clear hC1 hC2 hb2 HC11 HC21 HCUT HB1
      have hne : w.heap.size + 1 ≠ w.heap.size := by omega
      go_wp2_with fail
      refine bodyPost_ret (v := .agg #[.int .i64 0, .string ⟨#[]⟩, .string CB, .int .i64 m]) ?_ rfl ⟨_, ?_, HTS.out, ?_⟩
      · have hfin := Cs.all4 (((HC1'.out.other _ 2 (.string CB) hne).other _ 3 (.int .i64 m) hne)) (a' := .int .i64 0) (b' := .string ⟨#[]⟩) (c' := .string CB) (d' := .int .i64 m)
        have g0 := hfin.get 0 (.int .i64 0)
        have g1 := hfin.get 1 (.string ⟨#[]⟩)
        have g2 := hfin.get 2 (.string CB)
        have g3 := hfin.get 3 (.int .i64 m)
        generalize ((((((w2.setCell ⟨w.heap.size + 1, 2, none⟩ (.string CB)).setCell ⟨w.heap.size + 1, 3, none⟩ (.int .i64 m)).setCell ⟨w.heap.size, 0, none⟩ (.int .i64 0)).setCell ⟨w.heap.size, 1, none⟩ (.string ⟨#[]⟩)).setCell ⟨w.heap.size, 2, none⟩ (.string CB)).setCell ⟨w.heap.size, 3, none⟩ (.int .i64 m)) = WF at g0 g1 g2 g3 ⊢
        simp [results, Tryz.results30, go_sem, g0, g1, g2, g3]
      · rw [HCB.out]; rfl
      · exact below_all4 ((HB2.out.setCell (p := ⟨w.heap.size + 1, 2, none⟩) (by simp) (.string CB)).setCell (p := ⟨w.heap.size + 1, 3, none⟩) (by simp) (.int .i64 m)) (Nat.le_refl _)
    · go_enter Tryz.func30, Tryz.ntmps30
      go_wp2_with (go_at_call 31; rw [← HW0.out]; refine HAD.out.mono ?_; rintro e w1 ⟨s, ⟨hs, hsd⟩, rfl, hb1⟩; refine Hid.out ?_)
      refine Lib.hid ?_
      have HTS := Lib.hid (HTO.out s ⟨hs, hsd⟩)
      have hcut := fun w h => pcut_yes s.data.toList m w (by rw [show s.data.toList.length = s.size by simp, hs]; exact addrN_ok six) h
      rw [ba_eta] at hcut
      have hcut := fun w => hcut w (by rw [show s.data.toList.length = s.size by simp, hs]; exact HMB.out)
      obtain ⟨CB, hCB⟩ : ∃ CB, CB = baL (cutL s.data.toList m) := ⟨_, rfl⟩
      rw [show (⟨(cutL s.data.toList m).toArray⟩ : ByteArray) = CB by rw [hCB]; rfl] at hcut
      have hsZ : s.size = Z := by rw [hs, HZ.out]
      have HCUT := Lib.hid hcut
      have HCB := Lib.hid hCB
      have HC11 := Lib.hid (HC1.out.below hb1)
      have HC21 := Lib.hid (HC2.out.below hb1)
      have HB1 := Lib.hid (HB0.out.trans (hb1.mono HB0.out.size))
      clear hcut hCB hs hsd hb1
      go_wp2_with (go_at_call 38; refine (HCUT.out _).mono ?_; rintro e w2 ⟨rfl, hb2⟩; refine Hid.out ?_)
      refine Lib.hid ?_
      have hC1 := HC11.out.below hb2
      have hC2 := HC21.out.below hb2
      have HB2 := Lib.hid (HB1.out.trans (hb2.mono HB1.out.size))
      have k0 := hC1.get 0 (.int .i64 0)
      have k1 := hC1.get 1 (.string ⟨#[]⟩)
      have k2 := hC1.get 2 (.string ⟨#[]⟩)
      have k3 := hC1.get 3 (.int .i64 0)
      have kz0 := hC1.froz 0
      have kz1 := hC1.froz 1
      have kz2 := hC1.froz 2
      have kz3 := hC1.froz 3
      have l0 := hC2.get 0 (.int .i64 3)
      have l1 := hC2.get 1 (.string ⟨#[]⟩)
      have l2 := hC2.get 2 (.string ⟨#[]⟩)
      have l3 := hC2.get 3 (.int .i64 0)
      have lz0 := hC2.froz 0
      have lz1 := hC2.froz 1
      have lz2 := hC2.froz 2
      have lz3 := hC2.froz 3
      have HC1' := Lib.hid hC1
      clear hC1 hC2 hb2 HC11 HC21 HCUT HB1
      have hne : w.heap.size + 1 ≠ w.heap.size := by omega
      go_wp2_with fail
      refine bodyPost_ret (v := .agg #[.int .i64 3, .string ⟨#[]⟩, .string CB, .int .i64 m]) ?_ rfl ⟨_, ?_, HTS.out, ?_⟩
      · have hfin := Cs.all4 (((HC1'.out.other _ 2 (.string CB) hne).other _ 3 (.int .i64 m) hne)) (a' := .int .i64 3) (b' := .string ⟨#[]⟩) (c' := .string CB) (d' := .int .i64 m)
        have g0 := hfin.get 0 (.int .i64 3)
        have g1 := hfin.get 1 (.string ⟨#[]⟩)
        have g2 := hfin.get 2 (.string CB)
        have g3 := hfin.get 3 (.int .i64 m)
        generalize ((((((w2.setCell ⟨w.heap.size + 1, 2, none⟩ (.string CB)).setCell ⟨w.heap.size + 1, 3, none⟩ (.int .i64 m)).setCell ⟨w.heap.size, 0, none⟩ (.int .i64 3)).setCell ⟨w.heap.size, 1, none⟩ (.string ⟨#[]⟩)).setCell ⟨w.heap.size, 2, none⟩ (.string CB)).setCell ⟨w.heap.size, 3, none⟩ (.int .i64 m)) = WF at g0 g1 g2 g3 ⊢
        simp [results, Tryz.results30, go_sem, g0, g1, g2, g3]
      · rw [HCB.out]; rfl
      · exact below_all4 ((HB2.out.setCell (p := ⟨w.heap.size + 1, 2, none⟩) (by simp) (.string CB)).setCell (p := ⟨w.heap.size + 1, 3, none⟩) (by simp) (.int .i64 m)) (Nat.le_refl _)
    · go_enter Tryz.func30, Tryz.ntmps30
      go_wp2_with (go_at_call 31; rw [← HW0.out]; refine HAD.out.mono ?_; rintro e w1 ⟨s, ⟨hs, hsd⟩, rfl, hb1⟩; refine Hid.out ?_)
      refine Lib.hid ?_
      have HTS := Lib.hid (HTO.out s ⟨hs, hsd⟩)
      have hcut := fun w h => pcut_yes s.data.toList m w (by rw [show s.data.toList.length = s.size by simp, hs]; exact addrN_ok six) h
      rw [ba_eta] at hcut
      have hcut := fun w => hcut w (by rw [show s.data.toList.length = s.size by simp, hs]; exact HMB.out)
      obtain ⟨CB, hCB⟩ : ∃ CB, CB = baL (cutL s.data.toList m) := ⟨_, rfl⟩
      rw [show (⟨(cutL s.data.toList m).toArray⟩ : ByteArray) = CB by rw [hCB]; rfl] at hcut
      have hsZ : s.size = Z := by rw [hs, HZ.out]
      have HCUT := Lib.hid hcut
      have HCB := Lib.hid hCB
      have HC11 := Lib.hid (HC1.out.below hb1)
      have HC21 := Lib.hid (HC2.out.below hb1)
      have HB1 := Lib.hid (HB0.out.trans (hb1.mono HB0.out.size))
      clear hcut hCB hs hsd hb1
      go_wp2_with (go_at_call 38; refine (HCUT.out _).mono ?_; rintro e w2 ⟨rfl, hb2⟩; refine Hid.out ?_)
      refine Lib.hid ?_
      have hC1 := HC11.out.below hb2
      have hC2 := HC21.out.below hb2
      have HB2 := Lib.hid (HB1.out.trans (hb2.mono HB1.out.size))
      have k0 := hC1.get 0 (.int .i64 0)
      have k1 := hC1.get 1 (.string ⟨#[]⟩)
      have k2 := hC1.get 2 (.string ⟨#[]⟩)
      have k3 := hC1.get 3 (.int .i64 0)
      have kz0 := hC1.froz 0
      have kz1 := hC1.froz 1
      have kz2 := hC1.froz 2
      have kz3 := hC1.froz 3
      have l0 := hC2.get 0 (.int .i64 6)
      have l1 := hC2.get 1 (.string ⟨#[]⟩)
      have l2 := hC2.get 2 (.string ⟨#[]⟩)
      have l3 := hC2.get 3 (.int .i64 0)
      have lz0 := hC2.froz 0
      have lz1 := hC2.froz 1
      have lz2 := hC2.froz 2
      have lz3 := hC2.froz 3
      have HC1' := Lib.hid hC1
      clear hC1 hC2 hb2 HC11 HC21 HCUT HB1
      have hne : w.heap.size + 1 ≠ w.heap.size := by omega
      go_wp2_with fail
      refine bodyPost_ret (v := .agg #[.int .i64 6, .string ⟨#[]⟩, .string CB, .int .i64 m]) ?_ rfl ⟨_, ?_, HTS.out, ?_⟩
      · have hfin := Cs.all4 (((HC1'.out.other _ 2 (.string CB) hne).other _ 3 (.int .i64 m) hne)) (a' := .int .i64 6) (b' := .string ⟨#[]⟩) (c' := .string CB) (d' := .int .i64 m)
        have g0 := hfin.get 0 (.int .i64 6)
        have g1 := hfin.get 1 (.string ⟨#[]⟩)
        have g2 := hfin.get 2 (.string CB)
        have g3 := hfin.get 3 (.int .i64 m)
        generalize ((((((w2.setCell ⟨w.heap.size + 1, 2, none⟩ (.string CB)).setCell ⟨w.heap.size + 1, 3, none⟩ (.int .i64 m)).setCell ⟨w.heap.size, 0, none⟩ (.int .i64 6)).setCell ⟨w.heap.size, 1, none⟩ (.string ⟨#[]⟩)).setCell ⟨w.heap.size, 2, none⟩ (.string CB)).setCell ⟨w.heap.size, 3, none⟩ (.int .i64 m)) = WF at g0 g1 g2 g3 ⊢
        simp [results, Tryz.results30, go_sem, g0, g1, g2, g3]
      · rw [HCB.out]; rfl
      · exact below_all4 ((HB2.out.setCell (p := ⟨w.heap.size + 1, 2, none⟩) (by simp) (.string CB)).setCell (p := ⟨w.heap.size + 1, 3, none⟩) (by simp) (.int .i64 m)) (Nat.le_refl _)
  · have e0 : (tk == 0) = false := by rw [beq_eq_false_iff_ne]; omega
    have e3 : (tk == 3) = false := by rw [beq_eq_false_iff_ne]; omega
    have e6 : (tk == 6) = false := by rw [beq_eq_false_iff_ne]; omega
    have hTO : ∀ (X : List (List UInt8)), FewX X → (kd % 7 = 1 ∨ kd % 7 = 4 → X ≠ []) → X = namD (kd % 7) zs → TrigIs kd ⟨kd % 7, (makeL X).getD [], [], 0⟩ (trigD kd zs six bits) := fun X h hne hX => ⟨trigNam_ok hkd.1 (by rw [← htk]; exact hp) h hne, by
      unfold trigD
      rw [if_neg (by rw [← htk]; exact hp), hX]⟩
    rw [← htk] at hTO
    have HTO := Lib.hid hTO
    have HC1 := Lib.hid hc1
    have HC2 := Lib.hid hc2
    have HB0 := Lib.hid hb0
    have HS0 := Lib.hid hs0
    have HW0 := Lib.hid hW0
    have HA0 := Lib.hid hA0
    have HZ := Lib.hid hz
    have hzl : zs.length = n := by simpa using hA0.1
    have HZL := Lib.hid hzl
    have ht4 : tk = 1 ∨ tk = 2 ∨ tk = 4 ∨ tk = 5 := by omega
    have HT4 := Lib.hid ht4
    clear hTO hc1 hc2 hb0 hs0 hW0 hA0 hz hA hzl ht4 hp htk
    go_enter Tryz.func30, Tryz.ntmps30
    go_upto_region 5 with fail
    rw [← HW0.out]
    go_loopw [11, 22] (fun v i wr => ∃ (k : Nat) (X : List (List UInt8)), k ≤ n ∧ i = .int .i64 k ∧ Hid (X = fewK zs k) ∧ Buf W0.heap.size 9 W0 v X.length (X.map sv) wr) (fun _ i _ => n - (intOf i).toNat)
    case atStart => exact ⟨0, [], Nat.zero_le _, rfl, Lib.hid (by simp [fewK]), Buf.start _ _⟩
    case round =>
      obtain ⟨k, X, hk, rfl, HXE, hb⟩ := hrel
      have HFX : Hid (FewX X) := Lib.hid (by rw [HXE.out]; exact fewK_ok zs k)
      have hXl := HFX.out.len
      obtain ⟨D, cd, rfl, hd1, hd2, hd3⟩ := hb.slice
      by_cases hlt : k < n
      · have hlt' : (k : Int) < n := by omega
        obtain ⟨b, off, u, rfl, hbb, hu, hc⟩ := (HA0.out.below hb.below).at_ hlt
        have hkl : k < zs.length := by rw [HZL.out]; exact hlt
        have hcell : wr.cell? ⟨b, off + k, none⟩ = some (.int .u8 zs[k]) := by
          rw [hc]
          simp only [List.getElem?_map, List.getElem?_eq_getElem hkl, Option.map_some] at hu
          exact hu.symm
        have hzk := HZ.out zs[k] (List.getElem_mem hkl)
        have hfa := fewK_add hkl
        rw [← HXE.out] at hfa
        generalize zs[k] = z at *
        have HFA := Lib.hid hfa
        clear hfa
        obtain ⟨z0, z1⟩ := hzk
        clear hc hu hd3
        by_cases h5 : X.length < 5
        · have h5i : (X.length : Int) < 5 := by omega
          have a1 : 0 ≤ z % 5 := by omega
          have a2 : z % 5 < 5 := by omega
          obtain ⟨l5, hl5n, hl5, hcl5⟩ := five_cellD wr z z0 9
          obtain ⟨S5, hS5⟩ : ∃ S, S = baL l5 := ⟨_, rfl⟩
          rw [← hS5] at hcl5
          have HFN : Hid (X ++ [l5] = fewK zs (k + 1)) := Lib.hid (by rw [hl5n]; exact HFA.out.1 h5)
          have hmap : (X ++ [l5]).map sv = X.map sv ++ [.string S5] := by rw [List.map_append, hS5]; rfl
          have HM := Lib.hid hmap
          have hb1 := hb.alloc (.cells #[.string ⟨#[97]⟩, .string ⟨#[98]⟩, .string ⟨#[119, 119, 119]⟩, .string ⟨#[101, 120]⟩, .string ⟨#[111, 114, 103]⟩] 9)
          clear hmap hS5 hl5 hl5n
          go_wp2_with (at_builtin; go_loud (refine wpList_append_one rfl _ _ 63 rfl W0.heap.size 9 i0 _ 16 Tryz.underlying63 hi hz0 hz1 hz2 rfl hb1 rfl ?hx rfl ?c1 ?c2 ?_))
          case hx => exact congrArg (fun q => Value.slice (some ⟨q, 0, none⟩) 1 1) (by simp)
          case c1 => unfold maxLen; omega
          case c2 => omega
          intro v' w2 hb2
          have HB2 := Lib.hid hb2
          clear hb2 hb1
          go_wp2
          go_roundw
          case rel => exact ⟨k + 1, X ++ [l5], by omega, by go_num, HFN, by rw [HM.out, List.length_append]; exact HB2.out⟩
          case measure => simp [intOf]; omega
        · have h5i : ¬ (X.length : Int) < 5 := by omega
          go_wp2_with fail
          go_roundw
          case rel => exact ⟨k + 1, X, by omega, by go_num, Lib.hid (HFA.out.2 h5), hb⟩
          case measure => simp [intOf]; omega
      · have hkz : k = zs.length := by have := HZL.out; omega
        have HXN : Hid (X = fewK zs zs.length) := Lib.hid (by rw [← hkz]; exact HXE.out)
        clear hkz
        have hlt' : ¬ (k : Int) < n := by omega
        have HC1w := Lib.hid (HC1.out.below hb.below)
        have HC2w := Lib.hid (HC2.out.below hb.below)
        have HBw := Lib.hid (HB0.out.trans (hb.below.mono HB0.out.size))
        have hq0 := HC2w.out.get 0 (.int .i64 tk)
        have HSLX := Lib.hid hb.sl
        clear hb hd3 HC1 HC2 HB0 HA0 HZ HZL HW0 HS0
        by_cases hsp : X = [] ∧ (tk = 1 ∨ tk = 4)
        · obtain ⟨hX0, ht⟩ := hsp
          have hxl : ((X.length : Int) == 0) = true := by rw [hX0]; rfl
          have hA5 : FewX [[97]] := ⟨by decide, by decide⟩
          have HTS := Lib.hid (HTO.out [[97]] hA5 (fun _ => by simp) (by unfold namD; rw [← HXN.out, if_pos ⟨hX0, ht⟩]))
          obtain ⟨NM, hNM⟩ : ∃ N, N = baL ((makeL [[97]]).getD []) := ⟨_, rfl⟩
          have hmk := fun A c w h => makeX_any A 1 c [[97]] w h (fun x hx => by have := (five_ok x (hA5.mem x hx)).2.2.2; unfold maxLen; omega) (by unfold maxLen; decide)
          rw [show sv ((makeL [[97]]).getD []) = .string NM by rw [hNM]; rfl] at hmk
          have HMK := Lib.hid hmk
          have HNM := Lib.hid hNM
          clear hmk hNM
          have HCM := Lib.hid (HC1w.out.alloc (.cells #[.string ⟨#[97]⟩] 9))
          have HCN := Lib.hid (HC2w.out.alloc (.cells #[.string ⟨#[97]⟩] 9))
          have HBM := Lib.hid (HBw.out.alloc HBw.out.size (.cells #[.string ⟨#[97]⟩] 9))
          have HSLM := Lib.hid (Sl.fresh wr #[.string ⟨#[97]⟩] 9 1 _ rfl rfl)
          clear HTO HT4 e0 e3 e6 hX0 HSLX HFX hXl
          rcases ht with rfl | rfl
          · go_wp2_with (go_at_call 39; refine (HMK.out _ _ _ HSLM.out).mono ?_; rintro e w5 ⟨rfl, hb5⟩; refine Hid.out ?_)
            refine Lib.hid ?_
            have HC5 := Lib.hid (HCM.out.below hb5)
            have hC2 := HCN.out.below hb5
            have HB5 := Lib.hid (HBM.out.trans (hb5.mono HBM.out.size))
            have k0 := HC5.out.get 0 (.int .i64 0)
            have k1 := HC5.out.get 1 (.string ⟨#[]⟩)
            have k2 := HC5.out.get 2 (.string ⟨#[]⟩)
            have k3 := HC5.out.get 3 (.int .i64 0)
            have kz0 := HC5.out.froz 0
            have kz1 := HC5.out.froz 1
            have kz2 := HC5.out.froz 2
            have kz3 := HC5.out.froz 3
            have l0 := hC2.get 0 (.int .i64 1)
            have l1 := hC2.get 1 (.string ⟨#[]⟩)
            have l2 := hC2.get 2 (.string ⟨#[]⟩)
            have l3 := hC2.get 3 (.int .i64 0)
            have lz1 := hC2.froz 1
            clear hb5 hC2 hq0 HMK
            go_wp2_with fail
            have hne : w.heap.size + 1 ≠ w.heap.size := by omega
            refine bodyPost_ret (v := .agg #[.int .i64 1, .string NM, .string ⟨#[]⟩, .int .i64 0]) ?_ rfl ⟨_, ?_, HTS.out, ?_⟩
            · have hfin := Cs.all4 ((HC5.out.other _ 1 (.string NM) hne)) (a' := .int .i64 1) (b' := .string NM) (c' := .string ⟨#[]⟩) (d' := .int .i64 0)
              have g0 := hfin.get 0 (.int .i64 1)
              have g1 := hfin.get 1 (.string NM)
              have g2 := hfin.get 2 (.string ⟨#[]⟩)
              have g3 := hfin.get 3 (.int .i64 0)
              generalize (((((w5.setCell ⟨w.heap.size + 1, 1, none⟩ (.string NM)).setCell ⟨w.heap.size, 0, none⟩ (.int .i64 1)).setCell ⟨w.heap.size, 1, none⟩ (.string NM)).setCell ⟨w.heap.size, 2, none⟩ (.string ⟨#[]⟩)).setCell ⟨w.heap.size, 3, none⟩ (.int .i64 0)) = WF at g0 g1 g2 g3 ⊢
              simp [results, Tryz.results30, go_sem, g0, g1, g2, g3]
            · rw [HNM.out]; rfl
            · exact below_all4 (HB5.out.setCell (p := ⟨w.heap.size + 1, 1, none⟩) (by simp) (.string NM)) (Nat.le_refl _)
          · go_wp2_with (go_at_call 39; refine (HMK.out _ _ _ HSLM.out).mono ?_; rintro e w5 ⟨rfl, hb5⟩; refine Hid.out ?_)
            refine Lib.hid ?_
            have HC5 := Lib.hid (HCM.out.below hb5)
            have hC2 := HCN.out.below hb5
            have HB5 := Lib.hid (HBM.out.trans (hb5.mono HBM.out.size))
            have k0 := HC5.out.get 0 (.int .i64 0)
            have k1 := HC5.out.get 1 (.string ⟨#[]⟩)
            have k2 := HC5.out.get 2 (.string ⟨#[]⟩)
            have k3 := HC5.out.get 3 (.int .i64 0)
            have kz0 := HC5.out.froz 0
            have kz1 := HC5.out.froz 1
            have kz2 := HC5.out.froz 2
            have kz3 := HC5.out.froz 3
            have l0 := hC2.get 0 (.int .i64 4)
            have l1 := hC2.get 1 (.string ⟨#[]⟩)
            have l2 := hC2.get 2 (.string ⟨#[]⟩)
            have l3 := hC2.get 3 (.int .i64 0)
            have lz1 := hC2.froz 1
            clear hb5 hC2 hq0 HMK
            go_wp2_with fail
            have hne : w.heap.size + 1 ≠ w.heap.size := by omega
            refine bodyPost_ret (v := .agg #[.int .i64 4, .string NM, .string ⟨#[]⟩, .int .i64 0]) ?_ rfl ⟨_, ?_, HTS.out, ?_⟩
            · have hfin := Cs.all4 ((HC5.out.other _ 1 (.string NM) hne)) (a' := .int .i64 4) (b' := .string NM) (c' := .string ⟨#[]⟩) (d' := .int .i64 0)
              have g0 := hfin.get 0 (.int .i64 4)
              have g1 := hfin.get 1 (.string NM)
              have g2 := hfin.get 2 (.string ⟨#[]⟩)
              have g3 := hfin.get 3 (.int .i64 0)
              generalize (((((w5.setCell ⟨w.heap.size + 1, 1, none⟩ (.string NM)).setCell ⟨w.heap.size, 0, none⟩ (.int .i64 4)).setCell ⟨w.heap.size, 1, none⟩ (.string NM)).setCell ⟨w.heap.size, 2, none⟩ (.string ⟨#[]⟩)).setCell ⟨w.heap.size, 3, none⟩ (.int .i64 0)) = WF at g0 g1 g2 g3 ⊢
              simp [results, Tryz.results30, go_sem, g0, g1, g2, g3]
            · rw [HNM.out]; rfl
            · exact below_all4 (HB5.out.setCell (p := ⟨w.heap.size + 1, 1, none⟩) (by simp) (.string NM)) (Nat.le_refl _)
        · have hnsp : X ≠ [] ∨ (tk = 2 ∨ tk = 5) := by
            have := HT4.out
            by_cases hX0 : X = []
            · right; rcases this with h | h | h | h
              · exact absurd ⟨hX0, .inl h⟩ hsp
              · exact .inl h
              · exact absurd ⟨hX0, .inr h⟩ hsp
              · exact .inr h
            · exact .inl hX0
          have HTS := Lib.hid (HTO.out X HFX.out (fun h hX0 => hsp ⟨hX0, h⟩) (by unfold namD; rw [← HXN.out, if_neg hsp]))
          obtain ⟨NM, hNM⟩ : ∃ N, N = baL ((makeL X).getD []) := ⟨_, rfl⟩
          have hmk := fun A c w h => makeX_any A X.length c X w h (fun x hx => by have := (five_ok x (HFX.out.mem x hx)).2.2.2; unfold maxLen; omega) (by unfold maxLen; have := HFX.out.len; omega)
          rw [show sv ((makeL X).getD []) = .string NM by rw [hNM]; rfl] at hmk
          have HMK := Lib.hid hmk
          have HNM := Lib.hid hNM
          clear hmk hNM
          have HCM := HC1w
          have HCN := HC2w
          have HBM := HBw
          have ht := HT4.out
          clear HTO HT4 e0 e3 e6 hsp
          rcases hnsp with hX0 | hk25
          · have hxl : ((X.length : Int) == 0) = false := by
              have := List.length_pos_iff.2 hX0
              rw [beq_eq_false_iff_ne]; omega
            clear hX0
            rcases ht with rfl | rfl | rfl | rfl
            · go_wp2_with (go_at_call 39; refine (HMK.out _ _ _ HSLX.out).mono ?_; rintro e w5 ⟨rfl, hb5⟩; refine Hid.out ?_)
              refine Lib.hid ?_
              have HC5 := Lib.hid (HCM.out.below hb5)
              have hC2 := HCN.out.below hb5
              have HB5 := Lib.hid (HBM.out.trans (hb5.mono HBM.out.size))
              have k0 := HC5.out.get 0 (.int .i64 0)
              have k1 := HC5.out.get 1 (.string ⟨#[]⟩)
              have k2 := HC5.out.get 2 (.string ⟨#[]⟩)
              have k3 := HC5.out.get 3 (.int .i64 0)
              have kz0 := HC5.out.froz 0
              have kz1 := HC5.out.froz 1
              have kz2 := HC5.out.froz 2
              have kz3 := HC5.out.froz 3
              have l0 := hC2.get 0 (.int .i64 1)
              have l1 := hC2.get 1 (.string ⟨#[]⟩)
              have l2 := hC2.get 2 (.string ⟨#[]⟩)
              have l3 := hC2.get 3 (.int .i64 0)
              have lz1 := hC2.froz 1
              clear hb5 hC2 hq0 HMK
              go_wp2_with fail
              have hne : w.heap.size + 1 ≠ w.heap.size := by omega
              refine bodyPost_ret (v := .agg #[.int .i64 1, .string NM, .string ⟨#[]⟩, .int .i64 0]) ?_ rfl ⟨_, ?_, HTS.out, ?_⟩
              · have hfin := Cs.all4 ((HC5.out.other _ 1 (.string NM) hne)) (a' := .int .i64 1) (b' := .string NM) (c' := .string ⟨#[]⟩) (d' := .int .i64 0)
                have g0 := hfin.get 0 (.int .i64 1)
                have g1 := hfin.get 1 (.string NM)
                have g2 := hfin.get 2 (.string ⟨#[]⟩)
                have g3 := hfin.get 3 (.int .i64 0)
                generalize (((((w5.setCell ⟨w.heap.size + 1, 1, none⟩ (.string NM)).setCell ⟨w.heap.size, 0, none⟩ (.int .i64 1)).setCell ⟨w.heap.size, 1, none⟩ (.string NM)).setCell ⟨w.heap.size, 2, none⟩ (.string ⟨#[]⟩)).setCell ⟨w.heap.size, 3, none⟩ (.int .i64 0)) = WF at g0 g1 g2 g3 ⊢
                simp [results, Tryz.results30, go_sem, g0, g1, g2, g3]
              · rw [HNM.out]; rfl
              · exact below_all4 (HB5.out.setCell (p := ⟨w.heap.size + 1, 1, none⟩) (by simp) (.string NM)) (Nat.le_refl _)
            · go_wp2_with (go_at_call 39; refine (HMK.out _ _ _ HSLX.out).mono ?_; rintro e w5 ⟨rfl, hb5⟩; refine Hid.out ?_)
              refine Lib.hid ?_
              have HC5 := Lib.hid (HCM.out.below hb5)
              have hC2 := HCN.out.below hb5
              have HB5 := Lib.hid (HBM.out.trans (hb5.mono HBM.out.size))
              have k0 := HC5.out.get 0 (.int .i64 0)
              have k1 := HC5.out.get 1 (.string ⟨#[]⟩)
              have k2 := HC5.out.get 2 (.string ⟨#[]⟩)
              have k3 := HC5.out.get 3 (.int .i64 0)
              have kz0 := HC5.out.froz 0
              have kz1 := HC5.out.froz 1
              have kz2 := HC5.out.froz 2
              have kz3 := HC5.out.froz 3
              have l0 := hC2.get 0 (.int .i64 2)
              have l1 := hC2.get 1 (.string ⟨#[]⟩)
              have l2 := hC2.get 2 (.string ⟨#[]⟩)
              have l3 := hC2.get 3 (.int .i64 0)
              have lz1 := hC2.froz 1
              clear hb5 hC2 hq0 HMK
              go_wp2_with fail
              have hne : w.heap.size + 1 ≠ w.heap.size := by omega
              refine bodyPost_ret (v := .agg #[.int .i64 2, .string NM, .string ⟨#[]⟩, .int .i64 0]) ?_ rfl ⟨_, ?_, HTS.out, ?_⟩
              · have hfin := Cs.all4 ((HC5.out.other _ 1 (.string NM) hne)) (a' := .int .i64 2) (b' := .string NM) (c' := .string ⟨#[]⟩) (d' := .int .i64 0)
                have g0 := hfin.get 0 (.int .i64 2)
                have g1 := hfin.get 1 (.string NM)
                have g2 := hfin.get 2 (.string ⟨#[]⟩)
                have g3 := hfin.get 3 (.int .i64 0)
                generalize (((((w5.setCell ⟨w.heap.size + 1, 1, none⟩ (.string NM)).setCell ⟨w.heap.size, 0, none⟩ (.int .i64 2)).setCell ⟨w.heap.size, 1, none⟩ (.string NM)).setCell ⟨w.heap.size, 2, none⟩ (.string ⟨#[]⟩)).setCell ⟨w.heap.size, 3, none⟩ (.int .i64 0)) = WF at g0 g1 g2 g3 ⊢
                simp [results, Tryz.results30, go_sem, g0, g1, g2, g3]
              · rw [HNM.out]; rfl
              · exact below_all4 (HB5.out.setCell (p := ⟨w.heap.size + 1, 1, none⟩) (by simp) (.string NM)) (Nat.le_refl _)
            · go_wp2_with (go_at_call 39; refine (HMK.out _ _ _ HSLX.out).mono ?_; rintro e w5 ⟨rfl, hb5⟩; refine Hid.out ?_)
              refine Lib.hid ?_
              have HC5 := Lib.hid (HCM.out.below hb5)
              have hC2 := HCN.out.below hb5
              have HB5 := Lib.hid (HBM.out.trans (hb5.mono HBM.out.size))
              have k0 := HC5.out.get 0 (.int .i64 0)
              have k1 := HC5.out.get 1 (.string ⟨#[]⟩)
              have k2 := HC5.out.get 2 (.string ⟨#[]⟩)
              have k3 := HC5.out.get 3 (.int .i64 0)
              have kz0 := HC5.out.froz 0
              have kz1 := HC5.out.froz 1
              have kz2 := HC5.out.froz 2
              have kz3 := HC5.out.froz 3
              have l0 := hC2.get 0 (.int .i64 4)
              have l1 := hC2.get 1 (.string ⟨#[]⟩)
              have l2 := hC2.get 2 (.string ⟨#[]⟩)
              have l3 := hC2.get 3 (.int .i64 0)
              have lz1 := hC2.froz 1
              clear hb5 hC2 hq0 HMK
              go_wp2_with fail
              have hne : w.heap.size + 1 ≠ w.heap.size := by omega
              refine bodyPost_ret (v := .agg #[.int .i64 4, .string NM, .string ⟨#[]⟩, .int .i64 0]) ?_ rfl ⟨_, ?_, HTS.out, ?_⟩
              · have hfin := Cs.all4 ((HC5.out.other _ 1 (.string NM) hne)) (a' := .int .i64 4) (b' := .string NM) (c' := .string ⟨#[]⟩) (d' := .int .i64 0)
                have g0 := hfin.get 0 (.int .i64 4)
                have g1 := hfin.get 1 (.string NM)
                have g2 := hfin.get 2 (.string ⟨#[]⟩)
                have g3 := hfin.get 3 (.int .i64 0)
                generalize (((((w5.setCell ⟨w.heap.size + 1, 1, none⟩ (.string NM)).setCell ⟨w.heap.size, 0, none⟩ (.int .i64 4)).setCell ⟨w.heap.size, 1, none⟩ (.string NM)).setCell ⟨w.heap.size, 2, none⟩ (.string ⟨#[]⟩)).setCell ⟨w.heap.size, 3, none⟩ (.int .i64 0)) = WF at g0 g1 g2 g3 ⊢
                simp [results, Tryz.results30, go_sem, g0, g1, g2, g3]
              · rw [HNM.out]; rfl
              · exact below_all4 (HB5.out.setCell (p := ⟨w.heap.size + 1, 1, none⟩) (by simp) (.string NM)) (Nat.le_refl _)
            · go_wp2_with (go_at_call 39; refine (HMK.out _ _ _ HSLX.out).mono ?_; rintro e w5 ⟨rfl, hb5⟩; refine Hid.out ?_)
              refine Lib.hid ?_
              have HC5 := Lib.hid (HCM.out.below hb5)
              have hC2 := HCN.out.below hb5
              have HB5 := Lib.hid (HBM.out.trans (hb5.mono HBM.out.size))
              have k0 := HC5.out.get 0 (.int .i64 0)
              have k1 := HC5.out.get 1 (.string ⟨#[]⟩)
              have k2 := HC5.out.get 2 (.string ⟨#[]⟩)
              have k3 := HC5.out.get 3 (.int .i64 0)
              have kz0 := HC5.out.froz 0
              have kz1 := HC5.out.froz 1
              have kz2 := HC5.out.froz 2
              have kz3 := HC5.out.froz 3
              have l0 := hC2.get 0 (.int .i64 5)
              have l1 := hC2.get 1 (.string ⟨#[]⟩)
              have l2 := hC2.get 2 (.string ⟨#[]⟩)
              have l3 := hC2.get 3 (.int .i64 0)
              have lz1 := hC2.froz 1
              clear hb5 hC2 hq0 HMK
              go_wp2_with fail
              have hne : w.heap.size + 1 ≠ w.heap.size := by omega
              refine bodyPost_ret (v := .agg #[.int .i64 5, .string NM, .string ⟨#[]⟩, .int .i64 0]) ?_ rfl ⟨_, ?_, HTS.out, ?_⟩
              · have hfin := Cs.all4 ((HC5.out.other _ 1 (.string NM) hne)) (a' := .int .i64 5) (b' := .string NM) (c' := .string ⟨#[]⟩) (d' := .int .i64 0)
                have g0 := hfin.get 0 (.int .i64 5)
                have g1 := hfin.get 1 (.string NM)
                have g2 := hfin.get 2 (.string ⟨#[]⟩)
                have g3 := hfin.get 3 (.int .i64 0)
                generalize (((((w5.setCell ⟨w.heap.size + 1, 1, none⟩ (.string NM)).setCell ⟨w.heap.size, 0, none⟩ (.int .i64 5)).setCell ⟨w.heap.size, 1, none⟩ (.string NM)).setCell ⟨w.heap.size, 2, none⟩ (.string ⟨#[]⟩)).setCell ⟨w.heap.size, 3, none⟩ (.int .i64 0)) = WF at g0 g1 g2 g3 ⊢
                simp [results, Tryz.results30, go_sem, g0, g1, g2, g3]
              · rw [HNM.out]; rfl
              · exact below_all4 (HB5.out.setCell (p := ⟨w.heap.size + 1, 1, none⟩) (by simp) (.string NM)) (Nat.le_refl _)
          · clear ht
            cases hxl : ((X.length : Int) == 0) with
            | true =>
              rcases hk25 with rfl | rfl
              · go_wp2_with (go_at_call 39; refine (HMK.out _ _ _ HSLX.out).mono ?_; rintro e w5 ⟨rfl, hb5⟩; refine Hid.out ?_)
                refine Lib.hid ?_
                have HC5 := Lib.hid (HCM.out.below hb5)
                have hC2 := HCN.out.below hb5
                have HB5 := Lib.hid (HBM.out.trans (hb5.mono HBM.out.size))
                have k0 := HC5.out.get 0 (.int .i64 0)
                have k1 := HC5.out.get 1 (.string ⟨#[]⟩)
                have k2 := HC5.out.get 2 (.string ⟨#[]⟩)
                have k3 := HC5.out.get 3 (.int .i64 0)
                have kz0 := HC5.out.froz 0
                have kz1 := HC5.out.froz 1
                have kz2 := HC5.out.froz 2
                have kz3 := HC5.out.froz 3
                have l0 := hC2.get 0 (.int .i64 2)
                have l1 := hC2.get 1 (.string ⟨#[]⟩)
                have l2 := hC2.get 2 (.string ⟨#[]⟩)
                have l3 := hC2.get 3 (.int .i64 0)
                have lz1 := hC2.froz 1
                clear hb5 hC2 hq0 HMK
                go_wp2_with fail
                have hne : w.heap.size + 1 ≠ w.heap.size := by omega
                refine bodyPost_ret (v := .agg #[.int .i64 2, .string NM, .string ⟨#[]⟩, .int .i64 0]) ?_ rfl ⟨_, ?_, HTS.out, ?_⟩
                · have hfin := Cs.all4 ((HC5.out.other _ 1 (.string NM) hne)) (a' := .int .i64 2) (b' := .string NM) (c' := .string ⟨#[]⟩) (d' := .int .i64 0)
                  have g0 := hfin.get 0 (.int .i64 2)
                  have g1 := hfin.get 1 (.string NM)
                  have g2 := hfin.get 2 (.string ⟨#[]⟩)
                  have g3 := hfin.get 3 (.int .i64 0)
                  generalize (((((w5.setCell ⟨w.heap.size + 1, 1, none⟩ (.string NM)).setCell ⟨w.heap.size, 0, none⟩ (.int .i64 2)).setCell ⟨w.heap.size, 1, none⟩ (.string NM)).setCell ⟨w.heap.size, 2, none⟩ (.string ⟨#[]⟩)).setCell ⟨w.heap.size, 3, none⟩ (.int .i64 0)) = WF at g0 g1 g2 g3 ⊢
                  simp [results, Tryz.results30, go_sem, g0, g1, g2, g3]
                · rw [HNM.out]; rfl
                · exact below_all4 (HB5.out.setCell (p := ⟨w.heap.size + 1, 1, none⟩) (by simp) (.string NM)) (Nat.le_refl _)
              · go_wp2_with (go_at_call 39; refine (HMK.out _ _ _ HSLX.out).mono ?_; rintro e w5 ⟨rfl, hb5⟩; refine Hid.out ?_)
                refine Lib.hid ?_
                have HC5 := Lib.hid (HCM.out.below hb5)
                have hC2 := HCN.out.below hb5
                have HB5 := Lib.hid (HBM.out.trans (hb5.mono HBM.out.size))
                have k0 := HC5.out.get 0 (.int .i64 0)
                have k1 := HC5.out.get 1 (.string ⟨#[]⟩)
                have k2 := HC5.out.get 2 (.string ⟨#[]⟩)
                have k3 := HC5.out.get 3 (.int .i64 0)
                have kz0 := HC5.out.froz 0
                have kz1 := HC5.out.froz 1
                have kz2 := HC5.out.froz 2
                have kz3 := HC5.out.froz 3
                have l0 := hC2.get 0 (.int .i64 5)
                have l1 := hC2.get 1 (.string ⟨#[]⟩)
                have l2 := hC2.get 2 (.string ⟨#[]⟩)
                have l3 := hC2.get 3 (.int .i64 0)
                have lz1 := hC2.froz 1
                clear hb5 hC2 hq0 HMK
                go_wp2_with fail
                have hne : w.heap.size + 1 ≠ w.heap.size := by omega
                refine bodyPost_ret (v := .agg #[.int .i64 5, .string NM, .string ⟨#[]⟩, .int .i64 0]) ?_ rfl ⟨_, ?_, HTS.out, ?_⟩
                · have hfin := Cs.all4 ((HC5.out.other _ 1 (.string NM) hne)) (a' := .int .i64 5) (b' := .string NM) (c' := .string ⟨#[]⟩) (d' := .int .i64 0)
                  have g0 := hfin.get 0 (.int .i64 5)
                  have g1 := hfin.get 1 (.string NM)
                  have g2 := hfin.get 2 (.string ⟨#[]⟩)
                  have g3 := hfin.get 3 (.int .i64 0)
                  generalize (((((w5.setCell ⟨w.heap.size + 1, 1, none⟩ (.string NM)).setCell ⟨w.heap.size, 0, none⟩ (.int .i64 5)).setCell ⟨w.heap.size, 1, none⟩ (.string NM)).setCell ⟨w.heap.size, 2, none⟩ (.string ⟨#[]⟩)).setCell ⟨w.heap.size, 3, none⟩ (.int .i64 0)) = WF at g0 g1 g2 g3 ⊢
                  simp [results, Tryz.results30, go_sem, g0, g1, g2, g3]
                · rw [HNM.out]; rfl
                · exact below_all4 (HB5.out.setCell (p := ⟨w.heap.size + 1, 1, none⟩) (by simp) (.string NM)) (Nat.le_refl _)
            | false =>
              rcases hk25 with rfl | rfl
              · go_wp2_with (go_at_call 39; refine (HMK.out _ _ _ HSLX.out).mono ?_; rintro e w5 ⟨rfl, hb5⟩; refine Hid.out ?_)
                refine Lib.hid ?_
                have HC5 := Lib.hid (HCM.out.below hb5)
                have hC2 := HCN.out.below hb5
                have HB5 := Lib.hid (HBM.out.trans (hb5.mono HBM.out.size))
                have k0 := HC5.out.get 0 (.int .i64 0)
                have k1 := HC5.out.get 1 (.string ⟨#[]⟩)
                have k2 := HC5.out.get 2 (.string ⟨#[]⟩)
                have k3 := HC5.out.get 3 (.int .i64 0)
                have kz0 := HC5.out.froz 0
                have kz1 := HC5.out.froz 1
                have kz2 := HC5.out.froz 2
                have kz3 := HC5.out.froz 3
                have l0 := hC2.get 0 (.int .i64 2)
                have l1 := hC2.get 1 (.string ⟨#[]⟩)
                have l2 := hC2.get 2 (.string ⟨#[]⟩)
                have l3 := hC2.get 3 (.int .i64 0)
                have lz1 := hC2.froz 1
                clear hb5 hC2 hq0 HMK
                go_wp2_with fail
                have hne : w.heap.size + 1 ≠ w.heap.size := by omega
                refine bodyPost_ret (v := .agg #[.int .i64 2, .string NM, .string ⟨#[]⟩, .int .i64 0]) ?_ rfl ⟨_, ?_, HTS.out, ?_⟩
                · have hfin := Cs.all4 ((HC5.out.other _ 1 (.string NM) hne)) (a' := .int .i64 2) (b' := .string NM) (c' := .string ⟨#[]⟩) (d' := .int .i64 0)
                  have g0 := hfin.get 0 (.int .i64 2)
                  have g1 := hfin.get 1 (.string NM)
                  have g2 := hfin.get 2 (.string ⟨#[]⟩)
                  have g3 := hfin.get 3 (.int .i64 0)
                  generalize (((((w5.setCell ⟨w.heap.size + 1, 1, none⟩ (.string NM)).setCell ⟨w.heap.size, 0, none⟩ (.int .i64 2)).setCell ⟨w.heap.size, 1, none⟩ (.string NM)).setCell ⟨w.heap.size, 2, none⟩ (.string ⟨#[]⟩)).setCell ⟨w.heap.size, 3, none⟩ (.int .i64 0)) = WF at g0 g1 g2 g3 ⊢
                  simp [results, Tryz.results30, go_sem, g0, g1, g2, g3]
                · rw [HNM.out]; rfl
                · exact below_all4 (HB5.out.setCell (p := ⟨w.heap.size + 1, 1, none⟩) (by simp) (.string NM)) (Nat.le_refl _)
              · go_wp2_with (go_at_call 39; refine (HMK.out _ _ _ HSLX.out).mono ?_; rintro e w5 ⟨rfl, hb5⟩; refine Hid.out ?_)
                refine Lib.hid ?_
                have HC5 := Lib.hid (HCM.out.below hb5)
                have hC2 := HCN.out.below hb5
                have HB5 := Lib.hid (HBM.out.trans (hb5.mono HBM.out.size))
                have k0 := HC5.out.get 0 (.int .i64 0)
                have k1 := HC5.out.get 1 (.string ⟨#[]⟩)
                have k2 := HC5.out.get 2 (.string ⟨#[]⟩)
                have k3 := HC5.out.get 3 (.int .i64 0)
                have kz0 := HC5.out.froz 0
                have kz1 := HC5.out.froz 1
                have kz2 := HC5.out.froz 2
                have kz3 := HC5.out.froz 3
                have l0 := hC2.get 0 (.int .i64 5)
                have l1 := hC2.get 1 (.string ⟨#[]⟩)
                have l2 := hC2.get 2 (.string ⟨#[]⟩)
                have l3 := hC2.get 3 (.int .i64 0)
                have lz1 := hC2.froz 1
                clear hb5 hC2 hq0 HMK
                go_wp2_with fail
                have hne : w.heap.size + 1 ≠ w.heap.size := by omega
                refine bodyPost_ret (v := .agg #[.int .i64 5, .string NM, .string ⟨#[]⟩, .int .i64 0]) ?_ rfl ⟨_, ?_, HTS.out, ?_⟩
                · have hfin := Cs.all4 ((HC5.out.other _ 1 (.string NM) hne)) (a' := .int .i64 5) (b' := .string NM) (c' := .string ⟨#[]⟩) (d' := .int .i64 0)
                  have g0 := hfin.get 0 (.int .i64 5)
                  have g1 := hfin.get 1 (.string NM)
                  have g2 := hfin.get 2 (.string ⟨#[]⟩)
                  have g3 := hfin.get 3 (.int .i64 0)
                  generalize (((((w5.setCell ⟨w.heap.size + 1, 1, none⟩ (.string NM)).setCell ⟨w.heap.size, 0, none⟩ (.int .i64 5)).setCell ⟨w.heap.size, 1, none⟩ (.string NM)).setCell ⟨w.heap.size, 2, none⟩ (.string ⟨#[]⟩)).setCell ⟨w.heap.size, 3, none⟩ (.int .i64 0)) = WF at g0 g1 g2 g3 ⊢
                  simp [results, Tryz.results30, go_sem, g0, g1, g2, g3]
                · rw [HNM.out]; rfl
                · exact below_all4 (HB5.out.setCell (p := ⟨w.heap.size + 1, 1, none⟩) (by simp) (.string NM)) (Nat.le_refl _)
end Go.Proofs.YtkdknfedieeenaaGreatDoor
namespace Go.Proofs.YtkdknfedieeenaaGreatDoor
open Go.RowKit
set_option linter.unusedVariables false
set_option linter.unusedSimpArgs false
set_option maxRecDepth 20000
attribute [local simp] putsF isV wordOf Deps Region.binds Region.wanted Act.put wantedX isB
/-- The index at block b, whose own blocks are these, holds S. -/
def IXs (W : World) (B b : Nat) (own : List Nat) (S : IxS) (most : Nat) (w : World) : Prop := ∃ V us n mv F, IxOf W B b V us n mv F S.M S.lv most w ∧ own = ownI b V mv F ∧ S.G = treeF F ∧ S.tot = totF F ∧
  (∀ x ∈ F, (x.f.1 = 0 ∨ x.f.1 = 3 ∨ x.f.1 = 6) ∧ (x.f.2 = 4 ∨ x.f.2 = 16)) ∧ S.tot ≤ 1152921504606846975
section
variable {W w w' : World} {B b most : Nat} {own : List Nat} {S : IxS}
theorem IXs.only {P : Nat → Prop} (h : IXs W B b own S most w) (ho : Only P w w') (hn : ∀ q ∈ own, ¬ P q) (hB : ∀ q, P q → B ≤ q) : IXs W B b own S most w' := by
  obtain ⟨V, us, n, mv, F, h1, rfl, h2⟩ := h
  exact ⟨V, us, n, mv, F, h1.only ho hn hB, rfl, h2⟩
theorem IXs.below (h : IXs W B b own S most w) (hb : Below w.heap.size w w') : IXs W B b own S most w' := by
  obtain ⟨V, us, n, mv, F, h1, h2⟩ := h
  exact ⟨V, us, n, mv, F, h1.below hb, h2⟩
theorem IXs.more (h : IXs W B b own S most w) {m : Nat} (hm : most ≤ m) : IXs W B b own S m w := by
  obtain ⟨V, us, n, mv, F, h1, h2, h3, h4, h5, h6⟩ := h
  exact ⟨V, us, n, mv, F, h1.more hm, h2, h3, h4, h5, h6⟩
theorem IXs.lt (h : IXs W B b own S most w) : ∀ q ∈ own, q < w.heap.size := by
  obtain ⟨V, us, n, mv, F, h1, rfl, h2⟩ := h
  exact h1.lt
theorem IXs.ge (h : IXs W B b own S most w) : ∀ q ∈ own, B ≤ q := by
  obtain ⟨V, us, n, mv, F, h1, rfl, h2⟩ := h
  exact h1.ge
theorem IXs.bel (h : IXs W B b own S most w) : Below B W w := by
  obtain ⟨V, us, n, mv, F, h1, rfl, h2⟩ := h
  exact h1.bel
theorem IXs.ok (h : IXs W B b own S most w) : S.Ok := by
  obtain ⟨V, us, n, mv, F, h1, rfl, h2, _⟩ := h
  intro f
  rw [h2]
  rcases lookF_cases F f with e | ⟨F1, x, F2, rfl, e1, e2⟩
  · rw [treeF_no e]; exact ⟨trivial, trivial⟩
  · rw [treeF_at e1 e2]
    have := h1.tries x (by simp)
    exact ⟨this.ok, this.fit⟩
theorem IXs.start (hb : Below B W w) (hB : B ≤ w.heap.size) : IXs W B w.heap.size [w.heap.size] emptyI 0 (w.alloc (.cells #[.slice none 0 0, .int .i64 0, .int .i64 0, .map none] 129)) :=
  ⟨_, _, _, _, _, IxOf.start (hb.alloc hB _) hB (Cs.new w _ _ _), by simp [ownI, blocksF, Value.ownBlock], by funext f; rfl, rfl, by simp, Nat.zero_le _⟩
end
/-- What a call leaves that turns an index. -/
def IXn (W : World) (B b : Nat) (own : List Nat) (S : IxS) (most : Nat) (w w' : World) : Prop := ∃ own', IXs W B b own' S most w' ∧ Only (fun q => q ∈ own) w w' ∧ ∀ q ∈ own', q ∈ own ∨ w.heap.size ≤ q
def putB (S : IxS) (t : Trig) : Bool := (encR t).isSome && (S.val t).isNone
noncomputable def putI (S : IxS) (t : Trig) (v : Int) : IxS := if (encR t).isSome = true then S.put t v else S
theorem key_any (a : ByteArray) (x : Int) (w : World) (h : mayP a.data.toList x = true) :
    Calls Tryz.prog 59 #[.agg #[.string a, .int .i64 x]] w fun e w' => e = .returned (.string (sb (signs ((bitsL a.data.toList).take x.toNat)))) ∧ Below w.heap.size w w' := by
  obtain ⟨h1, h2, h3, h4⟩ := mayP_more h
  obtain ⟨m, hm⟩ : ∃ m : Nat, (m : Int) = x := ⟨x.toNat, by omega⟩
  subst hm
  have hk := key_yes a.data.toList m w (by rw [hasB_mayP]; exact h)
  exact hk
theorem IXs.putName {W w : World} {B b most : Nat} {own : List Nat} {S : IxS} (h : IXs W B b own S most w) (hm : most ≤ 34359738368) (K : ByteArray) (v : Int) (hK : K.size ≤ maxLen) :
    Calls Tryz.prog 60 #[.pointer (some ⟨b, 0, none⟩), .string K, .int .i64 v] w fun e w' => e = .returned (.bool (S.M K).isNone) ∧ IXn W B b own { S with M := upd S.M K (some v), lv := if (S.M K).isSome then S.lv else S.lv + 1 } (most + 1) w w' := by
  obtain ⟨V, us, n, mv, F, h1, rfl, h2, h3, h4, h5⟩ := h
  refine (put_tab h1.tab (by omega) K v hK).mono ?_
  rintro e w' ⟨rfl, V', us', n', t1, _, t2, t3⟩
  have hlv := h1.tab.most_
  have hlt := h1.tab.lt
  obtain ⟨g1, g2⟩ := h1.table (most' := most + 1) (by omega) (t1.more (by
    by_cases e : (S.M K).isSome = true
    · rw [if_pos e]; omega
    · rw [if_neg e]; omega)) t2 t3
  refine ⟨rfl, _, ⟨V', us', n', mv, F, g1, rfl, h2, h3, h4, ?_⟩, t2.mono (fun q _ e => by
    rcases e with rfl | e
    · exact IxOf.b_mem
    · exact IxOf.V_mem e), g2⟩
  exact h5
theorem IXs.delName {W w : World} {B b most : Nat} {own : List Nat} {S : IxS} (h : IXs W B b own S most w) (hm : most ≤ 34359738368) (K : ByteArray) (hK : K.size ≤ maxLen) :
    Calls Tryz.prog 56 #[.pointer (some ⟨b, 0, none⟩), .string K] w fun e w' => e = .returned (.bool (S.M K).isSome) ∧ IXn W B b own { S with M := upd S.M K none, lv := if (S.M K).isSome then S.lv - 1 else S.lv } most w w' := by
  obtain ⟨V, us, n, mv, F, h1, rfl, h2, h3, h4, h5⟩ := h
  refine (del_tab h1.tab (by omega) K hK).mono ?_
  rintro e w' ⟨rfl, t1, t2⟩
  obtain ⟨g1, g2⟩ := h1.table (Nat.le_refl _) t1 t2 (.inl rfl)
  refine ⟨rfl, _, ⟨V, us, n, mv, F, g1, rfl, h2, h3, h4, ?_⟩, t2.mono (fun q _ e => by
    rcases e with rfl | e
    · exact IxOf.b_mem
    · exact IxOf.V_mem e), g2⟩
  exact h5
/-- Where the family has a trie. -/
def IXt (W : World) (B b : Nat) (own : List Nat) (S : IxS) (most : Nat) (f : Int × Int) (mb a : Nat) (w w' : World) : Prop := ∃ V us n F1 x F2, IxOf W B b V us n (some mb) (F1 ++ x :: F2) S.M S.lv most w' ∧ x.f = f ∧ x.a = a ∧ f ∉ F1.map (·.f) ∧ S.G = treeF (F1 ++ x :: F2) ∧ S.tot = totF (F1 ++ x :: F2) ∧
  (∀ y ∈ F1 ++ x :: F2, (y.f.1 = 0 ∨ y.f.1 = 3 ∨ y.f.1 = 6) ∧ (y.f.2 = 4 ∨ y.f.2 = 16)) ∧ S.tot ≤ 1152921504606846975 ∧ Only (fun q => q ∈ own) w w' ∧ ∀ q ∈ ownI b V (some mb) (F1 ++ x :: F2), q ∈ own ∨ w.heap.size ≤ q
/-- Where there is a map. -/
def IXm (W : World) (B b : Nat) (own : List Nat) (S : IxS) (most mb : Nat) (F : List IxF) (w w' : World) : Prop := ∃ V us n, IxOf W B b V us n (some mb) F S.M S.lv most w' ∧ S.G = treeF F ∧ S.tot = totF F ∧
  (∀ y ∈ F, (y.f.1 = 0 ∨ y.f.1 = 3 ∨ y.f.1 = 6) ∧ (y.f.2 = 4 ∨ y.f.2 = 16)) ∧ S.tot ≤ 1152921504606846975 ∧ Only (fun q => q ∈ own) w w' ∧ ∀ q ∈ ownI b V (some mb) F, q ∈ own ∨ w.heap.size ≤ q
section
variable {W w w' w2 : World} {B b most mb a : Nat} {own : List Nat} {S : IxS} {f : Int × Int} {F : List IxF}
theorem IXm.below (h : IXm W B b own S most mb F w w') (hb : Below w'.heap.size w' w2) : IXm W B b own S most mb F w w2 := by
  obtain ⟨V, us, n, h1, h2, h3, h4, h5, h6, h7⟩ := h
  exact ⟨V, us, n, h1.below hb, h2, h3, h4, h5, h6.trans (Only.of_below (fun _ => False) hb) (fun _ _ e => e.elim), h7⟩
theorem IXt.below (h : IXt W B b own S most f mb a w w') (hb : Below w'.heap.size w' w2) : IXt W B b own S most f mb a w w2 := by
  obtain ⟨V, us, n, F1, x, F2, h1, h2, h3, h4, h5, h6, h7, h8, h9, h10⟩ := h
  exact ⟨V, us, n, F1, x, F2, h1.below hb, h2, h3, h4, h5, h6, h7, h8, h9.trans (Only.of_below (fun _ => False) hb) (fun _ _ e => e.elim), h10⟩
theorem IXm.cell (h : IXm W B b own S most mb F w w') : w'.cell? ⟨b, 3, none⟩ = some (.map (some mb)) := by
  obtain ⟨V, us, n, h1, _⟩ := h
  exact h1.own.get 3 _
theorem IXt.cell (h : IXt W B b own S most f mb a w w') : w'.cell? ⟨b, 3, none⟩ = some (.map (some mb)) := by
  obtain ⟨V, us, n, F1, x, F2, h1, _⟩ := h
  exact h1.own.get 3 _
theorem IXm.mm (h : IXm W B b own S most mb F w w') : MM famK w' mb (lookF F) F.length := by
  obtain ⟨V, us, n, h1, _⟩ := h
  exact h1.mapm mb rfl
theorem IXt.mm (h : IXt W B b own S most f mb a w w') : ∃ M n, MM famK w' mb M n ∧ M f = some (.pointer (some ⟨a, 0, none⟩)) := by
  obtain ⟨V, us, n, F1, x, F2, h1, h2, rfl, h4, _⟩ := h
  exact ⟨_, _, h1.mapm mb rfl, lookF_at h2 h4⟩
theorem ptr_zero (w : World) : (zeroValue 132).run Tryz.prog w = .ok (.pointer none) w := by kernel_rfl
theorem IXm.look (h : IXm W B b own S most mb F w w') (f : Int × Int) : (Instr.lookup 127 (.map (some mb)) (.agg #[.int .i64 f.1, .int .i64 f.2]) false).run Tryz.prog w' = .ok ((lookF F f).getD (.pointer none)) w' :=
  h.mm.lookup1K Tryz.underlying127 fam_keys (ptr_zero w') f
theorem IXt.look (h : IXt W B b own S most f mb a w w') : (Instr.lookup 127 (.map (some mb)) (.agg #[.int .i64 f.1, .int .i64 f.2]) false).run Tryz.prog w' = .ok (.pointer (some ⟨a, 0, none⟩)) w' := by
  obtain ⟨M, n, h1, h2⟩ := h.mm
  have := h1.lookup1K Tryz.underlying127 fam_keys (ptr_zero w') f
  rw [h2] at this
  exact this
theorem IXm.has {F1 F2 : List IxF} {x : IxF} (h : IXm W B b own S most mb (F1 ++ x :: F2) w w') (h1 : x.f = f) (h2 : f ∉ F1.map (·.f)) : IXt W B b own S most f mb x.a w w' := by
  obtain ⟨V, us, n, k1, k2, k3, k4, k5, k6, k7⟩ := h
  exact ⟨V, us, n, F1, x, F2, k1, h1, rfl, h2, k2, k3, k4, k5, k6, k7⟩
theorem IXm.put {w4 : World} {g : Nat} (h : IXm W B b own S most mb F w w4) (hb : Below w4.heap.size w4 w') (hB : B ≤ w.heap.size) (hf : f ∉ F.map (·.f)) (hk : (f.1 = 0 ∨ f.1 = 3 ∨ f.1 = 6) ∧ (f.2 = 4 ∨ f.2 = 16)) (hg : w4.heap.size ≤ g) (hc : Cs w' g [.pointer none, .int .i64 0]) :
    ∃ w2, (Instr.mapUpdate 127 (.map (some mb)) (.agg #[.int .i64 f.1, .int .i64 f.2]) (.pointer (some ⟨g, 0, none⟩))).run Tryz.prog w' = .ok () w2 ∧ IXt W B b own S most f mb g w w2 ∧ Only (fun q => q = mb) w' w2 := by
  obtain ⟨V, us, n, k0, k2, k3, k4, k5, k6, k7⟩ := h
  have hs := k6.size
  have k1 := k0.below hb
  have hgl : g ∉ ownI b V (some mb) F := fun e => by have := k0.lt g e; omega
  obtain ⟨w2, r1, r2, r3⟩ := (k1.mapm mb rfl).setK (v := .pointer (some ⟨g, 0, none⟩)) Tryz.underlying127 fam_keys f
  rw [lookF_no hf] at r2
  obtain ⟨g1, g2⟩ := k1.family hf hgl (by omega) hc r2 r3
  have ho : Only (fun q => q = mb) w' w2 := (Only.refl _ w').grown r3 (fun k e _ => (Option.some.inj e).symm)
  have hmb := k7 mb (IxOf.m_mem rfl)
  refine ⟨w2, r1, ⟨V, us, n, [], _, F, g1, rfl, rfl, by simp, k2.trans (treeF_cons g hf).symm, k3.trans (totF_cons F f g).symm, ?_, k5, (k6.trans (Only.of_below (fun _ => False) hb) (fun _ _ e => e.elim)).trans ho (fun q hq e => ?_), fun q hq => ?_⟩, ho⟩
  · intro y hy
    simp only [List.nil_append] at hy
    rcases List.mem_cons.1 hy with rfl | hy
    · exact hk
    · exact k4 y hy
  · subst e
    rcases hmb with e | e
    · exact e
    · omega
  · rcases g2 q hq with e | e
    · exact k7 q e
    · right; omega
theorem IXt.tree (h : IXt W B b own S most f mb a w w') (q : List UInt8) (v : Int) (hm : mayL q = true) (hmo : most ≤ 34359738368) (hto : S.tot < 1152921504606846975) :
    Calls Tryz.prog 61 #[.pointer (some ⟨a, 0, none⟩), .string (sb q), .int .i64 v] w' fun e w2 => e = .returned (.bool (getR (S.G f) q).isNone) ∧
      IXn W B b own { S with G := fun g => if g = f then putR (S.G f) q v else S.G g, tot := if (getR (S.G f) q).isSome then S.tot else S.tot + 1 } (most + 1) w w2 := by
  obtain ⟨V, us, n, F1, x, F2, h1, h2, h3, h4, h5, h6, h7, h8, h9, h10⟩ := h
  subst h3
  have hx : x ∈ F1 ++ x :: F2 := by simp
  have hG : S.G f = x.t := by rw [h5, treeF_at h2 h4]
  have hfew := h1.few x hx
  have hok := h1.tries x hx
  refine (hok.put q v hm (by omega)).mono ?_
  rintro e w2 ⟨rfl, bs', t1, t2, t3⟩
  have hkp := keys_put (x := v) hok.ok hok.fit hm
  have hxt : x.t.keys.length ≤ S.tot := by
    rw [h6]
    unfold totF
    simp only [List.map_append, List.map_cons, List.sum_append, List.sum_cons]
    omega
  have hkl : (putR x.t q v).keys.length ≤ 1152921504606846975 := by
    rw [hkp]; split <;> omega
  obtain ⟨g1, g2⟩ := h1.trie (x' := ⟨x.f, x.a, bs', putR x.t q v⟩) (most' := most + 1) (by omega) t1 rfl rfl hkl t2 t3
  have hmem : ∀ q, (q = x.a ∨ q ∈ x.bs) → q ∈ ownI b V (some mb) (F1 ++ x :: F2) := fun q e => IxOf.x_mem hx e
  rw [hG]
  refine ⟨rfl, _, ⟨V, us, n, some mb, F1 ++ ⟨x.f, x.a, bs', putR x.t q v⟩ :: F2, g1, rfl, ?_, ?_, ?_, ?_⟩, h9.trans t2 (fun p hp e => ?_), fun p hp => ?_⟩
  · show (fun g => if g = f then putR x.t q v else S.G g) = _
    have e := treeF_set (F1 := F1) (F2 := F2) (x := x) (x' := ⟨x.f, x.a, bs', putR x.t q v⟩) rfl (by rw [h2]; exact h4)
    rw [h5, ← h2]
    exact e.symm
  · have := totF_set F1 F2 x ⟨x.f, x.a, bs', putR x.t q v⟩
    simp only at this
    rw [hkp, ← h6] at this
    show (if (getR x.t q).isSome = true then S.tot else S.tot + 1) = _
    split at this <;> rename_i e <;> simp only [e] <;> simp <;> omega
  · intro y hy
    rcases List.mem_append.1 hy with e | e
    · exact h7 y (List.mem_append.2 (.inl e))
    · rcases List.mem_cons.1 e with rfl | e
      · exact h7 x hx
      · exact h7 y (List.mem_append.2 (.inr (List.mem_cons.2 (.inr e))))
  · show (if (getR x.t q).isSome = true then S.tot else S.tot + 1) ≤ 1152921504606846975
    split <;> omega
  · rcases h10 p (hmem p e) with e | e
    · exact e
    · omega
  · rcases g2 p hp with e | e
    · exact h10 p e
    · right; have := h9.size; omega
end
end Go.Proofs.YtkdknfedieeenaaGreatDoor
