/- Texts that walks stand on, one behind the other. -/
import Derived.Test.YtkpjehplchdmgaaDoorMgSD
import Derived.Outline
import Derived.Test.YtkpjehplchdmgaaDoorViewA
import Derived.Test.YtkpjehplchdmgaaDoorMgSB
import Derived.Test.YtkpjehplchdmgaaDoorAs
import Derived.Test.YtkpjehplchdmgaaDoorLaid
import Derived.Test.YtkpjehplchdmgaaDoorMgSA
namespace Go.Proofs.YtkpjehplchdmgaaDoor
open Go.RowKit
set_option linter.unusedVariables false
set_option linter.unusedSimpArgs false
set_option maxRecDepth 20000
theorem rmay_big (t : Int) (ht : 0 ≤ t ∧ t < 65536) (d : ByteArray) (hd : d.size ≤ 140737488355328) : ∃ q : Bool, ∀ w, Calls Tryd.prog 49 #[.int .u16 t, .string d] w fun e w' => e = .returned (.bool q) ∧ Below w.heap.size w w' := by
  by_cases h1 : t = 1
  · subst h1
    refine ⟨decide (d.size = 4), fun w => ?_⟩
    have heq : ((d.size : Int) == 4) = decide (d.size = 4) := by by_cases h : d.size = 4 <;> simp [h]; omega
    go_enter Tryd.func49, Tryd.ntmps49
    go_wp2_with fail
    go_ret
    exact ⟨rfl, Below.refl _ _⟩
  have e1 : (t == 1) = false := by simp; omega
  by_cases h28 : t = 28
  · subst h28
    refine ⟨decide (d.size = 16), fun w => ?_⟩
    have heq : ((d.size : Int) == 16) = decide (d.size = 16) := by by_cases h : d.size = 16 <;> simp [h]; omega
    go_enter Tryd.func49, Tryd.ntmps49
    go_wp2_with fail
    go_ret
    exact ⟨rfl, Below.refl _ _⟩
  have e28 : (t == 28) = false := by simp; omega
  by_cases h2 : t = 2
  · subst h2
    refine ⟨(labelsOf d).isSome, fun w => ?_⟩
    have HM := Lib.hid (fun w => may_any d w (by unfold maxLen; omega))
    go_enter Tryd.func49, Tryd.ntmps49
    go_wp2_with fail
    refine (HM.out w).mono ?_
    rintro e w1 ⟨rfl, hb⟩
    go_wp2_with fail
    go_ret
    exact ⟨rfl, hb⟩
  have e2 : (t == 2) = false := by simp; omega
  by_cases h5 : t = 5
  · subst h5
    refine ⟨(labelsOf d).isSome, fun w => ?_⟩
    have HM := Lib.hid (fun w => may_any d w (by unfold maxLen; omega))
    go_enter Tryd.func49, Tryd.ntmps49
    go_wp2_with fail
    refine (HM.out w).mono ?_
    rintro e w1 ⟨rfl, hb⟩
    go_wp2_with fail
    go_ret
    exact ⟨rfl, hb⟩
  have e5 : (t == 5) = false := by simp; omega
  by_cases h6 : t = 6
  · subst h6
    by_cases hx : ∃ a b t, IsSoa d.data.toList a b t
    · refine ⟨true, fun w => (rmay_soa d w hd).mono ?_⟩
      rintro e w' ⟨hb, ⟨-, rfl⟩ | ⟨hno, -⟩⟩
      · exact ⟨rfl, hb⟩
      · obtain ⟨a, b, t, h⟩ := hx
        exact absurd h (hno a b t)
    · refine ⟨false, fun w => (rmay_soa d w hd).mono ?_⟩
      rintro e w' ⟨hb, ⟨h, -⟩ | ⟨-, rfl⟩⟩
      · exact absurd h hx
      · exact ⟨rfl, hb⟩
  have e6 : (t == 6) = false := by simp; omega
  by_cases h16 : t = 16
  · subst h16
    by_cases hl : d.size ≤ 512
    · refine ⟨decide (d.size ≠ 0) && decide (runT d d.size = d.size), fun w => ?_⟩
      have HM := Lib.hid (fun w => texts_any d w hl)
      obtain ⟨Q, hQ⟩ : ∃ Q, (decide (d.size ≠ 0) && decide (runT d d.size = d.size)) = Q := ⟨_, rfl⟩
      rw [hQ] at HM ⊢
      clear hQ
      have hl' : (d.size : Int) ≤ 512 := by omega
      go_enter Tryd.func49, Tryd.ntmps49
      go_wp2_with fail
      refine (HM.out w).mono ?_
      rintro e w1 ⟨rfl, hb⟩
      go_wp2_with fail
      go_ret
      exact ⟨rfl, hb⟩
    · refine ⟨false, fun w => ?_⟩
      have hl' : ¬ (d.size : Int) ≤ 512 := by omega
      have hl2 : (512 : Int) < d.size := by omega
      go_enter Tryd.func49, Tryd.ntmps49
      go_wp2_with fail
      go_ret
      exact ⟨rfl, Below.refl _ _⟩
  have e16 : (t == 16) = false := by simp; omega
  refine ⟨decide (d.size ≤ 512), fun w => ?_⟩
  have heq : decide ((d.size : Int) ≤ 512) = decide (d.size ≤ 512) := by by_cases h : d.size ≤ 512 <;> simp [h] <;> omega
  go_enter Tryd.func49, Tryd.ntmps49
  go_wp2_with fail
  go_ret
  exact ⟨rfl, Below.refl _ _⟩
theorem mayrec_big (r : RecT) (ht : 0 ≤ r.2.1 ∧ r.2.1 < 65536) (hn : r.1.size ≤ 140737488355328) (hd : r.2.2.2.size ≤ 140737488355328) : ∃ q : Bool, ∀ w, Calls Tryd.prog 34 #[recV r] w fun e w' => e = .returned (.bool q) ∧ Below w.heap.size w w' := by
  obtain ⟨m, hm⟩ : ∃ m, (labelsOf r.1).isSome = m := ⟨_, rfl⟩
  have HM := Lib.hid (fun w => may_any r.1 w (by unfold maxLen; omega))
  rw [hm] at HM
  clear hm
  unfold recV
  cases m with
  | false =>
    refine ⟨false, fun w => ?_⟩
    go_enter Tryd.func34, Tryd.ntmps34
    go_wp2_with fail
    refine (HM.out _).mono ?_
    rintro e w1 ⟨rfl, hb⟩
    have HB := Lib.hid (below_alloc _ (Below.refl _ _) (Nat.le_refl _) hb)
    clear hb
    go_wp2_with fail
    go_ret
    exact ⟨rfl, HB.out⟩
  | true =>
    by_cases h41 : r.2.1 = 41
    · have e41 : (r.2.1 != 41) = false := by simp [h41]
      clear h41
      refine ⟨false, fun w => ?_⟩
      go_enter Tryd.func34, Tryd.ntmps34
      go_wp2_with fail
      refine (HM.out _).mono ?_
      rintro e w1 ⟨rfl, hb⟩
      have hc := (Cs.new w #[.string r.1, .int .u16 r.2.1, .int .u32 r.2.2.1, .string r.2.2.2] 32 [.string r.1, .int .u16 r.2.1, .int .u32 r.2.2.1, .string r.2.2.2]).below hb
      have c1 := hc.get 1 _
      have c3 := hc.get 3 _
      have HB := Lib.hid (below_alloc _ (Below.refl _ _) (Nat.le_refl _) hb)
      clear hb hc
      go_wp2_with fail
      go_ret
      exact ⟨rfl, HB.out⟩
    · have e41 : (r.2.1 != 41) = true := by simp [h41]
      obtain ⟨q, hq⟩ := rmay_big r.2.1 ht r.2.2.2 hd
      have HQ := Lib.hid hq
      clear hq
      refine ⟨q, fun w => ?_⟩
      go_enter Tryd.func34, Tryd.ntmps34
      go_wp2_with fail
      refine (HM.out _).mono ?_
      rintro e w1 ⟨rfl, hb⟩
      have hc := (Cs.new w #[.string r.1, .int .u16 r.2.1, .int .u32 r.2.2.1, .string r.2.2.2] 32 [.string r.1, .int .u16 r.2.1, .int .u32 r.2.2.1, .string r.2.2.2]).below hb
      have c1 := hc.get 1 _
      have c3 := hc.get 3 _
      have HB := Lib.hid (below_alloc _ (Below.refl _ _) (Nat.le_refl _) hb)
      clear hb hc
      go_wp2_with fail
      refine (HQ.out w1).mono ?_
      rintro e w2 ⟨rfl, hb2⟩
      have HB2 := Lib.hid (below_trans HB.out HB.out.size hb2)
      clear hb2
      go_wp2_with fail
      go_ret
      exact ⟨rfl, HB2.out⟩

/-- A record of any size that there may be. -/
def fitX (r : RecT) : Prop := (0 ≤ r.2.1 ∧ r.2.1 < 65536) ∧ r.1.size ≤ 140737488355328 ∧ r.2.2.2.size ≤ 140737488355328
theorem fit9.x {r : RecT} (h : fit9 r) : fitX r := ⟨h.1, Nat.le_trans h.2.1 (by decide), Nat.le_trans h.2.2 (by decide)⟩
theorem may_funX : ∃ m : RecT → Bool, ∀ r, fitX r → ∀ w, Calls Tryd.prog 34 #[recV r] w fun e w' => e = .returned (.bool (m r)) ∧ Below w.heap.size w w' := by
  have key : ∀ r : RecT, ∃ q : Bool, fitX r → ∀ w, Calls Tryd.prog 34 #[recV r] w fun e w' => e = .returned (.bool q) ∧ Below w.heap.size w w' := fun r => by
    by_cases h : fitX r
    · obtain ⟨q, hq⟩ := mayrec_big r h.1 (Nat.le_trans h.2.1 (by decide)) (Nat.le_trans h.2.2 (by decide))
      exact ⟨q, fun _ => hq⟩
    · exact ⟨false, fun h' => absurd h' h⟩
  exact ⟨fun r => Classical.choose (key r), fun r => Classical.choose_spec (key r)⟩
/-- Full, in one form. -/
theorem full_one (m : RecT → Bool) (o : ByteArray) (A : Option Addr) (n c : Nat) (rs : List RecT) (w : World) (h : Recs w A rs) (hl : rs.length = n) (hn : n ≤ 1000) (hc : n ≤ c) (ho : o.size ≤ maxLen) (hz : ∀ r ∈ rs, r.1.size ≤ maxLen)
    (hm : ∀ r ∈ rs, ∀ w, Calls Tryd.prog 34 #[recV r] w fun e w' => e = .returned (.bool (m r)) ∧ Below w.heap.size w w') :
    Calls Tryd.prog 11 #[.string o, .slice A n c] w fun e w' => ∃ (A' : Option Addr) (n' c' : Nat) (ev : Value), e = .returned (.tuple #[.slice A' n' c', ev]) ∧ (admR m o rs = false → ev = .iface 39 (.int .i64 4)) ∧ Below w.heap.size w w' := by
  by_cases h2 : n < 2
  · refine (full_few m o A n c rs w hl h2).mono ?_
    rintro e w' (⟨g1, g2, g3⟩ | ⟨g1, -⟩)
    · exact ⟨_, _, _, _, g2, fun _ => rfl, g3⟩
    · exfalso
      match rs, hl with
      | [], _ => cases g1
      | [_], _ => cases g1
      | a :: b :: t, hl => simp at hl; omega
  · obtain ⟨r, hr⟩ : ∃ r, rs[0]? = some r := ⟨_, List.getElem?_eq_getElem (by omega)⟩
    obtain ⟨bb, off, rfl, hbw, -⟩ := h.range hr
    refine (full_any m o bb off n c rs w h hl hn (by omega) hc ho hz hbw hm (fun wx hb => ?_)).mono ?_
    · have hp := (h.below hb).part 0 (n - 1)
      rw [Nat.zero_mul, Nat.add_zero, List.drop_zero] at hp
      have hp2 := hp.sl
      rw [show (rs.take (n - 1)).length = n - 1 by rw [List.length_take, hl]; omega] at hp2
      exact clone_recs _ _ _ _ _ _ hp2 (flatR_one _) (fun e => by cases e) (by omega)
    · rintro e w' (⟨g1, g2, g3⟩ | ⟨g1, v, g2, g3⟩)
      · exact ⟨_, _, _, _, g2, fun _ => rfl, g3⟩
      · rw [hl] at g3
        obtain ⟨A', c', rfl, -⟩ := g3.slice
        refine ⟨_, _, _, _, g2, fun had => ?_, g3.bel⟩
        exfalso
        match rs, hl with
        | [], hl => cases g1
        | [_], hl => cases g1
        | a :: b :: t, hl =>
          unfold fullR at g1
          simp only at g1
          rw [had] at g1
          simp at g1
/-- Part, in one form. -/
theorem part_one (m : RecT → Bool) (sf : RecT → Nat) (o : ByteArray) (fr : Nat) (A : Option Addr) (n c : Nat) (rs : List RecT) (w : World) (h : Recs w A rs) (hl : rs.length = n) (hn : n ≤ 1000) (hc : n ≤ c) (hc2 : c ≤ maxLen) (ho : o.size ≤ maxLen) (hz : ∀ r ∈ rs, r.1.size ≤ maxLen)
    (hm : ∀ r ∈ rs, ∀ w, Calls Tryd.prog 34 #[recV r] w fun e w' => e = .returned (.bool (m r)) ∧ Below w.heap.size w w')
    (hs : ∀ r ∈ rs, soaB r = true → ∀ w, Calls Tryd.prog 31 #[recV r] w fun e w' => e = .returned (.int .u32 (sf r : Nat)) ∧ Below w.heap.size w w') :
    Calls Tryd.prog 15 #[.string o, .int .u32 (fr : Nat), .slice A n c] w fun e w' => ∃ (b : Bool) (A1 : Option Addr) (n1 c1 : Nat) (A2 : Option Addr) (n2 c2 : Nat) (ev : Value), e = .returned (.tuple #[.agg #[.bool b, .slice A1 n1 c1, .slice A2 n2 c2], ev]) ∧ (admR m o rs = false → ev = .iface 39 (.int .i64 4)) ∧ Below w.heap.size w w' := by
  have hne : ∀ y, partR m sf o fr rs = .inr y → admR m o rs = true := fun y hy => by
    cases had : admR m o rs with
    | true => rfl
    | false => unfold partR at hy; rw [had, if_neg (by simp)] at hy; cases hy
  refine (part_any m sf o fr A n c rs w h hl hn hc hc2 ho hz hm hs).mono ?_
  rintro e w' (⟨er, g1, rfl, g3⟩ | ⟨g1, rfl, g3⟩ | ⟨g1, A', c', rfl, g3⟩ | ⟨xs, A', c', g1, rfl, g3, -⟩)
  · refine ⟨_, _, _, _, _, _, _, _, rfl, fun had => ?_, g3⟩
    unfold partR at g1
    rw [had, if_neg (by simp)] at g1
    injection g1 with g1
    rw [← g1]; rfl
  · exact ⟨_, _, _, _, _, _, _, _, rfl, fun had => (by rw [hne _ g1] at had; cases had), g3⟩
  · exact ⟨_, _, _, _, _, _, _, _, rfl, fun had => (by rw [hne _ g1] at had; cases had), g3.bel⟩
  · exact ⟨_, _, _, _, _, _, _, _, rfl, fun had => (by rw [hne _ g1] at had; cases had), g3.bel⟩
end Go.Proofs.YtkpjehplchdmgaaDoor
namespace Go.Proofs.YtkpjehplchdmgaaDoor
open Go.RowKit
set_option linter.unusedVariables false
set_option linter.unusedSimpArgs false
set_option maxRecDepth 20000
attribute [local simp] putsF isV wordOf Deps Region.binds Region.wanted Act.put wantedX isB
theorem so_facts (rn rc M m1 : Nat) (h : M = min rn 10) (hr : rn ≤ rc) (hm : m1 ≤ 10) : (if (10 : Int) < rn then (10 : Int) else (rn : Int)) = (M : Int) ∧ (if 10 < rn then (10 : Int) else (rn : Int)) = (M : Int) ∧ (M : Int) ≤ rc ∧ M ≤ rc ∧ (0 : Int) ≤ (M : Int) ∧ m1 + M ≤ maxLen ∧ (m1 + M) * 40 ≤ 140737488355328 ∧ m1 + M ≤ 1000 ∧ (if (rn : Int) < 10 then (rn : Int) else (10 : Int)) = (M : Int) ∧ (if rn < 10 then (rn : Int) else (10 : Int)) = (M : Int) := by
  unfold maxLen
  refine ⟨by split <;> omega, by split <;> omega, by omega, by omega, by omega, by omega, by omega, by omega, by split <;> omega, by split <;> omega⟩
set_option maxHeartbeats 6400000 in
theorem streamOther_walk (w : World) (hE : Etype w) (z : Int) (hz : (Lit.int .u8 z).wf = true) (A : Option Addr) (n c : Nat) (ds : List ActT) (hV : Acts5 w A n c ds) (R : Option Addr) (rn rc : Nat) (zs : List RecT) (hR : RecsV w R rn rc zs) (hW : ∀ r ∈ zs, r.1.size ≤ 140737488351232 ∧ r.2.2.2.size ≤ 140737488351232) :
    Calls Tryd.prog 6 #[.int .u8 z, .slice A n c, .slice R rn rc] w fun e w' => e = .returned (.bool true) ∧ Below w.heap.size w w' := by
  obtain ⟨mf, hmf⟩ := may_funX
  obtain ⟨sf, hsf⟩ := ser_fun
  have hz8 := u8_wf hz
  obtain ⟨on, rfl⟩ : ∃ on : Nat, z = on := ⟨z.toNat, by omega⟩
  have OG := Lib.hid (fun w => origin_any on (by omega) w)
  have hob := originB_le on
  generalize originB on = o at *
  have hom : o.size ≤ maxLen := Nat.le_trans hob (by decide)
  have hnm : n ≤ maxLen := Nat.le_trans hV.le hV.max
  have hat := hV.at_
  obtain ⟨us, hus⟩ : ∃ us, us = undersOf o true ds 10 := ⟨_, rfl⟩
  have hul : us.length ≤ 10 := by rw [hus, undersOf_len]; omega
  have huf : ∀ r ∈ us, fit9 r := by rw [hus]; exact fit9_unders o hob true ds 10
  have UN : Hid (∀ wx, Below w.heap.size w wx → Calls Tryd.prog 9 #[.string o, .slice A n c, .int .i64 10, .bool true] wx fun e w' => ∃ v, e = .returned v ∧ OBM 4 wx.heap.size wx v us.length (flatR us) w') := Lib.hid (fun wx hb => by rw [hus]; exact under_any o A n c 10 true ds wx (hat.below hb) hnm (by omega) hom)
  obtain ⟨M, hM⟩ : ∃ M, M = min rn 10 := ⟨_, rfl⟩
  obtain ⟨m1, hm1⟩ : ∃ M, M = us.length := ⟨_, rfl⟩
  rw [← hm1] at UN hul
  obtain ⟨f1, f2, f3, f4, f5, f6, f7, f8, f9, fa⟩ := so_facts rn rc M m1 hM hR.le hul
  obtain ⟨zt, hzt⟩ : ∃ l, l = zs.take M := ⟨_, rfl⟩
  have hztl : zt.length = M := by rw [hzt, List.length_take, hR.len]; omega
  have hrz : Recs w R zt := fun i r hr => hR.recs i r (by rw [hzt, List.getElem?_take] at hr; split at hr; exact hr; cases hr)
  have hzf : ∀ r ∈ zt, fitX r := fun r hr => by
    rw [hzt] at hr
    have hm := List.mem_of_mem_take hr
    have h1 := (hR.ok r hm).2.1
    have h2 := hW r hm
    have h3 : IntKind.u16.min ≤ r.2.1 ∧ r.2.1 ≤ IntKind.u16.max := by simpa [Lit.wf] using h1
    have h4 : IntKind.u16.min = 0 := rfl
    have h5 : IntKind.u16.max = 65535 := rfl
    exact ⟨by omega, by omega, by omega⟩
  have hnone : R = none → M = 0 ∧ rc = 0 := fun e => by have := hR.none_ e; omega
  have HNO := Lib.hid hnone
  obtain ⟨i0, hi, hz0, hz1, hz2⟩ := info_parts4 rec_info
  have HET := Lib.hid hE
  have HOM := Lib.hid hom
  have HMF := Lib.hid hmf
  have HSF := Lib.hid hsf
  have HRZ := Lib.hid hrz
  have HZL := Lib.hid hztl
  have HZF := Lib.hid hzf
  have HUF := Lib.hid huf
  have HM1 := Lib.hid hm1
  have HF := Lib.hid (And.intro f6 (And.intro f7 f8))
  clear hz hat hV hnm hz8 hob hE hmf hom hsf hus hR hW hM hzt hztl hrz hzf huf hul hm1 f6 f7 f8 hnone
  go_enter Tryd.func6, Tryd.ntmps6
  go_wp2_with fail
  refine (awake09_any _).mono ?_
  rintro e w1 ⟨rfl, hb1⟩
  have HB1 := Lib.hid hb1
  clear hb1
  go_wp2_with fail
  refine (OG.out _).mono ?_
  rintro e w2 ⟨rfl, hb2⟩
  have HB2 := Lib.hid (below_trans HB1.out HB1.out.size hb2)
  clear hb2 OG
  go_upto_region 4 with fail
  refine wp_region_tail data_follows (fun x => by simp [putsF, Act.put]; rfl) (fun v => Below w2.heap.size w2 v)
    [isV (.string o), isV (.slice A n c), ownW 4 w2.heap.size w2 m1 (flatR us), isV (.slice R rn rc), isV (.slice R rn rc), isV (.int .i64 (rn : Nat)), isV (.int .i64 (M : Nat)), isV (.slice R M rc)]
    8 [] (by kernel_rfl) (by kernel_rfl) (by kernel_rfl) rfl (by kernel_rfl) (by kernel_rfl) ?_ (Below.refl _ _).drew ?_ ?_
  · repeat (first | exact trivial | refine ⟨by first | exact isV_stays _ | exact ownW_stays _ _ _ _ _, ?_⟩)
  · refine ⟨?_, ?_, ?_, ?_, ?_, ?_, ?_, ?_, skipped rfl, skipped rfl, trivial⟩
    all_goals
      intro _ x wx hR hd
      refine ⟨fun _ => ?_, fun hX => by simp at hX⟩
      simp at hd ⊢
    · go_simp; exact nextL _ rfl rfl hR (Below.refl _ _)
    · go_simp; exact nextL _ rfl rfl hR (Below.refl _ _)
    · try simp [hd]
      go_simp
      go_at_call 9
      refine (UN.out wx (below_trans HB2.out HB2.out.size hR)).mono ?_
      rintro r wy ⟨v, rfl, ho⟩
      exact nextL v rfl (ho.out hR.size hR) (below_trans hR hR.size ho.bel) ho.bel
    · go_simp; exact nextL _ rfl rfl hR (Below.refl _ _)
    · go_simp; exact nextL _ rfl rfl hR (Below.refl _ _)
    · go_simp; exact nextL _ rfl rfl hR (Below.refl _ _)
    · go_simp; exact nextL _ rfl rfl hR (Below.refl _ _)
    · obtain ⟨hd0, hd1⟩ := hd
      have hnz := HNO.out
      cases R with
      | none =>
        obtain ⟨h1, rfl⟩ := hnz rfl
        subst h1
        go_simp; exact nextL _ rfl rfl hR (Below.refl _ _)
      | some ad => go_simp; exact nextL _ rfl rfl hR (Below.refl _ _)
  intro x w4 hR hx hap
  obtain ⟨-, -, ho2, -, -, -, -, x7, -⟩ := hx
  have x7 : x 7 = .slice R M rc := x7
  have ho2 : OBM 4 w2.heap.size w2 (x 2) m1 (flatR us) w4 := ho2
  have hS : Src Tryd.prog 4 26 (.slice R M rc) M (flatR zt) w4 := by
    have h := (HRZ.out.below (below_trans HB2.out HB2.out.size hR)).sl
    rw [HZL.out] at h
    exact Sl.srcM Tryd.underlying26 h (fun e => (HNO.out e).1) (flatR_one zt)
  change tailWp _ _ [_, _] _ _
  rw [tail_cons, x7]
  refine oper_append_obm _ _ _ _ rfl 32 i0 _ 40 Tryd.underlying26 hi hz0 hz1 hz2 rfl ho2 rfl rfl hS (by rw [flatR_len, HZL.out]) HF.out.1 HF.out.2.1 ?_
  intro v' w5 q1 q2 q3 q4
  refine ⟨v', rfl, ?_⟩
  rw [tail_cons]
  have q1' : OBM 4 w2.heap.size w2 v' (m1 + M) (flatR (us ++ zt)) w5 := by unfold flatR at q1 ⊢; rw [List.flatMap_append]; exact q1
  obtain ⟨VS, CS, rfl, hcs1, hcs2, -⟩ := q1'.slice
  have hlen : (us ++ zt).length = m1 + M := by rw [List.length_append, HM1.out, HZL.out]
  have hrec := q1'.recs hlen
  have HB5 := Lib.hid (below_trans HB2.out HB2.out.size q1'.bel)
  clear q1 q2 q3 q4 hap hR ho2 hS x7
  go_simp
  rw [tail_nil]
  obtain ⟨rs, hrs⟩ : ∃ l, l = us ++ zt := ⟨_, rfl⟩
  rw [← hrs] at hlen hrec
  have hfx : ∀ r ∈ rs, fitX r := fun r hr => by
    rw [hrs] at hr
    rcases List.mem_append.1 hr with h | h
    · exact (HUF.out r h).x
    · exact HZF.out r h
  obtain ⟨m, hm⟩ : ∃ m, m = m1 + M := ⟨_, rfl⟩
  have hn5 : m ≤ 1000 := by rw [hm]; exact HF.out.2.2
  rw [← hm] at hlen hcs1 ⊢
  have hz5 : ∀ r ∈ rs, r.1.size ≤ maxLen := fun r hr => Nat.le_trans (hfx r hr).2.1 (by decide)
  have hm5 : ∀ r ∈ rs, ∀ w, Calls Tryd.prog 34 #[recV r] w fun e w' => e = .returned (.bool (mf r)) ∧ Below w.heap.size w w' := fun r hr => HMF.out r (hfx r hr)
  have FU := Lib.hid (full_one mf o VS m CS rs w5 hrec hlen hn5 hcs1 HOM.out hz5 hm5)
  have PA : Hid (∀ wx, Below w5.heap.size w5 wx → Calls Tryd.prog 15 #[.string o, .int .u32 3, .slice VS m CS] wx fun e w' => ∃ (b : Bool) (A1 : Option Addr) (n1 c1 : Nat) (A2 : Option Addr) (n2 c2 : Nat) (ev : Value), e = .returned (.tuple #[.agg #[.bool b, .slice A1 n1 c1, .slice A2 n2 c2], ev]) ∧ (admR mf o rs = false → ev = .iface 39 (.int .i64 4)) ∧ Below wx.heap.size wx w') := Lib.hid (fun wx hb => part_one mf sf o 3 VS m CS rs wx (hrec.below hb) hlen hn5 hcs1 hcs2 HOM.out hz5 hm5 (fun r hr hs w => serial_any HSF.out r hs (hfx r hr).2.2 w))
  have MA := Lib.hid (fun (wx : World) (hb : Below w5.heap.size w5 wx) => may9_any mf o VS m CS rs wx (hrec.below hb) hlen (Nat.le_trans hn5 (by decide)) HOM.out hz5 hm5)
  clear hlen hrec hfx hm hn5 hz5 hm5 hrs hcs1 hcs2 UN HMF HNO HF
  go_wp2_with fail
  refine FU.out.mono ?_
  rintro e w6 ⟨A', n', c', ev, rfl, hev, hb6⟩
  have HB6 := Lib.hid hb6
  have HEV := Lib.hid hev
  clear hb6 hev FU
  go_wp2_with fail
  refine (PA.out _ HB6.out).mono ?_
  rintro e w7 ⟨b, A1, n1, c1, A2, n2, c2, ev2, rfl, hev2, hb7⟩
  have HB7 := Lib.hid (below_trans HB6.out HB6.out.size hb7)
  have HEV2 := Lib.hid hev2
  have hZ := Cs.new w7 #[.bool false, .slice none 0 0, .slice none 0 0] 48 [.bool false, .slice none 0 0, .slice none 0 0]
  have HTH := Lib.hid (hZ.there 3 rfl)
  have HB8 := Lib.hid (below_setCells' (B := w5.heap.size) (g := w7.heap.size) HB7.out.size [.bool b, .slice A1 n1 c1, .slice A2 n2 c2] 0 (HB7.out.alloc HB7.out.size (.cells #[.bool false, .slice none 0 0, .slice none 0 0] 48)))
  clear hb7 hev2 hZ PA
  go_upto_region 7 with (first | refine wpList_store_mid rfl 48 _ _ rfl w7.heap.size 0 #[.bool b, .slice A1 n1 c1, .slice A2 n2 c2] rfl rfl HTH.out (by kernel_rfl) (by simp [Value.oneCell']) ?_)
  generalize (w7.alloc (.cells #[.bool false, .slice none 0 0, .slice none 0 0] 48)).setCells w7.heap.size 0 [.bool b, .slice A1 n1 c1, .slice A2 n2 c2] = w8 at *
  have MA := Lib.hid (MA.out _ HB8.out)
  cases had : admR mf o rs with
  | true =>
    rw [had] at MA
    clear HEV HEV2 had
    go_wp2_with fail
    refine MA.out.mono ?_
    rintro e w9 ⟨rfl, hb9⟩
    have HB9 := Lib.hid (below_trans HB5.out HB5.out.size (below_trans HB8.out HB8.out.size hb9))
    clear hb9 MA
    go_wp2_with fail
    go_ret
    exact ⟨rfl, HB9.out⟩
  | false =>
    rw [had] at MA
    obtain rfl := HEV.out had
    obtain rfl := HEV2.out had
    clear HEV HEV2 had
    go_wp2_with fail
    refine MA.out.mono ?_
    rintro e w9 ⟨rfl, hb9⟩
    have HB9 := Lib.hid (below_trans HB5.out HB5.out.size (below_trans HB8.out HB8.out.size hb9))
    have NE := Lib.hid (number_errno 4 w9 (HET.out.keep (Nat.le_refl _) HB9.out))
    clear hb9 MA
    go_wp2_with fail
    refine NE.out.mono ?_
    rintro e wa ⟨rfl, hba⟩
    have HBA := Lib.hid (below_trans HB9.out HB9.out.size hba)
    have NE2 := Lib.hid (number_errno 4 wa (HET.out.keep (Nat.le_refl _) HBA.out))
    clear hba NE
    go_wp2_with fail
    refine NE2.out.mono ?_
    rintro e wb ⟨rfl, hbb⟩
    have HBB := Lib.hid (below_trans HBA.out HBA.out.size hbb)
    clear hbb NE2
    go_wp2_with fail
    go_ret
    exact ⟨rfl, HBB.out⟩
end Go.Proofs.YtkpjehplchdmgaaDoor
namespace Go.Proofs.YtkpjehplchdmgaaDoor
open Go.ChangeShapes Go.WideShapes Go.ChangeAt Go.RowKit Go.Deep
set_option linter.unusedVariables false
section
variable {H : Type} {enc : TypeId × Value → H} {P : Program} {w : World} {d : DataW H} {p : List MemPlace}
theorem view_recs4w {t e : TypeId} {f0 f1 f2 f3 : Field} (ht : P.underlying t = some (.slice e)) (hs : P.underlying e = some (.struct #[f0, f1, f2, f3])) (hone : oneCellFields P #[f0, f1, f2, f3] = true) (hC : P.cellsOf e = 4)
    (h0 : P.underlying f0.type = some .string) (h1 : P.underlying f1.type = some (.int .u16)) (h2 : P.underlying f2.type = some (.int .u32)) (h3 : P.underlying f3.type = some .string) {m : Nat} {cs : List Value}
    (h : DataW.trod enc P w 0 (fun _ => true) true m t cs = some (d, p)) :
    ∃ A n c, ∃ rs : List RecT, ∃ el : List (DataW H), cs = [.slice A n c] ∧ RecsV w A n c rs ∧ el.length = n ∧ ((d = .nil ∧ n = 0 ∧ c = 0) ∨ ∃ sp, d = .slice el sp ∧ sp.length = c - n) ∧ ∀ r ∈ rs, (∃ D ∈ el, r.1.size ∈ D.weights P e) ∧ (∃ D ∈ el, r.2.2.2.size ∈ D.weights P e) := by
  rcases open_slice ht h with ⟨rfl, hx⟩ | ⟨a, len, cap, m', n', D, Pl, rfl, hbase, hl, hm, hmm, hx, hi⟩
  · simp only [Prod.mk.injEq] at hx
    exact ⟨none, 0, 0, [], [], rfl, ⟨rfl, fun _ => ⟨rfl, rfl⟩, Nat.le_refl _, Nat.zero_le _, fun i r h => by simp at h, by simp⟩, rfl, .inl ⟨hx.1, rfl, rfl⟩, by simp⟩
  · simp only [if_true] at hmm
    simp only [Prod.mk.injEq] at hx
    have key : ∀ j, j < len → ∃ x : RecT, (w.cell? (a.add (j * 4)) = some (.string x.1) ∧ w.cell? (a.add (j * 4 + 1)) = some (.int .u16 x.2.1) ∧ w.cell? (a.add (j * 4 + 2)) = some (.int .u32 x.2.2.1) ∧ w.cell? (a.add (j * 4 + 3)) = some (.string x.2.2.2)) ∧
        (x.1.size ≤ maxLen ∧ (Lit.int .u16 x.2.1).wf = true ∧ (Lit.int .u32 x.2.2.1).wf = true ∧ x.2.2.2.size ≤ maxLen) ∧ x.1.size ∈ (D j).weights P e ∧ x.2.2.2.size ∈ (D j).weights P e := by
      intro j hj
      obtain ⟨cs', g1, g2⟩ := hi j (by omega)
      rw [hC] at g1
      obtain ⟨_, hlen, hcell⟩ := World.cells?_some g1
      match cs', hlen with
      | [v0, v1, v2, v3], _ =>
        obtain ⟨y0, y1, y2, y3, k, hy, _, t0, t1, t2, t3⟩ := Joins.trod_struct4 hs g2
        obtain ⟨o0, k0⟩ := hone_of hone 0 f0 rfl
        obtain ⟨o1, k1⟩ := hone_of hone 1 f1 rfl
        obtain ⟨o2, k2⟩ := hone_of hone 2 f2 rfl
        obtain ⟨o3, k3⟩ := hone_of hone 3 f3 rfl
        rw [o0, k0] at t0
        rw [o1, k1] at t1
        rw [o2, k2] at t2
        rw [o3, k3] at t3
        simp only [List.drop_zero, List.take_succ_cons, List.take_zero, List.drop_succ_cons] at t0 t1 t2 t3
        obtain ⟨z0, e0, d0, w0⟩ := DataW.trod_string h0 t0
        obtain ⟨z1, e1, -, w1⟩ := DataW.trod_int h1 t1
        obtain ⟨z2, e2, -, w2⟩ := DataW.trod_int h2 t2
        obtain ⟨z3, e3, d3, w3⟩ := DataW.trod_string h3 t3
        simp only [List.cons.injEq, and_true] at e0 e1 e2 e3
        subst e0 e1 e2 e3
        have hDj : D j = .agg [y0.1, y1.1, y2.1, y3.1] := by
          have := congrArg Prod.fst hy
          simpa using this
        refine ⟨(z0, z1, z2, z3), ⟨?_, ?_, ?_, ?_⟩, ⟨w0, w1, w2, w3⟩, ?_, ?_⟩
        · have q := hcell 0 (by omega); rw [Addr.add_add] at q; exact q
        · have q := hcell 1 (by omega); rw [Addr.add_add] at q; exact q
        · have q := hcell 2 (by omega); rw [Addr.add_add] at q; exact q
        · have q := hcell 3 (by omega); rw [Addr.add_add] at q; exact q
        · show z0.size ∈ (D j).weights P e
          rw [hDj]
          simp only [DataW.weights, hs, DataW.weightsEach, List.map_cons, List.map_nil]
          rw [d0]
          simp [DataW.weights]
        · show z3.size ∈ (D j).weights P e
          rw [hDj]
          simp only [DataW.weights, hs, DataW.weightsEach, List.map_cons, List.map_nil]
          rw [d3]
          simp [DataW.weights]
    obtain ⟨ds, hal, has⟩ := choose_idx len key
    refine ⟨some a, len, cap, ds, (List.range len).map D, rfl, ⟨hal, (fun h => by cases h), hl, hm, fun i r hr => ?_, ?_⟩, by simp, .inr ⟨_, hx.1, by simp; omega⟩, ?_⟩
    · obtain ⟨b', off, spot⟩ := a
      obtain ⟨q0, q1, q2, q3⟩ := (has i r hr).1
      obtain ⟨x0, hx0⟩ : ∃ x, ds[0]? = some x := ⟨_, List.getElem?_eq_getElem (by have := (List.getElem?_eq_some_iff.1 hr).1; omega)⟩
      have g0 := (has 0 x0 hx0).1.1
      have hspot : spot = none := by simpa [Addr.add] using World.cell?_spot g0
      subst hspot
      refine ⟨b', off, rfl, ?_, ?_⟩
      · have := World.block_lt_of_cell? w _ q0
        rwa [Addr.add_lit] at this
      · rw [Addr.add_lit] at q0 q1 q2 q3
        exact ⟨q0, by rw [Nat.add_assoc]; exact q1, by rw [Nat.add_assoc]; exact q2, by rw [Nat.add_assoc]; exact q3⟩
    · intro x hx'
      obtain ⟨i, hi', rfl⟩ := List.getElem_of_mem hx'
      exact (has i _ (List.getElem?_eq_getElem hi')).2.1
    · intro x hx'
      obtain ⟨i, hi', rfl⟩ := List.getElem_of_mem hx'
      obtain ⟨g0, g3⟩ := (has i _ (List.getElem?_eq_getElem hi')).2.2
      have hD : D i ∈ (List.range len).map D := List.mem_map.2 ⟨i, by simp; omega, rfl⟩
      exact ⟨⟨D i, hD, g0⟩, ⟨D i, hD, g3⟩⟩
end
end Go.Proofs.YtkpjehplchdmgaaDoor
