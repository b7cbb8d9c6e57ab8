/- The walk of FrameMake. -/
import Derived.Test.YtioichenjoeonaaLawFrame
import Derived.Test.YtioichenjoeonaaView
import Derived.Test.YtioichenjoeonaaReg2
namespace Go.Proofs.Ytioichenjoeonaa
open Go.RowKit
set_option linter.unusedVariables false

theorem fm_follows : Try.prog.follows .mixedOrders = true := by kernel_rfl
attribute [local simp] isV wordOf Deps Region.binds wantedX isB Act.put
set_option maxHeartbeats 1600000 in
set_option maxRecDepth 20000 in
theorem frameMake_walk (w : World) (A : Option Addr) (n c : Nat) (zs : List Int) (hV : SlView w A n c (zs.map (Value.int .u8))) (hl : zs.length = n) (hz : ∀ z ∈ zs, (Lit.int .u8 z).wf = true) (hc : c ≤ 140737488351232)
    (x : Int) (hx : (Lit.int .u16 x).wf = true) :
    Calls Try.prog 13 #[.slice A n c, .int .u16 x] w fun e w' => e = .returned (.bool true) ∧ Below w.heap.size w w' := by
  obtain ⟨i0, hi, hz0, hz1, hz2'⟩ := info_parts num_info
  obtain ⟨l, hzl⟩ := bytes_of zs hz
  rw [hzl] at hV
  have hx2 := bounds_u16 hx
  have hnc := hV.le
  have hS : Sl w w.heap.size 1 A n (l.map bv) := hV.sl
  have HA := Lib.hid (fun h => (hV.none_ h).1 : A = none → n = 0)
  clear hzl hz hl hV hx
  obtain ⟨X, rfl⟩ := Int.eq_ofNat_of_zero_le hx2.1
  obtain ⟨p, hp⟩ : ∃ p, p = X % 1300 := ⟨_, rfl⟩
  have hp1 : (X : Int) % 1300 = (p : Int) := by omega
  have hp2 : p < 1300 := by omega
  clear hp
  by_cases hn : 600 < n
  · go_enter Try.func13, Try.ntmps13
    go_wp2_with fail
    refine (awake22_any _).mono ?_
    rintro e w1 ⟨rfl, hB1⟩
    go_wp2_with fail
    refine (make_no A n c _ hn (by unfold maxLen; omega)).mono ?_
    rintro e w2 ⟨rfl, rfl⟩
    go_wp2_with (first | (at_make; refine wpList_make_full _ rfl _ _ 22 rfl w.heap.size 5 i0 (.int .u8 0) 1 Try.underlying22 hi hz0 hz1 _ _ _ _ p rfl rfl (by omega) (by omega) (by rw [hz2']; omega) (by unfold maxLen; omega) (by have := hB1.size; omega) ?_; intro w8 hown8 hg8))
    rw [show (madeCells (Value.int .u8 0).cells (p * 1)).toList = (List.replicate p (0 : UInt8)).map bv by rw [Nat.mul_one, List.map_replicate]; exact toList_madeCells_one _ _] at hown8
    have hob8 := OB.of_own hown8 (below_grown_none hB1 hg8 hB1.size) (Nat.le_trans hB1.size hg8.size)
    have hsl8 := hob8.sl
    have hB8 := hob8.bel
    clear hown8 hg8 hob8
    by_cases hp6 : 600 < p
    · refine (make_no _ p _ _ hp6 (by unfold maxLen; omega)).mono ?_
      rintro e w9 ⟨rfl, rfl⟩
      have hd6 : decide ((p : Int) ≤ 600) = false := by simp; omega
      go_wp2_with fail
      go_ret
      exact ⟨rfl, hB8⟩
    · have hp7 : p ≤ 600 := by omega
      refine (make_yes _ p _ _ _ hsl8 (by intro h; cases h) hp7).mono ?_
      rintro e w9 ⟨g9, rfl, hown9, hb9⟩
      have hB9 := hB8.trans (hb9.mono hB8.size)
      clear hown9 hb9 hsl8
      have hd6 : decide ((p : Int) ≤ 600) = true := by simp; omega
      go_wp2_with fail
      go_ret
      exact ⟨rfl, hB9⟩
  · have hn6 : n ≤ 600 := by omega
    have hck := chkN_lt l
    obtain ⟨q, eq⟩ : ∃ q, q = chkN l := ⟨_, rfl⟩
    obtain ⟨FL, eFL⟩ : ∃ FL : ByteArray, FL = ⟨(frameL l).toArray⟩ := ⟨_, rfl⟩
    have EQ := Lib.hid eq
    have EFL := Lib.hid eFL
    rw [← eq] at hck
    clear hn eq eFL
    go_enter Try.func13, Try.ntmps13
    go_wp2_with fail
    refine (awake22_any _).mono ?_
    rintro e w1 ⟨rfl, hB0⟩
    go_wp2_with fail
    refine (make_yes A n c l _ ((hS.below hB0).more hB0.size) HA.out hn6).mono ?_
    rintro e w2 ⟨g, rfl, hown, hb⟩
    have hB2 := hB0.trans (hb.mono hB0.size)
    have htx := Txt.of_own hown
    have HT := Lib.hid htx
    have hz2'' := hB2.size
    clear hown hb htx hB0
    go_wp2_with fail
    refine wp_region_goesG fm_follows (fun x => by simp [putsF, Act.put]; rfl) w2.heap.size w2
      [isV (.bool true), isV (.bool false), isV (.bool false), isV (.slice (some ⟨g, 0, none⟩) (n + 6) (n + 6)), isV (.string FL), isV (.slice A n c), isV (.string FL), isV (.bool false), isV (.bool false), isV (.bool false),
        isV (.slice A n c), isV (.int .u16 (q : Nat)), isV (.slice A n c), isV (.int .u16 (q : Nat)), isV (.bool false), isV (.bool false)]
      (by kernel_rfl) (by kernel_rfl) (by kernel_rfl) rfl ?_ (Below.refl _ _) ?_ ?_
    · repeat (first | exact trivial | refine ⟨isV_stays _, ?_⟩)
    · refine ⟨?_, ?_, ?_, ?_, ?_, ?_, ?_, ?_, ?_, ?_, ?_, ?_, ?_, ?_, ?_, ?_, trivial⟩
      all_goals
        intro x wx hR hd
        simp at hd ⊢
      all_goals try simp [hd]
      all_goals try (go_simp; exact next_same _ rfl rfl hR)
      · obtain ⟨hd0, -⟩ := hd
        have hv := (HT.out.goes hR).conv (P := Try.prog) 22 9 5 Try.underlying22 Try.underlying5 Try.underlying9 (n + 6)
        rw [← EFL.out] at hv
        go_simp
        exact next_same _ rfl rfl hR
      · obtain ⟨hd0, -⟩ := hd
        go_simp
        go_at_call 36
        refine (made_any A n c l _ ((hS.below (hB2.trans (hR.mono hz2''))).more (Nat.le_trans hz2'' hR.size)) HA.out hn6).mono ?_
        rw [← EFL.out]
        rintro e wy ⟨rfl, hby⟩
        exact next_call _ rfl rfl hR hR.size hby
      · obtain ⟨hd0, -⟩ := hd
        go_simp
        go_at_call 37
        refine (check_any A n c l _ ((hS.below (hB2.trans (hR.mono hz2''))).more (Nat.le_trans hz2'' hR.size)) (by unfold maxLen; omega)).mono ?_
        rw [← EQ.out]
        rintro e wy ⟨rfl, rfl⟩
        exact next_same _ rfl rfl hR
      · obtain ⟨hd0, -⟩ := hd
        go_simp
        go_at_call 38
        refine (check22_any A n c l _ ((hS.below (hB2.trans (hR.mono hz2''))).more (Nat.le_trans hz2'' hR.size)) (by unfold maxLen; omega)).mono ?_
        rw [← EQ.out]
        rintro e wy ⟨rfl, rfl⟩
        exact next_same _ rfl rfl hR
    intro x w3 hb3 hx
    simp [AllWords] at hx ⊢
    have hx15 : x 15 = .bool false := by simp [hx]
    clear hx
    rw [hx15]
    have hB1 := hB2.trans (hb3.mono hB2.size)
    go_wp2_with (first | (at_make; refine wpList_make_full _ rfl _ _ 22 rfl w.heap.size 5 i0 (.int .u8 0) 1 Try.underlying22 hi hz0 hz1 _ _ _ _ p rfl rfl (by omega) (by omega) (by rw [hz2']; omega) (by unfold maxLen; omega) (by have := hB1.size; omega) ?_; intro w8 hown8 hg8))
    rw [show (madeCells (Value.int .u8 0).cells (p * 1)).toList = (List.replicate p (0 : UInt8)).map bv by rw [Nat.mul_one, List.map_replicate]; exact toList_madeCells_one _ _] at hown8
    have hob8 := OB.of_own hown8 (below_grown_none hB1 hg8 hB1.size) (Nat.le_trans hB1.size hg8.size)
    have hsl8 := hob8.sl
    have hB8 := hob8.bel
    clear hown8 hg8 hob8
    by_cases hp6 : 600 < p
    · refine (make_no _ p _ _ hp6 (by unfold maxLen; omega)).mono ?_
      rintro e w9 ⟨rfl, rfl⟩
      have hd6 : decide ((p : Int) ≤ 600) = false := by simp; omega
      go_wp2_with fail
      go_ret
      exact ⟨rfl, hB8⟩
    · have hp7 : p ≤ 600 := by omega
      refine (make_yes _ p _ _ _ hsl8 (by intro h; cases h) hp7).mono ?_
      rintro e w9 ⟨g9, rfl, hown9, hb9⟩
      have hB9 := hB8.trans (hb9.mono hB8.size)
      clear hown9 hb9 hsl8
      have hd6 : decide ((p : Int) ≤ 600) = true := by simp; omega
      go_wp2_with fail
      go_ret
      exact ⟨rfl, hB9⟩
end Go.Proofs.Ytioichenjoeonaa
