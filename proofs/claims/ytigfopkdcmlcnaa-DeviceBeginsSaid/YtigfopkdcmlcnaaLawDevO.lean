/- The walk of DeviceOwn. -/
import Derived.Test.YtigfopkdcmlcnaaDevD
import Derived.Test.YtigfopkdcmlcnaaView
namespace Go.Proofs.Ytigfopkdcmlcnaa
open Go.RowKit
set_option linter.unusedVariables false
set_option maxRecDepth 20000
attribute [local simp] putsF isV wordOf Deps Region.binds Region.wanted Act.put wantedX isB
theorem device_start (w : World) (T : TypeId) : DevE (fun k => k < w.heap.size) w.heap.size w w.heap.size [] 0 0 (w.alloc (.cells #[.slice none 0 0, .int .i64 0, .int .i64 0] T)) := ⟨_, _, device_new w T⟩
set_option maxHeartbeats 3200000 in
theorem deviceOwn_walk (w : World) (A : Option Addr) (n c : Nat) (zs : List Int) (hV : SlView w A n c (zs.map (Value.int .u8))) (hl : zs.length = n) (hzw : ∀ z ∈ zs, (Lit.int .u8 z).wf = true) (hc : c ≤ 140737488351232) (y : Int) (hy : (Lit.int .u8 y).wf = true) :
    Calls Try.prog 9 #[.slice A n c, .int .u8 y] w fun e w' => e = .returned (.bool true) ∧ Below w.heap.size w w' := by
  have hnc := hV.le
  have hA0 := hV.none_
  obtain ⟨l, hzl⟩ := bytes_of zs hzw
  have hA : Sl w w.heap.size 1 A n (l.map bv) := by rw [← hzl]; exact hV.sl
  have hln : l.length = n := by simpa using hA.1
  obtain ⟨i0, hi, hz0, hz1, hz2⟩ := info_parts devb_info
  have HA0 := Lib.hid hA0
  have HLN := Lib.hid hln
  have HAA := Lib.hid hA
  clear hV hl hzw hzl hA0 hln hA
  go_enter Try.func9, Try.ntmps9
  go_wp2_with fail
  refine (awake23 _).mono ?_
  rintro e w1 ⟨rfl, hb1⟩
  go_upto_region 4 with fail
  have h2 := device_start w1 68
  have hb2 := hb1.alloc hb1.size (.cells #[.slice none 0 0, .int .i64 0, .int .i64 0] 68)
  have hz2' : (w1.alloc (.cells #[.slice none 0 0, .int .i64 0, .int .i64 0] 68)).heap.size = w1.heap.size + 1 := by simp
  generalize (w1.alloc (.cells #[.slice none 0 0, .int .i64 0, .int .i64 0] 68)) = W2 at *
  obtain ⟨d, hd⟩ : ∃ d, d = w1.heap.size := ⟨_, rfl⟩
  rw [← hd] at h2 hz2' ⊢
  have HB1 := Lib.hid hb1
  have HD := Lib.hid hd
  clear hd hb1
  have hsrc := Sl.src (P := Try.prog) Try.underlying33 (HAA.out.below hb2) (fun q => (HA0.out q).1) (one_bytes l) (c := c)
  have H2 := Lib.hid h2
  have HZ2 := Lib.hid hz2'
  clear h2 hz2'
  go_wp2_with (at_builtin; go_loud (refine wpList_append_ob rfl (.const (.slice none 0 0)) _ 33 33 rfl 5 i0 _ 1 Try.underlying33 hi hz0 hz1 hz2 rfl (OB.start W2) rfl rfl hsrc (by unfold maxLen; omega) (by omega) ?_))
  intro v' w3 h1 h3 h4 h5
  have h1 : OB W2.heap.size W2 v' n (l.map bv) w3 := by simpa using h1
  obtain ⟨Ax, cx, rfl, q1, q2, q3⟩ := h1.slice3
  have hb3 := h1.bel
  have H3 : DevE (fun k => k < d ∨ (W2.heap.size ≤ k ∧ k < w3.heap.size)) d w1 d [] 0 0 w3 := H2.out.wide hb3 (fun k hk => hk)
  have hFx : ∀ a, Ax = some a → a.block < d ∨ (W2.heap.size ≤ a.block ∧ a.block < w3.heap.size) := by
    intro a e
    rcases q3 with ⟨r, -, -⟩ | ⟨g, r, r1, r2⟩
    · rw [r] at e; cases e
    · rw [r] at e; injection e with e; subst e; exact .inr ⟨r1, r2⟩
  have hx0 : Ax = none → n = 0 := by
    intro e
    rcases q3 with ⟨r, r1, -⟩ | ⟨g, r, r1, r2⟩
    · exact r1
    · rw [r] at e; cases e
  have AP := Lib.hid (append_any Ax n cx _ l h1.sl hx0 (fun a e _ => hFx a e) H3 (by simp [lastN]; omega) (by simp) (by omega))
  have H1 := Lib.hid h1
  have HFX := Lib.hid hFx
  have HQ3 := Lib.hid q3
  clear h1 h3 h4 h5 hb3 H3 hFx q3 hsrc hx0
  go_wp2_with fail
  refine AP.out.mono ?_
  clear AP
  rintro e w4 ⟨rfl, h4, hk4⟩
  have h4 : DevE (fun k => k < d ∨ (W2.heap.size ≤ k ∧ k < w3.heap.size)) d w1 d [l] 0 1 w4 := h4
  have hb4 : Below w.heap.size w w4 := below_trans HB1.out HB1.out.size (by rw [← HD.out]; exact h4.bel)
  by_cases hn0 : n = 0
  · have hl0 : l = [] := List.eq_nil_of_length_eq_zero (by rw [HLN.out]; exact hn0)
    have LA := last_any h4
    rw [hl0] at LA
    have LA := Lib.hid LA
    have H4 := Lib.hid h4
    have hn0' : ((n : Int) == 0) = true := by simp; omega
    clear hn0 hl0 h4 hk4
    go_wp2_with fail
    refine LA.out.mono ?_
    clear LA
    rintro e w5 ⟨rfl, k, rfl⟩
    have WR := Lib.hid (writes_any (H4.out.drewN k))
    have hb5 := below_drewN hb4 k
    generalize w4.drewN k = W5 at *
    clear H4 hb4
    go_wp2_with fail
    refine WR.out.mono ?_
    rintro e w6 ⟨rfl, rfl⟩
    go_wp2_with fail
    go_ret
    exact ⟨rfl, hb5⟩
  · obtain ⟨x0, l', rfl⟩ : ∃ x0 l', l = x0 :: l' := by
      cases l with
      | nil => exact absurd HLN.out.symm hn0
      | cons x0 l' => exact ⟨x0, l', rfl⟩
    rcases HQ3.out with ⟨-, r, -⟩ | ⟨g, rfl, r1, r2⟩
    · omega
    have hn0' : ((n : Int) == 0) = false := by simp; omega
    have hpos : (0 : Int) < n := by omega
    have hposn : 0 < n := by omega
    have e4 : w4.heap[g]? = w3.heap[g]? := hk4.2 g (.inr ⟨r1, r2⟩)
    have x4 : w4.cell? ⟨g, 0, none⟩ = some (bv x0) := (World.cell?_of_block (w := w3) (a := ⟨g, 0, none⟩) e4).trans (H1.out.cell 0 _ rfl)
    have f4 : w4.frozen? ⟨g, 0, none⟩ = false := (World.frozen?_of_block (w := w3) (a := ⟨g, 0, none⟩) e4).trans (H1.out.frozen 0 (by omega))
    have y4 : w4.cell? ⟨g, 0, none⟩ = some (.int .u8 ((x0.toNat : Int))) := x4
    obtain ⟨z, hz⟩ : ∃ z, z = ((x0.toNat : Int) + y) % 256 := ⟨_, rfl⟩
    have h5 : DevE (fun k => k < d ∨ (W2.heap.size ≤ k ∧ k < w3.heap.size)) d w1 d [x0 :: l'] 0 1 (w4.setCell ⟨g, 0, none⟩ (.int .u8 z)) := by
      obtain ⟨SV, vals, h4⟩ := h4
      refine ⟨SV, vals, h4.move (h4.ob.bel.setCell (p := ⟨g, 0, none⟩) (show d ≤ g by have := HZ2.out; omega) _) (by simp) (fun k _ hk => Below.heap_setCell w4 ⟨g, 0, none⟩ _ k (fun e => hk (by subst e; exact .inr ⟨r1, r2⟩)))⟩
    have hb5 : Below w.heap.size w (w4.setCell ⟨g, 0, none⟩ (.int .u8 z)) := hb4.setCell (p := ⟨g, 0, none⟩) (show w.heap.size ≤ g by have := HB1.out.size; have := HD.out; have := HZ2.out; omega) _
    have H5 := Lib.hid h5
    have HZ := Lib.hid hz
    clear x4 h4 hk4 e4 h5 hn0 H2
    go_upto_region 9 with fail
    rw [← HZ.out]
    clear HZ y4 f4
    generalize (w4.setCell ⟨g, 0, none⟩ (.int .u8 z)) = W5 at *
    clear hb4
    obtain ⟨J, hJ⟩ : ∃ J, J = ByteArray.mk (x0 :: l').toArray := ⟨_, rfl⟩
    have HJ := Lib.hid hJ
    have hl63 : (x0 :: l').length ≤ 140737488355328 := by rw [HLN.out]; omega
    have SG := Lib.hid (segments_any H5.out (by simp) (by intro s hs; simp at hs; subst hs; exact hl63))
    clear hJ hl63 H1 HFX HQ3
    go_wp2_with fail
    refine SG.out.mono ?_
    clear SG
    rintro e w6 ⟨v, vals, rfl, hcp⟩
    obtain ⟨gs, As, cs, cap, rfl, -, q6, c6, k1, k2, k3, ks⟩ := hcp.at_ 0 (by simp)
    have hbel6 := hcp.ob.bel
    have hb6 := hb5.trans (hbel6.mono hb5.size)
    have H6 := Lib.hid (H5.out.keep hbel6)
    rcases ks.own with ⟨-, r⟩ | ⟨gg, cg, r, s1, s2, s3, s4, s5, s6⟩
    · simp at r
    injection r with r r' r''
    subst r
    have n1 : ([x0 :: l'] : List (List UInt8))[0] = x0 :: l' := rfl
    have c6 : w6.cell? ⟨gs, 0, none⟩ = some (.slice (some ⟨gg, 0, none⟩) n cs) := by rw [← HLN.out]; exact c6
    have d6 : w6.cell? ⟨gg, 0, none⟩ = some (.int .u8 (x0.toNat : Int)) := s6 0 _ rfl
    have f6 : w6.frozen? ⟨gg, 0, none⟩ = false := (s5 0 (by simp at s3; omega)).2
    have KS : Hid (Sl w6 w6.heap.size 1 (some ⟨gg, 0, none⟩) n ((x0 :: l').map bv)) := Lib.hid (by rw [← HLN.out]; exact ks.sl)
    have hn6 : n ≤ cs := by rw [← HLN.out]; exact k1
    have HCP := Lib.hid hcp
    clear hcp ks s5 s6 s3 s4 k1 k2 k3 n1 r' r''
    go_upto_region 10 with fail
    have heq : (J.toList == J.toList) = true := by simp
    have HQ := Lib.hid heq
    clear heq
    refine wp_region_goesG dev_follows (fun x => by simp [putsF, Act.put]; rfl) w6.heap.size w6
      [isV (.slice (some ⟨gs, 0, none⟩) 1 cap), isV (.int .i64 1), isV (.bool false), isV (.bool false), isV (.slice (some ⟨gs, 0, none⟩) 1 cap), isV (.pointer (some ⟨gs, 0, none⟩)), isV (.slice (some ⟨gg, 0, none⟩) n cs), isV (.string J), isV (.slice A n c), isV (.string J), isV (.bool false), isV (.bool false)]
      (by kernel_rfl) (by kernel_rfl) (by kernel_rfl) rfl ?_ (Below.refl _ _) ?_ ?_
    · repeat (first | exact trivial | refine ⟨isV_stays _, ?_⟩)
    · refine ⟨?_, ?_, ?_, ?_, ?_, ?_, ?_, ?_, ?_, ?_, ?_, ?_, trivial⟩
      all_goals
        intro x wx hR hd
        simp at hd ⊢
      all_goals try simp [hd]
      all_goals try (go_simp; exact next_same _ rfl rfl hR)
      · have f0 := (hR.cell (p := ⟨gs, 0, none⟩) q6).trans c6
        go_simp
        exact next_same _ rfl rfl hR
      · have hv := run_string_of (P := Try.prog) wx 33 9 5 _ (some ⟨gg, 0, none⟩) n (x0 :: l') Try.underlying33 Try.underlying5 Try.underlying9 (KS.out.below hR) (by intro h; cases h) cs
        rw [← HJ.out] at hv
        go_simp
        exact next_same _ rfl rfl hR
      · have hv := run_string_of (P := Try.prog) wx 33 9 5 _ A n (x0 :: l') Try.underlying33 Try.underlying5 Try.underlying9 ((HAA.out.below hb6).below' hR hb6.size) (fun h => (HA0.out h).1) c
        rw [← HJ.out] at hv
        go_simp
        exact next_same _ rfl rfl hR
    intro x wy hby hx
    simp [AllWords] at hx ⊢
    have hx11 : x 11 = .bool false := by simp [hx]
    clear hx
    rw [hx11]
    have cy := (hby.cell (p := ⟨gs, 0, none⟩) q6).trans c6
    have hq7 : gs < wy.heap.size := Nat.lt_of_lt_of_le q6 hby.size
    have dy := (hby.cell (p := ⟨gg, 0, none⟩) (World.block_lt_of_cell? w6 _ d6)).trans d6
    have fy := (hby.frozen (p := ⟨gg, 0, none⟩) (World.block_lt_of_cell? w6 _ d6)).trans f6
    have hby6 := hb6.trans (hby.mono hb6.size)
    have hb56 := hbel6.trans (hby.mono hbel6.size)
    have hcn : (0 : Int) < n := hpos
    clear c6 d6 f6 hx11 H6 hb6 hbel6 hby q6 KS
    go_upto_region 12 with fail
    go_still_tail 11, (by kernel_rfl)
    change wpList _ _ _ _ _ wy.drew
    go_upto_region 13 with fail
    have hb8 : Below W5.heap.size W5 (wy.setCell ⟨gg, 0, none⟩ (.int .u8 (((x0.toNat : Int) + y) % 256))).drew := (hb56.setCell (p := ⟨gg, 0, none⟩) s1 _).drew
    have hbw8 := hb5.trans (hb8.mono hb5.size)
    generalize (wy.setCell ⟨gg, 0, none⟩ (.int .u8 (((x0.toNat : Int) + y) % 256))).drew = W8 at *
    have h8 := H5.out.keep hb8
    have hl63 : (x0 :: l').length ≤ 140737488355328 := by rw [HLN.out]; omega
    have SG := Lib.hid (segments_any h8 (by simp) (by intro s hs; simp at hs; subst hs; exact hl63))
    clear h8 hl63 hb8 cy dy fy hq7 hby6 hb56
    go_wp2_with fail
    refine SG.out.mono ?_
    clear SG
    rintro e w9 ⟨v, vals9, rfl, hcp⟩
    obtain ⟨ht, At, ct, cap2, rfl, -, q9, c9, k1, k2, k3, ks⟩ := hcp.at_ 0 (by simp)
    have hbel9 := hcp.ob.bel
    have hb9 := hbw8.trans (hbel9.mono hbw8.size)
    have c9 : w9.cell? ⟨ht, 0, none⟩ = some (.slice At n ct) := by rw [← HLN.out]; exact c9
    have KS : Hid (Sl w9 w9.heap.size 1 At n ((x0 :: l').map bv)) := Lib.hid (by rw [← HLN.out]; exact ks.sl)
    have HK3 : Hid (At = none → n = 0) := Lib.hid (fun e => by rw [← HLN.out]; exact (k3 e).1)
    clear hcp ks k1 k2 k3
    go_upto_region 14 with fail
    refine wp_region_goesG dev_follows (fun x => by simp [putsF, Act.put]; rfl) w9.heap.size w9
      [isV (.slice (some ⟨ht, 0, none⟩) 1 cap2), isV (.int .i64 1), isV (.bool true), isV (.bool true), isV (.slice (some ⟨ht, 0, none⟩) 1 cap2), isV (.pointer (some ⟨ht, 0, none⟩)), isV (.slice At n ct), isV (.string J), isV (.slice A n c), isV (.string J), isV (.bool true), isV (.bool true), isV (.bool true)]
      (by kernel_rfl) (by kernel_rfl) (by kernel_rfl) rfl ?_ (Below.refl _ _) ?_ ?_
    · repeat (first | exact trivial | refine ⟨isV_stays _, ?_⟩)
    · refine ⟨?_, ?_, ?_, ?_, ?_, ?_, ?_, ?_, ?_, ?_, ?_, ?_, ?_, trivial⟩
      all_goals
        intro x wx hR hd
        simp at hd ⊢
      all_goals try simp [hd]
      all_goals try (go_simp; exact next_same _ rfl rfl hR)
      · have f0 := (hR.cell (p := ⟨ht, 0, none⟩) q9).trans c9
        go_simp
        exact next_same _ rfl rfl hR
      · have hv := run_string_of (P := Try.prog) wx 33 9 5 _ At n (x0 :: l') Try.underlying33 Try.underlying5 Try.underlying9 (KS.out.below hR) HK3.out ct
        rw [← HJ.out] at hv
        go_simp
        exact next_same _ rfl rfl hR
      · have hv := run_string_of (P := Try.prog) wx 33 9 5 _ A n (x0 :: l') Try.underlying33 Try.underlying5 Try.underlying9 ((HAA.out.below hb9).below' hR hb9.size) (fun h => (HA0.out h).1) c
        rw [← HJ.out] at hv
        go_simp
        exact next_same _ rfl rfl hR
    intro x wz hbz hx
    simp [AllWords] at hx ⊢
    have hx12 : x 12 = .bool true := by simp [hx]
    clear hx
    rw [hx12]
    have hbz9 := hb9.trans (hbz.mono hb9.size)
    go_wp2_with fail
    go_ret
    exact ⟨rfl, hbz9⟩
end Go.Proofs.Ytigfopkdcmlcnaa
