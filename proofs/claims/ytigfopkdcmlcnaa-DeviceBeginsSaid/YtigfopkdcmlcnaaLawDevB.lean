/- The walk of DeviceBegins. -/
import Derived.Test.YtigfopkdcmlcnaaLawDevO
import Derived.Test.YtigfopkdcmlcnaaView2
namespace Go.Proofs.Ytigfopkdcmlcnaa
open Go.RowKit
set_option linter.unusedVariables false
set_option maxRecDepth 20000
theorem cutS_get (segs : List (List UInt8)) (m k : Nat) (hk : k < segs.length) : (cutS segs m)[k]'(by rw [cutS_len]; exact hk) = if k + 1 = segs.length then (segs[k]).take m else segs[k] := by
  rcases segs_cases segs with rfl | ⟨init, s, rfl⟩
  · simp at hk
  · have hl : (init ++ [s]).length = init.length + 1 := by simp
    simp only [cutS_snoc]
    by_cases e : k = init.length
    · subst e; simp
    · have hlt : k < init.length := by omega
      rw [if_neg (by omega), List.getElem_append_left hlt, List.getElem_append_left hlt]
theorem cutS_mem (segs : List (List UInt8)) (m M : Nat) (h : ∀ s ∈ segs, s.length ≤ M) : ∀ s ∈ cutS segs m, s.length ≤ M := by
  rcases segs_cases segs with rfl | ⟨init, s, rfl⟩
  · intro s hs; cases hs
  · rw [cutS_snoc]
    intro x hx
    rcases List.mem_append.1 hx with hx | hx
    · exact h x (by simp [hx])
    · simp at hx; subst hx
      have := h s (by simp)
      simp; omega
/-- The bytes of the first rows, each a segment; and as strings. -/
def segB (rs : List RowT) (k : Nat) : List (List UInt8) := (rs.take k).map fun r => r.2.2.2
def strB (rs : List RowT) (k : Nat) : List Value := (rs.take k).map fun r => Value.string ⟨r.2.2.2.toArray⟩
theorem segB_next {rs : List RowT} {k : Nat} (hk : k < rs.length) : segB rs (k + 1) = segB rs k ++ [(rs[k]).2.2.2] := by
  unfold segB; rw [List.take_succ_eq_append_getElem hk, List.map_append]; rfl
theorem strB_next {rs : List RowT} {k : Nat} (hk : k < rs.length) : strB rs (k + 1) = strB rs k ++ [Value.string ⟨(rs[k]).2.2.2.toArray⟩] := by
  unfold strB; rw [List.take_succ_eq_append_getElem hk, List.map_append]; rfl
theorem segB_len {rs : List RowT} {k : Nat} (hk : k ≤ rs.length) : (segB rs k).length = k := by unfold segB; simp; omega
theorem segB_get (rs : List RowT) (n k : Nat) (hn : rs.length = n) (hk : k < n) : (segB rs n)[k]'(by rw [segB_len (by omega)]; exact hk) = (rs[k]'(by omega)).2.2.2 := by simp [segB]
theorem strB_get (rs : List RowT) (n k : Nat) (hn : rs.length = n) (hk : k < n) : (strB rs n)[k]? = some (Value.string ⟨(rs[k]'(by omega)).2.2.2.toArray⟩) := by
  unfold strB
  rw [List.getElem?_map, List.getElem?_take_of_lt hk, List.getElem?_eq_getElem (by omega)]; rfl
theorem cut2_get (S0 : List (List UInt8)) (y Y2 k j : Nat) (hl : S0.length = k) (hj : j < k) (hy : Y2 ≤ y) : (cutS (cutS S0 y) Y2)[j]? = some (if j + 1 = k then (S0[j]'(by omega)).take Y2 else S0[j]'(by omega)) := by
  subst hl
  have h1 : j < (cutS S0 y).length := by rw [cutS_len]; omega
  have h2 : j < (cutS (cutS S0 y) Y2).length := by rw [cutS_len]; exact h1
  rw [List.getElem?_eq_getElem h2, cutS_get _ _ _ h1, cutS_get _ _ _ (by omega), cutS_len]
  by_cases e : j + 1 = S0.length
  · rw [if_pos e, if_pos e, if_pos e, List.take_take, Nat.min_eq_left hy]
  · rw [if_neg e, if_neg e, if_neg e]
theorem begins_strs : (Try.prog.info? 9).map (fun i => (i.zero, i.size, i.bytes)) = some (some (.string ⟨#[]⟩), 1, 16) := by kernel_rfl
theorem DevE.wide' {F F' : Nat → Prop} {B : Nat} {W : World} {d : Nat} {segs : List (List UInt8)} {safe writes : Nat} {w w' : World} (h : DevE F B W d segs safe writes w) (hb : Below B W w') (hs : w.heap.size ≤ w'.heap.size) (hk : ∀ k, k < w.heap.size → ¬ F k → w'.heap[k]? = w.heap[k]?) (hF : ∀ k, F' k → F k ∨ (w.heap.size ≤ k ∧ k < w'.heap.size)) : DevE F' B W d segs safe writes w' := by
  obtain ⟨SV, vals, h⟩ := h; exact ⟨_, _, h.wide' hb hs hk hF⟩
attribute [local simp] putsF isV wordOf Deps Region.binds Region.wanted Act.put wantedX isB
/-- What is foreign to the device: what was there ahead of it, and the block of this slice. -/
def FB (d : Nat) (v : Value) (k : Nat) : Prop := k < d ∨ v.ownBlock = some k
set_option maxHeartbeats 3200000 in
theorem deviceBegins_walk (w : World) (A : Option Addr) (n c : Nat) (rs : List RowT) (hV : SlView w A n c (rs.map rowV)) (hl : rs.length = n) (hr : ∀ r ∈ rs, RowOk w r ∧ r.2.2.1 ≤ 140737488351232) (hc : c ≤ 5864062014634)
    (y : Int) (hy : (Lit.int .u8 y).wf = true) :
    Calls Try.prog 11 #[.slice A n c, .int .u8 y] w fun e w' => e = .returned (.bool true) ∧ Below w.heap.size w w' := by
  have hnc := hV.le
  have hSA : Sl w w.heap.size 1 A n (rs.map rowV) := hV.sl
  have y8 := bounds_u8 hy
  obtain ⟨i1, hj, hy0, hy1, hy2⟩ := info_parts begins_strs
  have HR := Lib.hid hr
  have HLL := Lib.hid hl
  clear hV hr hl hy
  obtain ⟨y, rfl⟩ : ∃ k : Nat, y = k := ⟨y.toNat, by omega⟩
  have hyn : y < 256 := by omega
  clear y8
  go_enter Try.func11, Try.ntmps11
  go_wp2_with fail
  refine (awake23 _).mono ?_
  rintro e w1 ⟨rfl, hb1⟩
  go_upto_region 5 with fail
  have h2 := device_start w1 68
  generalize (w1.alloc (.cells #[.slice none 0 0, .int .i64 0, .int .i64 0] 68)) = W2 at *
  obtain ⟨d, hd⟩ : ∃ d, d = w1.heap.size := ⟨_, rfl⟩
  rw [← hd] at h2 ⊢
  have HB1 := Lib.hid hb1
  have HD := Lib.hid hd
  have h0 : Hid (DevE (FB d (.slice none 0 0)) d w1 d (segB rs 0) 0 0 W2) := Lib.hid (DevE.less (F := fun k => k < d) (by simpa [segB] using h2) (fun k hk => by
    rcases hk with hk | hk
    · exact hk
    · cases hk))
  have o0 : Hid (OB d w1 (.slice none 0 0) 0 (strB rs 0) W2) := Lib.hid (by rw [show strB rs 0 = [] from rfl]; exact OB.nil h2.bel (by obtain ⟨SV, vals, h2⟩ := h2; exact h2.ob.base))
  clear hd hb1 h2
  go_wp2_with fail
  go_loopw [6, 17] (fun v i wr => ∃ k : Nat, k ≤ n ∧ i = .int .i64 k ∧ Hid (OB d w1 v k (strB rs k) wr) ∧ Hid (DevE (FB d v) d w1 d (segB rs k) 0 k wr)) (fun _ i _ => n - (intOf i).toNat)
  case atStart => exact ⟨0, Nat.zero_le _, rfl, o0, h0⟩
  case round =>
    obtain ⟨k, hk, rfl, how, hdv⟩ := hrel
    have hbr : Below w.heap.size w wr := below_trans HB1.out HB1.out.size (by rw [← HD.out]; exact hdv.out.bel)
    by_cases hlt : k < n
    · obtain ⟨g, off, u, rfl, hbb, hu, hcell⟩ := (hSA.below hbr).at_ hlt
      have hkl : k < rs.length := by rw [HLL.out]; exact hlt
      rw [List.getElem?_map, List.getElem?_eq_getElem hkl, Option.map_some, Option.some.injEq] at hu
      subst hu
      obtain ⟨⟨RA, rn, rc, rl⟩, hrr⟩ : ∃ r, rs[k] = r := ⟨_, rfl⟩
      have hok := HR.out _ (List.getElem_mem hkl)
      have hnx := segB_next hkl
      have hsx := strB_next hkl
      rw [hrr] at hcell hok hnx hsx
      obtain ⟨⟨hrv, hrl⟩, hrc⟩ := hok
      simp only at hrv hrl hnx hsx hrc
      rw [show rowV (RA, rn, rc, rl) = .slice RA rn rc from rfl] at hcell
      have hrn := hrv.le
      obtain ⟨RL, hRL⟩ : ∃ RL, RL = ByteArray.mk rl.toArray := ⟨_, rfl⟩
      rw [← hRL] at hsx
      obtain ⟨Aw, cw, rfl, -⟩ := how.out.slice
      have hF : ∀ a, RA = some a → 0 < rn → FB d (.slice Aw k cw) a.block := by
        intro a e hn
        obtain ⟨b, o, e2, hb, -⟩ := hrv.sl.2 hn
        rw [e] at e2; injection e2 with e2
        have h9 := HB1.out.size
        have h8 := HD.out
        rw [e2]; left; show b < d; omega
      have BG := Lib.hid (begin_any hdv.out (by rw [segB_len (by omega)]; omega))
      have HRV := Lib.hid hrv
      have HRL := Lib.hid hRL
      have HF := Lib.hid hF
      have HNX := Lib.hid hnx
      have HSX := Lib.hid hsx
      have HOW := how
      have hi2 : IntKind.i64.wrap ((k : Int) + 1) = (k : Int) + 1 := IntWalk.i64_in _ (by omega)
      clear hRL hrv hrl hF hnx hsx how
      go_wp2_with fail
      refine BG.out.mono ?_
      clear BG
      rintro e w2 ⟨rfl, h2, hk2⟩
      have AP := append_any RA rn rc _ rl (HRV.out.sl.below hbr |> fun s => hk2.sl s HF.out) (fun e => (HRV.out.none_ e).1) HF.out h2 (by rw [lastN_snoc]; simp; omega) (by rw [List.length_append, segB_len (by omega)]; simp; omega) (by omega)
      rw [appS_snoc, if_neg (by simp), List.nil_append, ← HNX.out] at AP
      have AP := Lib.hid AP
      have how2 := HOW.out.block h2.bel hk2.1 (fun q e => hk2.2 q (.inr e))
      have HW2 := Lib.hid how2
      clear h2 hk2 how2 hcell hbr hdv HOW
      go_wp2_with fail
      refine AP.out.mono ?_
      clear AP
      rintro e w3 ⟨rfl, h3, hk3⟩
      have how3 := HW2.out.block h3.bel hk3.1 (fun q e => hk3.2 q (.inr e))
      have hb3 : Below w.heap.size w w3 := below_trans HB1.out HB1.out.size (by rw [← HD.out]; exact h3.bel)
      have hcv := run_string_of (P := Try.prog) w3 33 9 5 _ RA rn rl Try.underlying33 Try.underlying5 Try.underlying9 (HRV.out.sl.below hb3) (fun h => (HRV.out.none_ h).1) rc
      rw [← HRL.out] at hcv
      have hnew := how3.alloc (.cells #[.string RL] 9)
      have hsrc := Src.ofSlice (P := Try.prog) (size := 1) (w3.alloc (.cells #[.string RL] 9)) Try.underlying75 ⟨w3.heap.size, 0, none⟩ 1 1 [.string RL] rfl (news_at w3 #[.string RL] 9) (by intro u hu; simp at hu; subst hu; rfl)
      have H3 := Lib.hid h3
      clear h3 hk3 how3 HW2
      go_wp2_with (at_builtin; go_loud (refine wpList_append_ob rfl _ _ 75 75 rfl 9 i1 _ 16 Try.underlying75 hj hy0 hy1 hy2 rfl hnew rfl rfl hsrc (by unfold maxLen; omega) (by omega) ?_))
      intro v' w5 o1 o2 o3 o4
      have hz : (w3.alloc (.cells #[.string RL] 9)).heap.size = w3.heap.size + 1 := by simp
      rw [← hz] at o2 o3 o4
      have h4 := H3.out.keep ((Below.refl w3.heap.size w3).alloc (Nat.le_refl _) (.cells #[.string RL] 9))
      have h5 : DevE (FB d v') d w1 d (segB rs (k + 1)) 0 (k + 1) w5 := h4.wide' o1.bel o2 (fun q hq hn => o3 q hq (fun e => hn (.inr e.symm))) (fun q hq => by
        rcases hq with hq | hq
        · exact .inl (.inl hq)
        · rcases o4 with e | e
          · rw [e] at hq; exact .inl (.inr hq)
          · have h9 := (o1.lt q hq).2
            rw [e] at hq; injection hq with hq; exact .inr (by omega))
      have o1' : OB d w1 v' (k + 1) (strB rs (k + 1)) w5 := by rw [HSX.out]; exact o1
      have H5 := Lib.hid h5
      have O5 := Lib.hid o1'
      clear h5 h4 o1 o1' o2 o3 o4 hz hcv hnew hsrc H3 hb3
      go_wp2_with fail
      go_roundw
      case rel => exact ⟨k + 1, by omega, by go_num, O5, H5⟩
      case measure => simp [intOf]; omega
    · obtain rfl : k = n := by omega
      obtain ⟨S0, hS0⟩ : ∃ S0, S0 = segB rs k := ⟨_, rfl⟩
      have hS0l : S0.length = k := by rw [hS0]; exact segB_len (by rw [HLL.out]; omega)
      have hS0b : ∀ s ∈ S0, s.length ≤ 140737488355328 := by
        rw [hS0]
        intro s hs
        obtain ⟨r, hr, rfl⟩ := List.mem_map.1 hs
        obtain ⟨⟨q1, q2⟩, q3⟩ := HR.out r (List.mem_of_mem_take hr)
        have := q1.le
        omega
      obtain ⟨Y2, hY2⟩ : ∃ Y2, Y2 = y / 2 := ⟨_, rfl⟩
      have hYi : (y : Int) / 2 = (Y2 : Int) := by omega
      have hYy : Y2 ≤ y := by omega
      have CR := crash_any (y : Int) (by omega) (by omega) hdv.out (Nat.zero_le _)
      rw [← hS0, Nat.zero_add, Int.toNat_natCast] at CR
      have CR := Lib.hid CR
      obtain ⟨Aw, cw, rfl, hwc, -, hw0⟩ := how.out.slice
      have hlt' : ¬ (k : Int) < k := by omega
      have hk8 : k ≤ 5864062014634 := by omega
      have HS0 := Lib.hid hS0
      have HS0l := Lib.hid hS0l
      have HS0b := Lib.hid hS0b
      have HYI := Lib.hid hYi
      have HY2 := Lib.hid hY2
      clear hdv hbr hS0 hS0l hS0b hYi hY2
      go_wp2_with fail
      refine CR.out.mono ?_
      clear CR
      rintro e w2 ⟨rfl, h2, hk2⟩
      have how2 := Lib.hid (how.out.block h2.bel hk2.1 (fun q e => hk2.2 q (.inr e)))
      have CT := Lib.hid (cut_nat Y2 (by omega) h2 (by rw [cutS_last]; omega))
      have hYi := HYI.out
      clear h2 hk2 how
      go_wp2_with fail
      refine CT.out.mono ?_
      clear CT
      rintro e w3 ⟨rfl, h3, hk3⟩
      have how3 := Lib.hid (how2.out.block h3.bel hk3.1 (fun q e => hk3.2 q (.inr e)))
      obtain ⟨SF, hSF⟩ : ∃ SF, SF = cutS (cutS S0 y) Y2 := ⟨_, rfl⟩
      have hSFl : SF.length = k := by rw [hSF, cutS_len, cutS_len]; exact HS0l.out
      rw [← hSF] at h3
      have SG := Lib.hid (segments_any h3 (by rw [hSFl]; exact hk8) (by rw [hSF]; exact cutS_mem _ _ _ (cutS_mem _ _ _ HS0b.out)))
      have hb3 : Below w.heap.size w w3 := below_trans HB1.out HB1.out.size (by rw [← HD.out]; exact h3.bel)
      have HSF := Lib.hid hSF
      have HSFL := Lib.hid hSFl
      clear h3 hk3 how2 hSF hSFl hYi
      go_wp2_with fail
      refine SG.out.mono ?_
      clear SG
      rintro e w4 ⟨v, vals, rfl, hcp⟩
      have hbel4 := hcp.ob.bel
      have hb4 := hb3.trans (hbel4.mono hb3.size)
      have how4 := Lib.hid (how3.out.keep hbel4 (Nat.le_refl _))
      obtain ⟨Av, cv, rfl, hvc, -, hv0⟩ := hcp.ob.slice
      rw [HSFL.out] at hcp ⊢
      have HCP := Lib.hid hcp
      clear hcp hbel4 hb3 how3
      have hkk : ((k : Int) != (k : Int)) = false := by simp
      go_wp2_with fail
      go_loopw [50] (fun i wr => ∃ j : Nat, j ≤ k ∧ i = .int .i64 j ∧ Below w4.heap.size w4 wr) (fun i _ => k - (intOf i).toNat)
      case atStart => exact ⟨0, Nat.zero_le _, rfl, Below.refl _ _⟩
      case round =>
        obtain ⟨j, hj', rfl, hbw⟩ := hrel
        by_cases hlt2 : j < k
        · have hlt2i : (j : Int) < k := by omega
          obtain ⟨gs, Aj, cj, cap, hvv, -, q6, c6, k1, k2, k3, ks⟩ := HCP.out.at_ j (by rw [HSFL.out]; exact hlt2)
          injection hvv with hv1 hv2 hv3
          subst hv1
          rcases how4.out.own with ⟨r, r0⟩ | ⟨gw, cap2, r, s1, s2, s3, s4, s5, s6⟩
          · omega
          injection r with r1 r2 r3
          subst r1
          have hjl : j < rs.length := by rw [HLL.out]; exact hlt2
          obtain ⟨R, hR0⟩ : ∃ R, R = (rs[j]).2.2.2 := ⟨_, rfl⟩
          have hS0j : (S0[j]'(by rw [HS0l.out]; exact hlt2)) = R := by
            have := segB_get rs k j HLL.out hlt2
            rw [hR0]
            simp only [HS0.out]
            exact this
          obtain ⟨sk, hsk⟩ : ∃ sk, sk = SF[j]'(by rw [HSFL.out]; exact hlt2) := ⟨_, rfl⟩
          rw [← hsk] at c6 k1 k3 ks
          have hsk2 : sk = if j + 1 = k then R.take Y2 else R := by
            have h1 := cut2_get S0 y Y2 k j HS0l.out hlt2 hYy
            rw [← HSF.out, List.getElem?_eq_getElem (by rw [HSFL.out]; exact hlt2), hS0j] at h1
            injection h1 with h1
            rw [hsk, h1]
          obtain ⟨lk, hlk⟩ : ∃ lk, lk = sk.length := ⟨_, rfl⟩
          rw [← hlk] at c6 k1 k3
          obtain ⟨RK, hRK⟩ : ∃ RK, RK = ByteArray.mk R.toArray := ⟨_, rfl⟩
          have hRs : RK.size = R.length := by rw [hRK, mk_size]
          have d6 : w4.cell? ⟨gw, j, none⟩ = some (.string RK) := s6 j _ (by rw [strB_get rs k j HLL.out hlt2, hRK, hR0])
          have q7 : gs < wr.heap.size := Nat.lt_of_lt_of_le q6 hbw.size
          have q8 : gw < wr.heap.size := Nat.lt_of_lt_of_le s2 hbw.size
          have c7 := (hbw.cell (p := ⟨gs, j, none⟩) q6).trans c6
          have c8 := (hbw.cell (p := ⟨gw, j, none⟩) s2).trans d6
          have KS : Hid (sk = R → Sl wr wr.heap.size 1 Aj lk (R.map bv)) := Lib.hid (fun e => by rw [← e, hlk]; exact (ks.sl.below hbw).more hbw.size)
          have HK3 : Hid (Aj = none → lk = 0) := Lib.hid (fun e => (k3 e).1)
          have HRK := Lib.hid hRK
          obtain ⟨m1, hm1⟩ : ∃ m1, m1 = k - 1 := ⟨_, rfl⟩
          have hsub : IntKind.i64.wrap ((k : Int) - 1) = (m1 : Int) := by rw [IntWalk.i64_in _ (by omega)]; omega
          have hlR : lk ≤ RK.size := by
            rw [hlk, hsk2, hRs]
            split
            · simp; omega
            · exact Nat.le_refl _
          have hgt : ¬ (RK.size : Int) < lk := by omega
          have hgt2 : ¬ RK.size < lk := by omega
          have hi2 : IntKind.i64.wrap ((j : Int) + 1) = (j : Int) + 1 := IntWalk.i64_in _ (by omega)
          by_cases hlast : j + 1 = k
          · have hjm : ¬ j < m1 := by omega
            have hjmi : decide ((j : Int) < (m1 : Int)) = false := by simp; omega
            clear hsk hsk2 hlk hRK hRs hm1 d6 c6 ks k1 k3 s5 s6 hS0j hR0 hvc hwc s3 s4 k2 hw0 hv0 r2 r3 hv2 hv3
            go_upto_region 20 with fail
            refine wp_region_goesG dev_follows (fun x => by simp [putsF, Act.put]; rfl) wr.heap.size wr
              [isV (.int .i64 j), isV (.slice (some ⟨gs, 0, none⟩) k cv), isV (.int .i64 k), isV (.int .i64 m1), isV (.bool false), isV (.bool false), isV undef, isV undef, isV undef, isV undef, isV undef, isV undef, isV undef, isV undef, isV undef, isV undef, isV (.bool false), isV (.bool false), isV (.slice (some ⟨gs, 0, none⟩) k cv), isV (.int .i64 j), isV (.pointer (some ⟨gs, j, none⟩)), isV (.slice Aj lk cj), isV (.int .i64 lk), isV (.slice (some ⟨gw, 0, none⟩) k cw), isV (.int .i64 j), isV (.pointer (some ⟨gw, j, none⟩)), isV (.string RK), isV (.int .i64 RK.size), isV (.bool false), isV (.bool false)]
              (by kernel_rfl) (by kernel_rfl) (by kernel_rfl) rfl ?_ (Below.refl _ _) ?_ ?_
            · repeat (first | exact trivial | refine ⟨isV_stays _, ?_⟩)
            · refine ⟨?_, ?_, ?_, ?_, ?_, ?_, ?_, ?_, ?_, ?_, ?_, ?_, ?_, ?_, ?_, ?_, ?_, ?_, ?_, ?_, ?_, ?_, ?_, ?_, ?_, ?_, ?_, ?_, ?_, ?_, trivial⟩
              all_goals
                intro x wx hR hd
                simp at hd ⊢
              all_goals try simp [hd]
              all_goals first
                | (go_simp; exact next_same _ rfl rfl hR)
                | (have f0 := (hR.cell (p := ⟨gs, j, none⟩) q7).trans c7; go_simp; exact next_same _ rfl rfl hR)
                | (have f0 := (hR.cell (p := ⟨gw, j, none⟩) q8).trans c8; go_simp; exact next_same _ rfl rfl hR)
                | skip
              all_goals trace_state
            intro x wy hby hx
            simp [AllWords] at hx ⊢
            have hx29 : x 29 = .bool false := by simp [hx]
            clear hx
            rw [hx29]
            have hbw' := hbw.trans (hby.mono hbw.size)
            go_wp2_with fail
            go_roundw
            case rel => exact ⟨j + 1, by omega, by go_num, hbw'⟩
            case measure => simp [intOf]; omega
          · have hjm : j < m1 := by omega
            have hjmi : decide ((j : Int) < (m1 : Int)) = true := by simp; omega
            have hskR : sk = R := by rw [hsk2, if_neg hlast]
            have HSKR := Lib.hid hskR
            clear hskR
            clear hsk hsk2 hlk hRK hRs hm1 d6 c6 ks k1 k3 s5 s6 hS0j hR0 hvc hwc s3 s4 k2 hw0 hv0 r2 r3 hv2 hv3
            go_upto_region 20 with fail
            refine wp_region_goesG dev_follows (fun x => by simp [putsF, Act.put]; rfl) wr.heap.size wr
              [isV (.int .i64 j), isV (.slice (some ⟨gs, 0, none⟩) k cv), isV (.int .i64 k), isV (.int .i64 m1), isV (.bool true), isV (.bool true), isV (.slice (some ⟨gs, 0, none⟩) k cv), isV (.int .i64 j), isV (.pointer (some ⟨gs, j, none⟩)), isV (.slice Aj lk cj), isV (.string RK), isV (.slice (some ⟨gw, 0, none⟩) k cw), isV (.int .i64 j), isV (.pointer (some ⟨gw, j, none⟩)), isV (.string RK), isV (.bool false), isV (.bool false), isV (.bool false), isV (.slice (some ⟨gs, 0, none⟩) k cv), isV (.int .i64 j), isV (.pointer (some ⟨gs, j, none⟩)), isV (.slice Aj lk cj), isV (.int .i64 lk), isV (.slice (some ⟨gw, 0, none⟩) k cw), isV (.int .i64 j), isV (.pointer (some ⟨gw, j, none⟩)), isV (.string RK), isV (.int .i64 RK.size), isV (.bool false), isV (.bool false)]
              (by kernel_rfl) (by kernel_rfl) (by kernel_rfl) rfl ?_ (Below.refl _ _) ?_ ?_
            · repeat (first | exact trivial | refine ⟨isV_stays _, ?_⟩)
            · refine ⟨?_, ?_, ?_, ?_, ?_, ?_, ?_, ?_, ?_, ?_, ?_, ?_, ?_, ?_, ?_, ?_, ?_, ?_, ?_, ?_, ?_, ?_, ?_, ?_, ?_, ?_, ?_, ?_, ?_, ?_, trivial⟩
              all_goals
                intro x wx hR hd
                simp at hd ⊢
              all_goals try simp [hd]
              all_goals first
                | (go_simp; exact next_same _ rfl rfl hR)
                | (have f0 := (hR.cell (p := ⟨gs, j, none⟩) q7).trans c7; go_simp; exact next_same _ rfl rfl hR)
                | (have f0 := (hR.cell (p := ⟨gw, j, none⟩) q8).trans c8; go_simp; exact next_same _ rfl rfl hR)
                | (have hv := run_string_of (P := Try.prog) wx 33 9 5 _ Aj lk R Try.underlying33 Try.underlying5 Try.underlying9 ((KS.out HSKR.out).below hR) HK3.out cj; rw [← HRK.out] at hv; go_simp; exact next_same _ rfl rfl hR)
                | skip
              all_goals trace_state
            intro x wy hby hx
            simp [AllWords] at hx ⊢
            have hx29 : x 29 = .bool false := by simp [hx]
            clear hx
            rw [hx29]
            have hbw' := hbw.trans (hby.mono hbw.size)
            go_wp2_with fail
            go_roundw
            case rel => exact ⟨j + 1, by omega, by go_num, hbw'⟩
            case measure => simp [intOf]; omega
        · have hjk : k = j := by omega
          subst hjk
          have hbr9 := hb4.trans (hbw.mono hb4.size)
          have hlt2i : ¬ (k : Int) < k := by omega
          by_cases hk0 : k = 0
          · have hk0' : ((k : Int) == 0) = true := by simp; omega
            go_upto_region 23 with fail
            refine wp_region_goesG dev_follows (fun x => by simp [putsF, Act.put]; rfl) wr.heap.size wr
              [isV (.slice Av k cv), isV (.int .i64 k), isV (.bool true), isV (.bool true), isV undef, isV undef, isV undef, isV undef, isV undef, isV undef, isV undef, isV undef, isV undef, isV undef, isV undef, isV undef, isV undef, isV undef, isV undef, isV undef, isV undef, isV undef, isV undef, isV (.bool true), isV (.bool true)]
              (by kernel_rfl) (by kernel_rfl) (by kernel_rfl) rfl ?_ (Below.refl _ _) ?_ ?_
            · repeat (first | exact trivial | refine ⟨isV_stays _, ?_⟩)
            · refine ⟨?_, ?_, ?_, ?_, ?_, ?_, ?_, ?_, ?_, ?_, ?_, ?_, ?_, ?_, ?_, ?_, ?_, ?_, ?_, ?_, ?_, ?_, ?_, ?_, ?_, trivial⟩
              all_goals
                intro x wx hR hd
                simp at hd ⊢
              all_goals try simp [hd]
              all_goals first
                | (go_simp; exact next_same _ rfl rfl hR)
                | skip
              all_goals trace_state
            intro x wy hby hx
            simp [AllWords] at hx ⊢
            have hx24 : x 24 = .bool true := by simp [hx]
            clear hx
            rw [hx24]
            have hbw' := hbr9.trans (hby.mono hbr9.size)
            go_wp2_with fail
            go_ret
            exact ⟨rfl, hbw'⟩
          obtain ⟨j, hjd⟩ : ∃ j, j = k - 1 := ⟨_, rfl⟩
          have hj0 : j < k := by omega
          have hk0' : ((k : Int) == 0) = false := by simp; omega
          have hsub : IntKind.i64.wrap ((k : Int) - 1) = (j : Int) := by rw [IntWalk.i64_in _ (by omega)]; omega
          obtain ⟨gs, Aj, cj, cap, hvv, -, q6, c6, k1, k2, k3, ks⟩ := HCP.out.at_ j (by rw [HSFL.out]; exact hj0)
          injection hvv with hv1 hv2 hv3
          subst hv1
          rcases how4.out.own with ⟨r, r0⟩ | ⟨gw, cap2, r, s1, s2, s3, s4, s5, s6⟩
          · omega
          injection r with r1 r2 r3
          subst r1
          have hjl : j < rs.length := by rw [HLL.out]; exact hj0
          obtain ⟨R, hR0⟩ : ∃ R, R = (rs[j]).2.2.2 := ⟨_, rfl⟩
          have hS0j : (S0[j]'(by rw [HS0l.out]; exact hj0)) = R := by
            have := segB_get rs k j HLL.out hj0
            rw [hR0]
            simp only [HS0.out]
            exact this
          obtain ⟨sk, hsk⟩ : ∃ sk, sk = SF[j]'(by rw [HSFL.out]; exact hj0) := ⟨_, rfl⟩
          rw [← hsk] at c6 k1 k3 ks
          have hsk2 : sk = if j + 1 = k then R.take Y2 else R := by
            have h1 := cut2_get S0 y Y2 k j HS0l.out hj0 hYy
            rw [← HSF.out, List.getElem?_eq_getElem (by rw [HSFL.out]; exact hj0), hS0j] at h1
            injection h1 with h1
            rw [hsk, h1]
          obtain ⟨lk, hlk⟩ : ∃ lk, lk = sk.length := ⟨_, rfl⟩
          rw [← hlk] at c6 k1 k3
          obtain ⟨RK, hRK⟩ : ∃ RK, RK = ByteArray.mk R.toArray := ⟨_, rfl⟩
          have hRs : RK.size = R.length := by rw [hRK, mk_size]
          have d6 : w4.cell? ⟨gw, j, none⟩ = some (.string RK) := s6 j _ (by rw [strB_get rs k j HLL.out hj0, hRK, hR0])
          have q7 : gs < wr.heap.size := Nat.lt_of_lt_of_le q6 hbw.size
          have q8 : gw < wr.heap.size := Nat.lt_of_lt_of_le s2 hbw.size
          have c7 := (hbw.cell (p := ⟨gs, j, none⟩) q6).trans c6
          have c8 := (hbw.cell (p := ⟨gw, j, none⟩) s2).trans d6
          have KS : Hid (sk = R → Sl wr wr.heap.size 1 Aj lk (R.map bv)) := Lib.hid (fun e => by rw [← e, hlk]; exact (ks.sl.below hbw).more hbw.size)
          have HK3 : Hid (Aj = none → lk = 0) := Lib.hid (fun e => (k3 e).1)
          have HRK := Lib.hid hRK
          have hl3 : lk = min Y2 RK.size := by rw [hlk, hsk2, hRs, if_pos (by omega)]; simp
          have hYi := HYI.out
          have hq1 : (y : Int).tdiv 2 = (Y2 : Int) := by rw [Int.tdiv_eq_ediv_of_nonneg (by omega)]; exact hYi
          have hq2 : IntKind.i64.wrap (Y2 : Int) = (Y2 : Int) := IntWalk.i64_in _ (by omega)
          have hq3 : IntKind.i64.wrap (y : Int) = (y : Int) := IntWalk.i64_in _ (by omega)
          have hj0i : (j : Int) < k := by omega
          clear hsk hsk2 hlk hRK hRs d6 c6 ks k1 k3 s5 s6 hS0j hR0 hvc hwc s3 s4 k2 hw0 hv0 r2 r3 hv2 hv3 hjd
          go_upto_region 23 with fail
          refine wp_region_goesG dev_follows (fun x => by simp [putsF, Act.put]; rfl) wr.heap.size wr
            [isV (.slice (some ⟨gs, 0, none⟩) k cv), isV (.int .i64 k), isV (.bool false), isV (.bool false), isV (.slice (some ⟨gs, 0, none⟩) k cv), isV (.slice (some ⟨gs, 0, none⟩) k cv), isV (.int .i64 k), isV (.int .i64 j), isV (.pointer (some ⟨gs, j, none⟩)), isV (.slice Aj lk cj), isV (.int .i64 lk), isV (.int .u8 y), isV (.int .i64 y), isV (.int .i64 Y2), isV (.slice (some ⟨gw, 0, none⟩) k cw), isV (.slice (some ⟨gs, 0, none⟩) k cv), isV (.int .i64 k), isV (.int .i64 j), isV (.pointer (some ⟨gw, j, none⟩)), isV (.string RK), isV (.int .i64 RK.size), isV (.int .i64 lk), isV (.bool true), isV (.bool true), isV (.bool true)]
            (by kernel_rfl) (by kernel_rfl) (by kernel_rfl) rfl ?_ (Below.refl _ _) ?_ ?_
          · repeat (first | exact trivial | refine ⟨isV_stays _, ?_⟩)
          · refine ⟨?_, ?_, ?_, ?_, ?_, ?_, ?_, ?_, ?_, ?_, ?_, ?_, ?_, ?_, ?_, ?_, ?_, ?_, ?_, ?_, ?_, ?_, ?_, ?_, ?_, trivial⟩
            all_goals
              intro x wx hR hd
              simp at hd ⊢
            all_goals try simp [hd]
            all_goals first
              | (go_simp; exact next_same _ rfl rfl hR)
              | (have f0 := (hR.cell (p := ⟨gs, j, none⟩) q7).trans c7; go_simp; exact next_same _ rfl rfl hR)
              | (have f0 := (hR.cell (p := ⟨gw, j, none⟩) q8).trans c8; go_simp; exact next_same _ rfl rfl hR)
              | (go_simp; rw [show (if RK.size < Y2 then (RK.size : Int) else (Y2 : Int)) = (lk : Int) by split <;> omega]; exact next_same _ rfl rfl hR)
              | (go_simp; rw [show (if (RK.size : Int) < (Y2 : Int) then (RK.size : Int) else (Y2 : Int)) = (lk : Int) by split <;> omega]; exact next_same _ rfl rfl hR)
              | (go_simp; refine next_same _ rfl ?_ hR; show Value.int _ _ = Value.int _ _; congr 1; first | omega | (split <;> omega))
              | skip
            all_goals trace_state
          intro x wy hby hx
          simp [AllWords] at hx ⊢
          have hx24 : x 24 = .bool true := by simp [hx]
          clear hx
          rw [hx24]
          have hbw' := hbr9.trans (hby.mono hbr9.size)
          go_wp2_with fail
          go_ret
          exact ⟨rfl, hbw'⟩
end Go.Proofs.Ytigfopkdcmlcnaa
