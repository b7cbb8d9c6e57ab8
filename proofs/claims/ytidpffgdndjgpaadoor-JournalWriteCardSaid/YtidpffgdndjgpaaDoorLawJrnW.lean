/- The walk of JournalWrite. -/
import Derived.Test.YtidpffgdndjgpaaDoorJrnH
import Derived.Test.YtidpffgdndjgpaaDoorJrnI
import Derived.Test.YtidpffgdndjgpaaDoorJW
import Derived.Test.YtidpffgdndjgpaaDoorAs
import Derived.Outline
namespace Go.Proofs.YtidpffgdndjgpaaDoor
open Go.RowKit
set_option linter.unusedVariables false
set_option linter.unusedSimpArgs false
set_option maxRecDepth 20000
theorem jw_strs : (Tryd.prog.info? 9).map (fun i => (i.zero, i.size, i.bytes)) = some (some (.string ⟨#[]⟩), 1, 16) := by kernel_rfl
theorem jw_ints : (Tryd.prog.info? 3).map (fun i => (i.zero, i.size, i.bytes)) = some (some (.int .i64 0), 1, 8) := by kernel_rfl
/-- A record as a string; a segment's length. -/
def strW (l : List UInt8) : Value := .string ⟨l.toArray⟩
def lenW (l : List UInt8) : Value := .int .i64 (l.length : Nat)
theorem wr_new {segs : List (List UInt8)} {l : List UInt8} (h : segs = [] ∨ (0 < lastN segs ∧ 2048 < lastN segs + (l.length + 6))) : wrS segs l = segs ++ [frameL l] := by
  rcases h with rfl | h
  · rfl
  · unfold wrS; rw [if_pos h, appS_snoc]; rfl
theorem wr_same {init : List (List UInt8)} {s l : List UInt8} (h : ¬ (0 < s.length ∧ 2048 < s.length + (l.length + 6))) : wrS (init ++ [s]) l = init ++ [s ++ frameL l] := by
  unfold wrS; rw [lastN_snoc, if_neg h, appS_snoc]
theorem lens_new (segs : List (List UInt8)) (l : List UInt8) : (segs.map lenW ++ [Value.int .i64 0]).set segs.length (.int .i64 ((l.length : Int) + 6)) = (segs ++ [frameL l]).map lenW := by
  rw [List.map_append, List.set_append_right _ _ (by simp)]
  simp [lenW, frameL_length]
theorem lens_same (init : List (List UInt8)) (s l : List UInt8) : ((init ++ [s]).map lenW).set init.length (.int .i64 ((s.length : Int) + ((l.length : Int) + 6))) = (init ++ [s ++ frameL l]).map lenW := by
  rw [List.map_append, List.map_append, List.set_append_right _ _ (by simp)]
  simp [lenW, frameL_length]
def NewSeg (segs : List (List UInt8)) (l : List UInt8) : Prop := wrS segs l = segs ++ [frameL l]
attribute [local simp] putsF isV wordOf Deps Region.binds Region.wanted Act.put wantedX isB
set_option maxHeartbeats 6400000 in
theorem journalWrite_walk (w : World) (HE : Etype w) (A : Option Addr) (n c : Nat) (ds : List DeedT) (hV : Deeds4 w A n c ds) (hr : ∀ a ∈ ds, a.2.1.2.2.1 ≤ 140737488351232) (hc : c ≤ 3518437208780) :
    Calls Tryd.prog 3 #[.slice A n c] w fun e w' => e = .returned (.bool true) ∧ Below w.heap.size w w' := by
  have hnc := hV.le
  obtain ⟨i1, hj, hy0, hy1, hy2⟩ := info_parts jw_strs
  obtain ⟨i2, hp, hq0, hq1, hq2⟩ := info_parts jw_ints
  have HET := Lib.hid HE
  have HV := Lib.hid hV
  have HR := Lib.hid hr
  clear hV hr HE
  go_enter Tryd.func3, Tryd.ntmps3
  go_wp2_with fail
  refine (awake24 _).mono ?_
  rintro e w1 ⟨rfl, hb1⟩
  have OF := Lib.hid (of_any (w1.alloc (.cells #[.slice none 0 0, .int .i64 0, .int .i64 0] 29)) w1.heap.size)
  obtain ⟨W2, hW2, h2, hj2⟩ := jrn_start w1 29 45
  have hz : (w1.alloc (.cells #[.slice none 0 0, .int .i64 0, .int .i64 0] 29)).heap.size = w1.heap.size + 1 := by simp
  obtain ⟨d, hd⟩ : ∃ d, d = w1.heap.size := ⟨_, rfl⟩
  rw [← hd] at h2 hj2
  have HD := Lib.hid hd
  have HW := Lib.hid hW2
  have HZ := Lib.hid hz
  have H2 := Lib.hid h2
  have HJ2 := Lib.hid hj2
  have HB1 := Lib.hid hb1
  clear hd hW2 hz h2 hj2 hb1
  go_wp2_with fail
  refine OF.out.mono ?_
  rintro e w3 ⟨rfl, hw3⟩
  rw [← HW.out] at hw3
  subst hw3
  rw [HZ.out, ← HD.out]
  clear OF
  obtain ⟨j, hjd⟩ : ∃ j, j = d + 1 := ⟨_, rfl⟩
  rw [← hjd] at H2 HJ2 ⊢
  clear HW HZ
  have hB : d ≤ W2.heap.size := by obtain ⟨SV, vals, h2⟩ := H2.out; exact h2.ob.base
  have j0 : Hid (JW (fun x => x = j) d w1 (.slice none 0 0) (.slice none 0 0) (([] : List (List UInt8)).map strW) (([] : List (List UInt8)).map lenW) [] 0 0 W2) := Lib.hid ⟨OB.nil H2.out.bel hB, OB.nil H2.out.bel hB, H2.out.less (fun k hk => by
    rcases hk with hk | hk | hk | hk
    · exact .inl hk
    · exact .inr hk
    · cases hk
    · cases hk), (fun k e => by cases e), (fun k _ => ⟨(fun e => by cases e), (fun e => by cases e)⟩)⟩
  have c0 : Hid (Cs W2 j [.pointer (some ⟨d, 0, none⟩)]) := Lib.hid HJ2.out.1
  have s0 : Hid (JS [] [] [] 0 0 0) := Lib.hid JS.start
  clear hjd H2 HJ2 hB
  go_wp2_with fail
  go_loopw [4, 5, 23] (fun v1 v2 i wr => ∃ k : Nat, k ≤ n ∧ i = .int .i64 k ∧ ∃ ch all segs sf wt, wt ≤ k ∧ Hid (JS ch all segs sf 0 k) ∧ Hid (JW (fun x => x = j) d w1 v1 v2 (all.map strW) (segs.map lenW) segs sf wt wr) ∧ Hid (Cs wr j [.pointer (some ⟨d, 0, none⟩)])) (fun _ _ i _ => n - (intOf i).toNat)
  case atStart => exact ⟨0, Nat.zero_le _, rfl, [], [], [], 0, 0, Nat.le_refl _, s0, j0, c0⟩
  case round =>
    obtain ⟨k, hk, rfl, ch, all, segs, sf, wt, hwt, HJS, HJW, hcj⟩ := hrel
    have hbr : Below w.heap.size w wr := below_trans HB1.out HB1.out.size (by rw [← HD.out]; exact HJW.out.below)
    by_cases hlt : k < n
    · have hkl : k < ds.length := by rw [HV.out.len]; exact hlt
      obtain ⟨b, off, rfl, hbw, hcl⟩ := HV.out.cells (by omega)
      obtain ⟨⟨o, ⟨RA, rn, rc, rl⟩, L, M⟩, ha⟩ : ∃ a, ds[k] = a := ⟨_, rfl⟩
      have hmem := List.getElem_mem hkl
      rw [ha] at hmem
      obtain ⟨c0', c1, c2, c3⟩ := hcl k _ (by rw [List.getElem?_eq_getElem hkl, ha])
      obtain ⟨ok0, ⟨hrv, hrl⟩, ok2, ok3⟩ := HV.out.ok _ hmem
      have hrc := HR.out _ hmem
      simp only at c0' c1 c2 c3 ok0 hrv hrl ok2 ok3 hrc
      rw [show rowV (RA, rn, rc, rl) = .slice RA rn rc from rfl] at c1
      have e0 := (hbr.cell (p := ⟨b, off + k * 4, none⟩) hbw).trans c0'
      have e1 := (hbr.cell (p := ⟨b, off + k * 4 + 1, none⟩) hbw).trans c1
      have e2 := (hbr.cell (p := ⟨b, off + k * 4 + 2, none⟩) hbw).trans c2
      have e3 := (hbr.cell (p := ⟨b, off + k * 4 + 3, none⟩) hbw).trans c3
      have L8 := bounds_u8 ok2
      have hlti : (k : Int) < n := by omega
      have HRV := Lib.hid hrv
      have HRL := Lib.hid hrl
      have HBR := Lib.hid hbr
      clear c0' c1 c2 c3 ok0 ok2 ok3 hrv hrl hcl hbr ha hmem hkl
      have hll := HJS.out.lastLe
      have hfew := HJS.out.few
      have hmany := HJS.out.many
      have hi2 : IntKind.i64.wrap ((k : Int) + 1) = (k : Int) + 1 := IntWalk.i64_in _ (by omega)
      go_upto_region 9 with fail
      obtain ⟨WA, hWA⟩ : ∃ WA, WA = wr.alloc (.cells #[.int .u8 o, .slice RA rn rc, .int .u8 L, .int .i8 M] 35) := ⟨_, rfl⟩
      have hzA : WA.heap.size = wr.heap.size + 1 := by rw [hWA]; simp
      have hbA : Below wr.heap.size wr WA := by rw [hWA]; exact (Below.refl _ _).alloc (Nat.le_refl _) _
      obtain ⟨g, hg⟩ : ∃ g, g = wr.heap.size := ⟨_, rfl⟩
      have a0 : WA.cell? ⟨g, 0, none⟩ = some (.int .u8 o) := by rw [hWA, hg]; simp
      have a1 : WA.cell? ⟨g, 1, none⟩ = some (.slice RA rn rc) := by rw [hWA, hg]; simp
      have a2 : WA.cell? ⟨g, 2, none⟩ = some (.int .u8 L) := by rw [hWA, hg]; simp
      have a3 : WA.cell? ⟨g, 3, none⟩ = some (.int .i8 M) := by rw [hWA, hg]; simp
      have hgW : g < WA.heap.size := by omega
      rw [← hWA, ← hg]
      have hbrA : Below w.heap.size w WA := HBR.out.trans (hbA.mono HBR.out.size)
      have hrn := HRV.out.le
      obtain ⟨bl, hbl⟩ : ∃ bl, bl = deedL (o, (RA, rn, rc, rl), L, M) := ⟨_, rfl⟩
      have DB := deed_bytes2 o RA rn rc rl L M (by omega) WA ((HRV.out.sl.below hbrA).more hbrA.size) (fun e => (HRV.out.none_ e).1) (by omega)
      rw [← hbl] at DB
      have DB := Lib.hid DB
      have HBA := Lib.hid hbA
      have HZA := Lib.hid hzA
      have HG := Lib.hid hg
      clear hbl hbrA hWA hbA hzA hg
      go_wp2_with fail
      refine DB.out.mono ?_
      clear DB
      rintro e w3 ⟨A1, n1, c1, rfl, hs1, hn1, hm1, hb1, hp1⟩
      have hdl : bl.length = n1 := by simpa using hs1.1
      have hb3 : Below wr.heap.size wr w3 := HBA.out.trans (hb1.mono HBA.out.size)
      have hbw3 : Below w.heap.size w w3 := HBR.out.trans (hb3.mono HBR.out.size)
      have c3 : Cs w3 j [.pointer (some ⟨d, 0, none⟩)] := hcj.out.block (hb3.block j hcj.out.lt) hb3.size
      have HS1 := Lib.hid hs1
      have HN1 := Lib.hid hn1
      have HDL := Lib.hid hdl
      have HB3 := Lib.hid hb3
      have HBW3 := Lib.hid hbw3
      have HP1 := Lib.hid hp1
      have HC3 := Lib.hid c3
      have hzl : WA.heap.size ≤ w3.heap.size := hb1.size
      have HZL := Lib.hid hzl
      clear hs1 hn1 hdl hb3 hbw3 hp1 c3 hb1 hzl a0 a1 a2 a3 hgW hcj
      by_cases h600 : n1 ≤ 600
      · have j3 := HJW.out.wideX (X' := fun x => x = j ∨ x < d ∨ (g ≤ x ∧ x < w3.heap.size)) HB3.out (fun x hx => by
          rcases hx with hx | hx | hx
          · exact .inl hx
          · exact .inr (.inl hx)
          · exact .inr (.inr ⟨by rw [← HG.out]; exact hx.1, hx.2⟩))
        have WY := Lib.hid (write_yes A1 n1 c1 bl HS1.out HN1.out h600 j3.dv ⟨HC3.out, .inr (.inl (.inl rfl))⟩ (by omega) (by omega) (by omega))
        have J3 := Lib.hid j3
        have h600i : ¬ (600 : Int) < n1 := by omega
        clear j3 e0 e1 e2 e3
        go_wp2_with fail
        refine WY.out.mono ?_
        clear WY
        rintro e w4 ⟨rfl, h4, hk4⟩
        obtain ⟨j4, k4⟩ := J3.out.dev h4 hk4
        have hsl : ∀ w', Keep (fun x => x = j ∨ x < d ∨ (g ≤ x ∧ x < w3.heap.size)) w4 w' → Sl w' w3.heap.size 1 A1 n1 (bl.map bv) := fun w' hk' => (k4.trans hk').sl HS1.out (fun a e hn => by
          rcases HP1.out a e hn with r | r
          · obtain ⟨r1, r2⟩ := r
            subst r1 r2
            obtain ⟨b', o', e', hb', -⟩ := HRV.out.sl.2 hn
            rw [e] at e'; injection e' with e'
            have := HB1.out.size
            have := HD.out
            refine .inr (.inl ?_)
            rw [e']; show b' < d; omega
          · exact .inr (.inr ⟨by have := HZA.out; have := HG.out; omega, r.2⟩))
        have c4 := HC3.out.block (k4.2 j (.inl rfl)) k4.1
        have J4 := Lib.hid j4
        have C4 := Lib.hid c4
        have HSL := Lib.hid hsl
        have HB4 : Hid (w3.heap.size ≤ w4.heap.size) := Lib.hid k4.1
        clear h4 hk4 j4 k4 hsl c4 J3

        rcases segs_cases segs with rfl | ⟨init, s, hSG⟩
        · have ho2 := J4.out.o2
          have ho1 := J4.out.o1
          rw [List.length_map] at ho1
          simp only [List.map_nil, List.length_nil] at ho2
          obtain ⟨Ai, ci, rfl, -⟩ := ho2.slice
          obtain ⟨Aw, cw, rfl, -⟩ := ho1.slice
          have hnew := ho2.alloc (.cells #[.int .i64 0] 3)
          have hsrc := Src.ofSlice (P := Tryd.prog) (size := 1) (w4.alloc (.cells #[.int .i64 0] 3)) Tryd.underlying31 ⟨w4.heap.size, 0, none⟩ 1 1 [.int .i64 0] rfl (news_at w4 #[.int .i64 0] 3) (by intro u hu; simp at hu; subst hu; rfl)
          have HNEW : Hid (NewSeg [] bl) := Lib.hid (wr_new (.inl rfl))
          clear ho1 ho2
          go_upto_region 18 with fail
          go_wp2_with (at_builtin; go_loud (refine wpList_append_ob rfl _ _ 31 31 rfl 3 i2 _ 8 Tryd.underlying31 hp hq0 hq1 hq2 rfl hnew rfl rfl hsrc (by unfold maxLen; omega) (by omega) ?_))
          intro v5 w5 p1 p2 p3 p4
          obtain ⟨WC, hWC⟩ : ∃ WC, WC = w4.alloc (.cells #[.int .i64 0] 3) := ⟨_, rfl⟩
          have hzC : WC.heap.size = w4.heap.size + 1 := by rw [hWC]; simp
          have hbC : Below w4.heap.size w4 WC := by rw [hWC]; exact (Below.refl _ _).alloc (Nat.le_refl _) _
          rw [← hWC, ← hzC] at p3
          rw [← hzC] at p2 p4
          obtain ⟨jC, kC⟩ := J4.out.keep hbC
          have p1' : OB d w1 v5 (([] : List (List UInt8)).map lenW ++ [Value.int .i64 0]).length (([] : List (List UInt8)).map lenW ++ [Value.int .i64 0]) w5 := by
            rw [show (([] : List (List UInt8)).map lenW ++ [Value.int .i64 0]).length = 0 + 1 by simp]; exact p1
          obtain ⟨j5, k5⟩ := jC.app2 p1' p2 p3 p4
          have kk5 := kC.trans k5
          rcases p1.own with ⟨q1, q2⟩ | ⟨g2, cc, rfl, -, q2, q3, -⟩
          · omega
          have o5 := p1
          have HGET : (([] : List (List UInt8)).map lenW ++ [Value.int .i64 0])[0]? = some (.int .i64 0) := by simp
          have LEN5 : Hid ((([] : List (List UInt8)).map lenW ++ [Value.int .i64 0]).length = 0 + 1) := Lib.hid (by simp)
          have HFIN : Hid ((([] : List (List UInt8)).map lenW ++ [Value.int .i64 0]).set 0 (.int .i64 ((n1 : Int) + 6)) = (wrS ([] : List (List UInt8)) bl).map lenW) := Lib.hid (by rw [show wrS ([] : List (List UInt8)) bl = ([] : List (List UInt8)) ++ [frameL bl] from HNEW.out, ← HDL.out]; exact lens_new ([] : List (List UInt8)) bl)
          clear jC kC k5 p1' p1 p2 p3 p4 hWC hzC hbC hnew hsrc
          have c5 := o5.cell 0 _ HGET
          have f5 := o5.frozen 0 (by omega)
          have w61 : IntKind.i64.wrap ((n1 : Int) + 6) = (n1 : Int) + 6 := IntWalk.i64_in _ (by omega)
          have w62 : IntKind.i64.wrap ((0 : Int) + ((n1 : Int) + 6)) = (0 : Int) + ((n1 : Int) + 6) := IntWalk.i64_in _ (by omega)
          have J5 := Lib.hid j5
          have KK5 := Lib.hid kk5
          clear j5 kk5 o5 HGET
          go_upto_region 20 with fail
          obtain ⟨W6, hW6⟩ : ∃ W6, W6 = w5.setCell ⟨g2, 0, none⟩ (.int .i64 ((n1 : Int) + 6)) := ⟨_, rfl⟩
          rw [← hW6]
          obtain ⟨j6, kk6⟩ := J5.out.set2 LEN5.out 0 (by omega) (.int .i64 ((n1 : Int) + 6))
          rw [HFIN.out, ← hW6] at j6
          rw [← hW6] at kk6
          have kk6 := KK5.out.trans kk6
          have s6 := HSL.out W6 kk6
          obtain ⟨RL, hRL⟩ : ∃ RL, RL = ByteArray.mk bl.toArray := ⟨_, rfl⟩
          have hcv := run_string_of (P := Tryd.prog) W6 32 9 5 _ A1 n1 bl Tryd.underlying32 Tryd.underlying5 Tryd.underlying9 s6 HN1.out c1
          rw [← hRL] at hcv
          have ho6 := j6.o1
          rw [List.length_map] at ho6
          have hnew := ho6.alloc (.cells #[.string RL] 9)
          have hsrc := Src.ofSlice (P := Tryd.prog) (size := 1) (W6.alloc (.cells #[.string RL] 9)) Tryd.underlying30 ⟨W6.heap.size, 0, none⟩ 1 1 [.string RL] rfl (news_at W6 #[.string RL] 9) (by intro u hu; simp at hu; subst hu; rfl)
          have J6 := Lib.hid j6
          have KK6 := Lib.hid kk6
          have HRL2 := Lib.hid hRL
          have HSZ6 : Hid (W6.heap.size = w5.heap.size) := Lib.hid (by rw [hW6]; simp)
          clear j6 kk6 hW6 ho6 s6 hRL c5 f5 J5 KK5
          go_wp2_with (at_builtin; go_loud (refine wpList_append_ob rfl _ _ 30 30 rfl 9 i1 _ 16 Tryd.underlying30 hj hy0 hy1 hy2 rfl hnew rfl rfl hsrc (by unfold maxLen; omega) (by omega) ?_))
          intro v7 w7 p1 p2 p3 p4
          obtain ⟨WB, hWB⟩ : ∃ WB, WB = W6.alloc (.cells #[.string RL] 9) := ⟨_, rfl⟩
          have hzB : WB.heap.size = W6.heap.size + 1 := by rw [hWB]; simp
          have hbB : Below W6.heap.size W6 WB := by rw [hWB]; exact (Below.refl _ _).alloc (Nat.le_refl _) _
          rw [← hWB, ← hzB] at p3
          rw [← hzB] at p2 p4
          obtain ⟨jB, kB⟩ := J6.out.keep hbB
          have e1 : (all ++ [bl]).map strW = all.map strW ++ [.string RL] := by rw [List.map_append, HRL2.out]; rfl
          have p1 : OB d w1 v7 ((all ++ [bl]).map strW).length ((all ++ [bl]).map strW) w7 := by
            rw [e1]; simpa using p1
          obtain ⟨j7, k7⟩ := jB.app1 p1 p2 p3 p4
          have j7' : Hid (JW (fun x => x = j) d w1 v7 _ ((all ++ [bl]).map strW) _ _ _ _ w7) := Lib.hid (j7.lessX (fun x hx => .inl hx))
          have c7 : Hid (Cs w7 j [.pointer (some ⟨d, 0, none⟩)]) := Lib.hid (C4.out.block (((KK6.out.trans kB).trans k7).2 j (.inl rfl)) ((KK6.out.trans kB).trans k7).1)
          obtain ⟨ch', hch⟩ := HJS.out.write bl (by rw [HDL.out]; exact h600)
          have s7 := Lib.hid hch
          clear j7 k7 jB kB p1 p2 p3 p4 e1 hWB hzB hbB hcv hnew hsrc J6 KK6 hch
          go_wp2_with fail
          go_roundw
          case rel => exact ⟨k + 1, by omega, by go_num, ch', all ++ [bl], _, _, wt + 1, by omega, s7, j7', c7⟩
          case measure => simp [intOf]; omega

        · obtain ⟨m, hm⟩ : ∃ m, m = init.length := ⟨_, rfl⟩
          obtain ⟨ls, hls⟩ : ∃ ls, ls = s.length := ⟨_, rfl⟩
          have hls2 : ls ≤ 2048 := by rw [hSG, lastN_snoc] at hll; omega
          have hm2 : m + 1 ≤ k := by rw [hSG] at hfew; simp at hfew; omega
          have ho2 := J4.out.o2
          have ho1 := J4.out.o1
          rw [List.length_map] at ho1
          have hl2 : (segs.map lenW).length = m + 1 := by rw [hSG]; simp [hm]
          have hl3 : segs.length = m + 1 := by rw [hSG]; simp [hm]
          rw [hl2] at ho2
          obtain ⟨Aw, cw, rfl, -⟩ := ho1.slice
          have HM := Lib.hid hm
          have HLS := Lib.hid hls
          have HSG := Lib.hid hSG
          have HL3 := Lib.hid hl3
          rcases ho2.own with ⟨q1, q2⟩ | ⟨gI, cI, rfl, -, q2, q3, -⟩
          · omega
          have cI2 := ho2.cell m (.int .i64 (ls : Nat)) (by rw [hSG]; simp [hm, hls, lenW])
          have v1 : IntKind.i64.wrap (m : Int) = (m : Int) := IntWalk.i64_in _ (by omega)
          have v2 : ¬ (m : Int) < 0 := by omega
          have v3 : IntKind.i64.wrap ((ls : Int) + n1) = (ls : Int) + n1 := IntWalk.i64_in _ (by omega)
          have v4 : IntKind.i64.wrap ((ls : Int) + n1 + 6) = (ls : Int) + n1 + 6 := IntWalk.i64_in _ (by omega)
          have v5 : IntKind.i64.wrap ((m : Int) + 1) = (m : Int) + 1 := IntWalk.i64_in _ (by omega)
          clear hm hls ho1 hl2 hll hfew hSG hl3
          by_cases hbig : 0 < ls ∧ 2048 < ls + (n1 + 6)
          · have x1 : (0 : Int) < ls := by omega
            have x2 : (2048 : Int) < (ls : Int) + n1 + 6 := by omega
            have hnew := ho2.alloc (.cells #[.int .i64 0] 3)
            have hsrc := Src.ofSlice (P := Tryd.prog) (size := 1) (w4.alloc (.cells #[.int .i64 0] 3)) Tryd.underlying31 ⟨w4.heap.size, 0, none⟩ 1 1 [.int .i64 0] rfl (news_at w4 #[.int .i64 0] 3) (by intro u hu; simp at hu; subst hu; rfl)
            have HNEW : Hid (NewSeg segs bl) := Lib.hid (wr_new (.inr (by rw [HSG.out, lastN_snoc, ← HLS.out, HDL.out]; exact hbig)))
            clear ho2
            go_upto_region 18 with fail
            go_wp2_with (at_builtin; go_loud (refine wpList_append_ob rfl _ _ 31 31 rfl 3 i2 _ 8 Tryd.underlying31 hp hq0 hq1 hq2 rfl hnew rfl rfl hsrc (by unfold maxLen; omega) (by omega) ?_))
            intro v5 w5 p1 p2 p3 p4
            obtain ⟨WC, hWC⟩ : ∃ WC, WC = w4.alloc (.cells #[.int .i64 0] 3) := ⟨_, rfl⟩
            have hzC : WC.heap.size = w4.heap.size + 1 := by rw [hWC]; simp
            have hbC : Below w4.heap.size w4 WC := by rw [hWC]; exact (Below.refl _ _).alloc (Nat.le_refl _) _
            rw [← hWC, ← hzC] at p3
            rw [← hzC] at p2 p4
            obtain ⟨jC, kC⟩ := J4.out.keep hbC
            have p1' : OB d w1 v5 (segs.map lenW ++ [Value.int .i64 0]).length (segs.map lenW ++ [Value.int .i64 0]) w5 := by
              rw [show (segs.map lenW ++ [Value.int .i64 0]).length = (m + 1) + 1 by simp [HL3.out]]; exact p1
            obtain ⟨j5, k5⟩ := jC.app2 p1' p2 p3 p4
            have kk5 := kC.trans k5
            rcases p1.own with ⟨q1, q2⟩ | ⟨g2, cc, rfl, -, q2, q3, -⟩
            · omega
            have o5 := p1
            have HGET : (segs.map lenW ++ [Value.int .i64 0])[(m + 1)]? = some (.int .i64 0) := by rw [← HL3.out, List.getElem?_append_right (by simp)]; simp
            have LEN5 : Hid ((segs.map lenW ++ [Value.int .i64 0]).length = (m + 1) + 1) := Lib.hid (by simp [HL3.out])
            have HFIN : Hid ((segs.map lenW ++ [Value.int .i64 0]).set (m + 1) (.int .i64 ((n1 : Int) + 6)) = (wrS segs bl).map lenW) := Lib.hid (by rw [show wrS segs bl = segs ++ [frameL bl] from HNEW.out, ← HDL.out]; rw [show (m + 1) = segs.length from HL3.out.symm]; exact lens_new segs bl)
            clear jC kC k5 p1' p1 p2 p3 p4 hWC hzC hbC hnew hsrc
            have c5 := o5.cell (m + 1) _ HGET
            have f5 := o5.frozen (m + 1) (by omega)
            have w61 : IntKind.i64.wrap ((n1 : Int) + 6) = (n1 : Int) + 6 := IntWalk.i64_in _ (by omega)
            have w62 : IntKind.i64.wrap ((0 : Int) + ((n1 : Int) + 6)) = (0 : Int) + ((n1 : Int) + 6) := IntWalk.i64_in _ (by omega)
            have J5 := Lib.hid j5
            have KK5 := Lib.hid kk5
            clear j5 kk5 o5 HGET
            go_upto_region 20 with fail
            obtain ⟨W6, hW6⟩ : ∃ W6, W6 = w5.setCell ⟨g2, (m + 1), none⟩ (.int .i64 ((n1 : Int) + 6)) := ⟨_, rfl⟩
            rw [← hW6]
            obtain ⟨j6, kk6⟩ := J5.out.set2 LEN5.out (m + 1) (by omega) (.int .i64 ((n1 : Int) + 6))
            rw [HFIN.out, ← hW6] at j6
            rw [← hW6] at kk6
            have kk6 := KK5.out.trans kk6
            have s6 := HSL.out W6 kk6
            obtain ⟨RL, hRL⟩ : ∃ RL, RL = ByteArray.mk bl.toArray := ⟨_, rfl⟩
            have hcv := run_string_of (P := Tryd.prog) W6 32 9 5 _ A1 n1 bl Tryd.underlying32 Tryd.underlying5 Tryd.underlying9 s6 HN1.out c1
            rw [← hRL] at hcv
            have ho6 := j6.o1
            rw [List.length_map] at ho6
            have hnew := ho6.alloc (.cells #[.string RL] 9)
            have hsrc := Src.ofSlice (P := Tryd.prog) (size := 1) (W6.alloc (.cells #[.string RL] 9)) Tryd.underlying30 ⟨W6.heap.size, 0, none⟩ 1 1 [.string RL] rfl (news_at W6 #[.string RL] 9) (by intro u hu; simp at hu; subst hu; rfl)
            have J6 := Lib.hid j6
            have KK6 := Lib.hid kk6
            have HRL2 := Lib.hid hRL
            have HSZ6 : Hid (W6.heap.size = w5.heap.size) := Lib.hid (by rw [hW6]; simp)
            clear j6 kk6 hW6 ho6 s6 hRL c5 f5 J5 KK5
            go_wp2_with (at_builtin; go_loud (refine wpList_append_ob rfl _ _ 30 30 rfl 9 i1 _ 16 Tryd.underlying30 hj hy0 hy1 hy2 rfl hnew rfl rfl hsrc (by unfold maxLen; omega) (by omega) ?_))
            intro v7 w7 p1 p2 p3 p4
            obtain ⟨WB, hWB⟩ : ∃ WB, WB = W6.alloc (.cells #[.string RL] 9) := ⟨_, rfl⟩
            have hzB : WB.heap.size = W6.heap.size + 1 := by rw [hWB]; simp
            have hbB : Below W6.heap.size W6 WB := by rw [hWB]; exact (Below.refl _ _).alloc (Nat.le_refl _) _
            rw [← hWB, ← hzB] at p3
            rw [← hzB] at p2 p4
            obtain ⟨jB, kB⟩ := J6.out.keep hbB
            have e1 : (all ++ [bl]).map strW = all.map strW ++ [.string RL] := by rw [List.map_append, HRL2.out]; rfl
            have p1 : OB d w1 v7 ((all ++ [bl]).map strW).length ((all ++ [bl]).map strW) w7 := by
              rw [e1]; simpa using p1
            obtain ⟨j7, k7⟩ := jB.app1 p1 p2 p3 p4
            have j7' : Hid (JW (fun x => x = j) d w1 v7 _ ((all ++ [bl]).map strW) _ _ _ _ w7) := Lib.hid (j7.lessX (fun x hx => .inl hx))
            have c7 : Hid (Cs w7 j [.pointer (some ⟨d, 0, none⟩)]) := Lib.hid (C4.out.block (((KK6.out.trans kB).trans k7).2 j (.inl rfl)) ((KK6.out.trans kB).trans k7).1)
            obtain ⟨ch', hch⟩ := HJS.out.write bl (by rw [HDL.out]; exact h600)
            have s7 := Lib.hid hch
            clear j7 k7 jB kB p1 p2 p3 p4 e1 hWB hzB hbB hcv hnew hsrc J6 KK6 hch
            go_wp2_with fail
            go_roundw
            case rel => exact ⟨k + 1, by omega, by go_num, ch', all ++ [bl], _, _, wt + 1, by omega, s7, j7', c7⟩
            case measure => simp [intOf]; omega
          · by_cases hz : ls = 0
            · have x1 : ¬ (0 : Int) < ls := by omega
              clear hz
              have j5 := J4.out
              have kk5 := Keep.refl (fun x => x = j ∨ x < d ∨ (g ≤ x ∧ x < w3.heap.size)) w4
              have o5 := ho2
              have HGET : (segs.map lenW)[m]? = some (.int .i64 (ls : Nat)) := by rw [HSG.out]; simp [HM.out, HLS.out, lenW]
              have LEN5 : Hid ((segs.map lenW).length = m + 1) := Lib.hid (by rw [HSG.out]; simp [HM.out])
              have HFIN : Hid ((segs.map lenW).set m (.int .i64 ((ls : Int) + ((n1 : Int) + 6))) = (wrS segs bl).map lenW) := Lib.hid (by rw [HSG.out, wr_same (by rw [← HLS.out, HDL.out]; exact hbig), HM.out, HLS.out, ← HDL.out]; exact lens_same init s bl)
              obtain ⟨g2, hg2⟩ : ∃ g2, g2 = gI := ⟨_, rfl⟩
              subst hg2
              clear ho2
              have c5 := o5.cell m _ HGET
              have f5 := o5.frozen m (by omega)
              have w61 : IntKind.i64.wrap ((n1 : Int) + 6) = (n1 : Int) + 6 := IntWalk.i64_in _ (by omega)
              have w62 : IntKind.i64.wrap (((ls : Int) : Int) + ((n1 : Int) + 6)) = ((ls : Int) : Int) + ((n1 : Int) + 6) := IntWalk.i64_in _ (by omega)
              have J5 := Lib.hid j5
              have KK5 := Lib.hid kk5
              clear j5 kk5 o5 HGET
              go_upto_region 20 with fail
              obtain ⟨W6, hW6⟩ : ∃ W6, W6 = w4.setCell ⟨g2, m, none⟩ (.int .i64 ((ls : Int) + ((n1 : Int) + 6))) := ⟨_, rfl⟩
              rw [← hW6]
              obtain ⟨j6, kk6⟩ := J5.out.set2 LEN5.out m (by omega) (.int .i64 ((ls : Int) + ((n1 : Int) + 6)))
              rw [HFIN.out, ← hW6] at j6
              rw [← hW6] at kk6
              have kk6 := KK5.out.trans kk6
              have s6 := HSL.out W6 kk6
              obtain ⟨RL, hRL⟩ : ∃ RL, RL = ByteArray.mk bl.toArray := ⟨_, rfl⟩
              have hcv := run_string_of (P := Tryd.prog) W6 32 9 5 _ A1 n1 bl Tryd.underlying32 Tryd.underlying5 Tryd.underlying9 s6 HN1.out c1
              rw [← hRL] at hcv
              have ho6 := j6.o1
              rw [List.length_map] at ho6
              have hnew := ho6.alloc (.cells #[.string RL] 9)
              have hsrc := Src.ofSlice (P := Tryd.prog) (size := 1) (W6.alloc (.cells #[.string RL] 9)) Tryd.underlying30 ⟨W6.heap.size, 0, none⟩ 1 1 [.string RL] rfl (news_at W6 #[.string RL] 9) (by intro u hu; simp at hu; subst hu; rfl)
              have J6 := Lib.hid j6
              have KK6 := Lib.hid kk6
              have HRL2 := Lib.hid hRL
              have HSZ6 : Hid (W6.heap.size = w4.heap.size) := Lib.hid (by rw [hW6]; simp)
              clear j6 kk6 hW6 ho6 s6 hRL c5 f5 J5 KK5
              go_wp2_with (at_builtin; go_loud (refine wpList_append_ob rfl _ _ 30 30 rfl 9 i1 _ 16 Tryd.underlying30 hj hy0 hy1 hy2 rfl hnew rfl rfl hsrc (by unfold maxLen; omega) (by omega) ?_))
              intro v7 w7 p1 p2 p3 p4
              obtain ⟨WB, hWB⟩ : ∃ WB, WB = W6.alloc (.cells #[.string RL] 9) := ⟨_, rfl⟩
              have hzB : WB.heap.size = W6.heap.size + 1 := by rw [hWB]; simp
              have hbB : Below W6.heap.size W6 WB := by rw [hWB]; exact (Below.refl _ _).alloc (Nat.le_refl _) _
              rw [← hWB, ← hzB] at p3
              rw [← hzB] at p2 p4
              obtain ⟨jB, kB⟩ := J6.out.keep hbB
              have e1 : (all ++ [bl]).map strW = all.map strW ++ [.string RL] := by rw [List.map_append, HRL2.out]; rfl
              have p1 : OB d w1 v7 ((all ++ [bl]).map strW).length ((all ++ [bl]).map strW) w7 := by
                rw [e1]; simpa using p1
              obtain ⟨j7, k7⟩ := jB.app1 p1 p2 p3 p4
              have j7' : Hid (JW (fun x => x = j) d w1 v7 _ ((all ++ [bl]).map strW) _ _ _ _ w7) := Lib.hid (j7.lessX (fun x hx => .inl hx))
              have c7 : Hid (Cs w7 j [.pointer (some ⟨d, 0, none⟩)]) := Lib.hid (C4.out.block (((KK6.out.trans kB).trans k7).2 j (.inl rfl)) ((KK6.out.trans kB).trans k7).1)
              obtain ⟨ch', hch⟩ := HJS.out.write bl (by rw [HDL.out]; exact h600)
              have s7 := Lib.hid hch
              clear j7 k7 jB kB p1 p2 p3 p4 e1 hWB hzB hbB hcv hnew hsrc J6 KK6 hch
              go_wp2_with fail
              go_roundw
              case rel => exact ⟨k + 1, by omega, by go_num, ch', all ++ [bl], _, _, wt + 1, by omega, s7, j7', c7⟩
              case measure => simp [intOf]; omega
            · have x1 : (0 : Int) < ls := by omega
              have x2 : ¬ (2048 : Int) < (ls : Int) + n1 + 6 := by omega
              have j5 := J4.out
              have kk5 := Keep.refl (fun x => x = j ∨ x < d ∨ (g ≤ x ∧ x < w3.heap.size)) w4
              have o5 := ho2
              have HGET : (segs.map lenW)[m]? = some (.int .i64 (ls : Nat)) := by rw [HSG.out]; simp [HM.out, HLS.out, lenW]
              have LEN5 : Hid ((segs.map lenW).length = m + 1) := Lib.hid (by rw [HSG.out]; simp [HM.out])
              have HFIN : Hid ((segs.map lenW).set m (.int .i64 ((ls : Int) + ((n1 : Int) + 6))) = (wrS segs bl).map lenW) := Lib.hid (by rw [HSG.out, wr_same (by rw [← HLS.out, HDL.out]; exact hbig), HM.out, HLS.out, ← HDL.out]; exact lens_same init s bl)
              obtain ⟨g2, hg2⟩ : ∃ g2, g2 = gI := ⟨_, rfl⟩
              subst hg2
              clear ho2
              have c5 := o5.cell m _ HGET
              have f5 := o5.frozen m (by omega)
              have w61 : IntKind.i64.wrap ((n1 : Int) + 6) = (n1 : Int) + 6 := IntWalk.i64_in _ (by omega)
              have w62 : IntKind.i64.wrap (((ls : Int) : Int) + ((n1 : Int) + 6)) = ((ls : Int) : Int) + ((n1 : Int) + 6) := IntWalk.i64_in _ (by omega)
              have J5 := Lib.hid j5
              have KK5 := Lib.hid kk5
              clear j5 kk5 o5 HGET
              go_upto_region 20 with fail
              obtain ⟨W6, hW6⟩ : ∃ W6, W6 = w4.setCell ⟨g2, m, none⟩ (.int .i64 ((ls : Int) + ((n1 : Int) + 6))) := ⟨_, rfl⟩
              rw [← hW6]
              obtain ⟨j6, kk6⟩ := J5.out.set2 LEN5.out m (by omega) (.int .i64 ((ls : Int) + ((n1 : Int) + 6)))
              rw [HFIN.out, ← hW6] at j6
              rw [← hW6] at kk6
              have kk6 := KK5.out.trans kk6
              have s6 := HSL.out W6 kk6
              obtain ⟨RL, hRL⟩ : ∃ RL, RL = ByteArray.mk bl.toArray := ⟨_, rfl⟩
              have hcv := run_string_of (P := Tryd.prog) W6 32 9 5 _ A1 n1 bl Tryd.underlying32 Tryd.underlying5 Tryd.underlying9 s6 HN1.out c1
              rw [← hRL] at hcv
              have ho6 := j6.o1
              rw [List.length_map] at ho6
              have hnew := ho6.alloc (.cells #[.string RL] 9)
              have hsrc := Src.ofSlice (P := Tryd.prog) (size := 1) (W6.alloc (.cells #[.string RL] 9)) Tryd.underlying30 ⟨W6.heap.size, 0, none⟩ 1 1 [.string RL] rfl (news_at W6 #[.string RL] 9) (by intro u hu; simp at hu; subst hu; rfl)
              have J6 := Lib.hid j6
              have KK6 := Lib.hid kk6
              have HRL2 := Lib.hid hRL
              have HSZ6 : Hid (W6.heap.size = w4.heap.size) := Lib.hid (by rw [hW6]; simp)
              clear j6 kk6 hW6 ho6 s6 hRL c5 f5 J5 KK5
              go_wp2_with (at_builtin; go_loud (refine wpList_append_ob rfl _ _ 30 30 rfl 9 i1 _ 16 Tryd.underlying30 hj hy0 hy1 hy2 rfl hnew rfl rfl hsrc (by unfold maxLen; omega) (by omega) ?_))
              intro v7 w7 p1 p2 p3 p4
              obtain ⟨WB, hWB⟩ : ∃ WB, WB = W6.alloc (.cells #[.string RL] 9) := ⟨_, rfl⟩
              have hzB : WB.heap.size = W6.heap.size + 1 := by rw [hWB]; simp
              have hbB : Below W6.heap.size W6 WB := by rw [hWB]; exact (Below.refl _ _).alloc (Nat.le_refl _) _
              rw [← hWB, ← hzB] at p3
              rw [← hzB] at p2 p4
              obtain ⟨jB, kB⟩ := J6.out.keep hbB
              have e1 : (all ++ [bl]).map strW = all.map strW ++ [.string RL] := by rw [List.map_append, HRL2.out]; rfl
              have p1 : OB d w1 v7 ((all ++ [bl]).map strW).length ((all ++ [bl]).map strW) w7 := by
                rw [e1]; simpa using p1
              obtain ⟨j7, k7⟩ := jB.app1 p1 p2 p3 p4
              have j7' : Hid (JW (fun x => x = j) d w1 v7 _ ((all ++ [bl]).map strW) _ _ _ _ w7) := Lib.hid (j7.lessX (fun x hx => .inl hx))
              have c7 : Hid (Cs w7 j [.pointer (some ⟨d, 0, none⟩)]) := Lib.hid (C4.out.block (((KK6.out.trans kB).trans k7).2 j (.inl rfl)) ((KK6.out.trans kB).trans k7).1)
              obtain ⟨ch', hch⟩ := HJS.out.write bl (by rw [HDL.out]; exact h600)
              have s7 := Lib.hid hch
              clear j7 k7 jB kB p1 p2 p3 p4 e1 hWB hzB hbB hcv hnew hsrc J6 KK6 hch
              go_wp2_with fail
              go_roundw
              case rel => exact ⟨k + 1, by omega, by go_num, ch', all ++ [bl], _, _, wt + 1, by omega, s7, j7', c7⟩
              case measure => simp [intOf]; omega

      · have WF := Lib.hid (write_full (j := j) A1 n1 c1 w3 (by omega) (by unfold maxLen; omega))
        have NE := Lib.hid (number_errno 9 w3 (HET.out.keep (Nat.le_refl _) HBW3.out))
        have h600i : (600 : Int) < n1 := by omega
        go_wp2_with fail
        refine WF.out.mono ?_
        clear WF
        rintro e w4 ⟨rfl, rfl⟩
        go_wp2_with fail
        refine NE.out.mono ?_
        clear NE
        rintro e w5 ⟨rfl, hb5⟩
        have hb35 : Below wr.heap.size wr w5 := HB3.out.trans (hb5.mono HB3.out.size)
        have j5 := Lib.hid (HJW.out.keep hb35).1
        have c5 : Hid (Cs w5 j [.pointer (some ⟨d, 0, none⟩)]) := Lib.hid (HC3.out.block (hb5.block j HC3.out.lt) hb5.size)
        have s5 := Lib.hid (HJS.out.mono (Nat.le_succ k))
        clear hb5 hb35
        go_wp2_with fail
        go_roundw
        case rel => exact ⟨k + 1, by omega, by go_num, ch, all, segs, sf, wt, by omega, s5, j5, c5⟩
        case measure => simp [intOf]; omega
    · obtain rfl : k = n := by omega
      have hlt' : ¬ (k : Int) < k := by omega
      have hfew := HJS.out.few
      have hmany := HJS.out.many
      have hal := HJS.out.al
      have hsg := HJS.out.sg
      have hsh := HJS.out.short
      have ht : Torn ch segs := by rw [hsg]; exact Torn.whole HJS.out.small
      have RT := read_torn HJW.out.dv ht (by omega) hsh (by rw [← hal]; omega)
      rw [← hal] at RT
      have RT := Lib.hid RT
      have HSG := Lib.hid hsg
      have HSH := Lib.hid hsh
      have cj := hcj.out.get 0 _ rfl
      have qj := hcj.out.lt
      have ho1 := HJW.out.o1
      have ho2 := HJW.out.o2
      rw [List.length_map] at ho1 ho2
      obtain ⟨Aw, cw, rfl, -⟩ := ho1.slice
      obtain ⟨Ai, ci, rfl, -⟩ := ho2.slice
      clear hal hsg hsh ht ho1 ho2 HJS
      go_wp2_with fail
      refine RT.out.mono ?_
      clear RT
      rintro e w3 ⟨v3, vs3, b3, rfl, hc3, hb3⟩
      obtain rfl := hb3 HSG.out
      obtain ⟨j3, k3⟩ := HJW.out.keep hc3.ob.bel
      have c3' := hcj.out.block (k3.2 j rfl) k3.1
      have SG := Lib.hid (segments_any j3.dv (by omega) (fun s hs => by have := HSH.out s hs; omega))
      have cj3 := c3'.get 0 _ rfl
      have qj3 := c3'.lt
      obtain ⟨A3, c3, rfl, -⟩ := hc3.ob.slice
      have J3 := Lib.hid j3
      have CP3 := Lib.hid hc3
      clear j3 k3 c3' hc3 hb3 cj qj HJW
      go_wp2_with fail
      refine SG.out.mono ?_
      clear SG
      rintro e w4 ⟨v4, vs4, rfl, hc4⟩
      obtain ⟨j4, k4⟩ := J3.out.keep hc4.ob.bel
      have ho1 := j4.o1
      have ho2 := j4.o2
      rw [List.length_map] at ho1 ho2
      have CP3 := Lib.hid (CP3.out.keep hc4.ob.bel)
      have hb4 : Below w.heap.size w w4 := below_trans HB1.out HB1.out.size (by rw [← HD.out]; exact j4.below)
      obtain ⟨A4, c4, rfl, -⟩ := hc4.ob.slice
      have CP4 := Lib.hid hc4
      have O1 := Lib.hid ho1
      have O2 := Lib.hid ho2
      have HB4 := Lib.hid hb4
      have x1 : ((all.length : Int) != (all.length : Int)) = false := by simp
      have x2 : ((segs.length : Int) != (segs.length : Int)) = false := by simp
      clear j4 k4 ho1 ho2 hc4 hb4 J3 cj3 qj3
      go_wp2_with fail
      go_loopw [114] (fun i wr => ∃ q : Nat, q ≤ all.length ∧ i = .int .i64 q ∧ Below w4.heap.size w4 wr) (fun i _ => all.length - (intOf i).toNat)
      case atStart => exact ⟨0, Nat.zero_le _, rfl, Below.refl _ _⟩
      case round =>
        obtain ⟨q, hq', rfl, hbw⟩ := hrel
        by_cases hlt2 : q < all.length
        · have hlt2i : (q : Int) < all.length := by omega
          obtain ⟨gs, Aj, cj, cap, hvv, -, q6, y6, k1, k2, k3, ks⟩ := CP3.out.at_ q hlt2
          injection hvv with hv1 hv2 hv3
          subst hv1
          rcases O1.out.own with ⟨r, r0⟩ | ⟨gw, cap2, r, t1, t2, t3, t4, t5, t6⟩
          · omega
          injection r with r1 r2 r3
          subst r1
          obtain ⟨sk, hsk⟩ : ∃ sk, sk = all[q] := ⟨_, rfl⟩
          rw [← hsk] at y6 k1 k3 ks
          obtain ⟨lk, hlk⟩ : ∃ lk, lk = sk.length := ⟨_, rfl⟩
          rw [← hlk] at y6 k1 k3 ks
          have hqa : all[q]? = some sk := by rw [hsk]; exact List.getElem?_eq_getElem hlt2
          obtain ⟨RK, hRK⟩ : ∃ RK, RK = ByteArray.mk sk.toArray := ⟨_, rfl⟩
          have d6 : w4.cell? ⟨gw, q, none⟩ = some (.string RK) := t6 q _ (by rw [List.getElem?_map, hqa, hRK]; rfl)
          have q7 : gs < wr.heap.size := Nat.lt_of_lt_of_le q6 hbw.size
          have q8 : gw < wr.heap.size := Nat.lt_of_lt_of_le t2 hbw.size
          have c7 := (hbw.cell (p := ⟨gs, q, none⟩) q6).trans y6
          have c8 := (hbw.cell (p := ⟨gw, q, none⟩) t2).trans d6
          have KS : Hid (Sl wr wr.heap.size 1 Aj lk (sk.map bv)) := Lib.hid ((ks.sl.below hbw).more hbw.size)
          have HK3 : Hid (Aj = none → lk = 0) := Lib.hid (fun e => (k3 e).1)
          have HRK := Lib.hid hRK
          have hi2 : IntKind.i64.wrap ((q : Int) + 1) = (q : Int) + 1 := IntWalk.i64_in _ (by omega)
          clear hsk hlk hRK d6 y6 ks k1 k3 t5 t6 hqa t3 t4 k2 r2 r3 hv2 hv3
          go_upto_region 29 with fail
          refine wp_region_goesG dev_follows (fun x => by simp [putsF, Act.put]; rfl) wr.heap.size wr
            [isV (.slice (some ⟨gs, 0, none⟩) all.length c3), isV (.int .i64 q), isV (.pointer (some ⟨gs, q, none⟩)), isV (.slice Aj lk cj), isV (.string RK), isV (.slice (some ⟨gw, 0, none⟩) all.length cw), isV (.int .i64 q), isV (.pointer (some ⟨gw, q, none⟩)), isV (.string RK), isV (.bool false)]
            (by kernel_rfl) (by kernel_rfl) (by kernel_rfl) rfl ?_ (Below.refl _ _) ?_ ?_
          · repeat (first | exact trivial | refine ⟨isV_stays _, ?_⟩)
          · refine ⟨?_, ?_, ?_, ?_, ?_, ?_, ?_, ?_, ?_, ?_, trivial⟩
            all_goals
              intro x wx hR hd
              simp at hd ⊢
            all_goals try simp [hd]
            all_goals first
              | (go_simp; exact next_same _ rfl rfl hR)
              | (have f0 := (hR.cell (p := ⟨gs, q, none⟩) q7).trans c7; go_simp; exact next_same _ rfl rfl hR)
              | (have f0 := (hR.cell (p := ⟨gw, q, none⟩) q8).trans c8; go_simp; exact next_same _ rfl rfl hR)
              | (have hv := run_string_of (P := Tryd.prog) wx 32 9 5 _ Aj lk sk Tryd.underlying32 Tryd.underlying5 Tryd.underlying9 (KS.out.below hR) HK3.out cj; rw [← HRK.out] at hv; go_simp; exact next_same _ rfl rfl hR)
              | skip
            all_goals trace_state
          intro x wy hby hx
          simp [AllWords] at hx ⊢
          have hx29 : x 9 = .bool false := by simp [hx]
          clear hx
          rw [hx29]
          have hbw' := hbw.trans (hby.mono hbw.size)
          go_wp2_with fail
          go_roundw
          case rel => exact ⟨q + 1, by omega, by go_num, hbw'⟩
          case measure => simp [intOf]; omega
        · obtain rfl : q = all.length := by omega
          have hlt2i : ¬ (all.length : Int) < all.length := by omega
          go_wp2_with fail
          go_loopw [130] (fun i wr => ∃ q : Nat, q ≤ segs.length ∧ i = .int .i64 q ∧ Below w4.heap.size w4 wr) (fun i _ => segs.length - (intOf i).toNat)
          case atStart => exact ⟨0, Nat.zero_le _, rfl, hbw⟩
          case round =>
            obtain ⟨q, hq', rfl, hbw⟩ := hrel
            by_cases hlt2 : q < segs.length
            · have hlt2i : (q : Int) < segs.length := by omega
              obtain ⟨gs, Aj, cj, cap, hvv, -, q6, y6, k1, k2, k3, ks⟩ := CP4.out.at_ q hlt2
              injection hvv with hv1 hv2 hv3
              subst hv1
              rcases O2.out.own with ⟨r, r0⟩ | ⟨gw, cap2, r, t1, t2, t3, t4, t5, t6⟩
              · omega
              injection r with r1 r2 r3
              subst r1
              obtain ⟨sk, hsk⟩ : ∃ sk, sk = segs[q] := ⟨_, rfl⟩
              rw [← hsk] at y6 k1 k3 ks
              obtain ⟨lk, hlk⟩ : ∃ lk, lk = sk.length := ⟨_, rfl⟩
              rw [← hlk] at y6 k1 k3 ks
              have hqa : segs[q]? = some sk := by rw [hsk]; exact List.getElem?_eq_getElem hlt2
              obtain ⟨RK, hRK⟩ : ∃ RK, RK = ByteArray.mk sk.toArray := ⟨_, rfl⟩
              have d6 : w4.cell? ⟨gw, q, none⟩ = some (.int .i64 (lk : Nat)) := t6 q _ (by rw [List.getElem?_map, hqa, hlk]; rfl)
              have q7 : gs < wr.heap.size := Nat.lt_of_lt_of_le q6 hbw.size
              have q8 : gw < wr.heap.size := Nat.lt_of_lt_of_le t2 hbw.size
              have c7 := (hbw.cell (p := ⟨gs, q, none⟩) q6).trans y6
              have c8 := (hbw.cell (p := ⟨gw, q, none⟩) t2).trans d6
              have KS : Hid (Sl wr wr.heap.size 1 Aj lk (sk.map bv)) := Lib.hid ((ks.sl.below hbw).more hbw.size)
              have HK3 : Hid (Aj = none → lk = 0) := Lib.hid (fun e => (k3 e).1)
              have HRK := Lib.hid hRK
              have hi2 : IntKind.i64.wrap ((q : Int) + 1) = (q : Int) + 1 := IntWalk.i64_in _ (by omega)
              clear hsk hlk hRK d6 y6 ks k1 k3 t5 t6 hqa t3 t4 k2 r2 r3 hv2 hv3
              go_upto_region 35 with fail
              refine wp_region_goesG dev_follows (fun x => by simp [putsF, Act.put]; rfl) wr.heap.size wr
                [isV (.slice (some ⟨gs, 0, none⟩) segs.length c4), isV (.int .i64 q), isV (.pointer (some ⟨gs, q, none⟩)), isV (.slice Aj lk cj), isV (.int .i64 lk), isV (.slice (some ⟨gw, 0, none⟩) segs.length ci), isV (.int .i64 q), isV (.pointer (some ⟨gw, q, none⟩)), isV (.int .i64 lk), isV (.bool false)]
                (by kernel_rfl) (by kernel_rfl) (by kernel_rfl) rfl ?_ (Below.refl _ _) ?_ ?_
              · repeat (first | exact trivial | refine ⟨isV_stays _, ?_⟩)
              · refine ⟨?_, ?_, ?_, ?_, ?_, ?_, ?_, ?_, ?_, ?_, trivial⟩
                all_goals
                  intro x wx hR hd
                  simp at hd ⊢
                all_goals try simp [hd]
                all_goals first
                  | (go_simp; exact next_same _ rfl rfl hR)
                  | (have f0 := (hR.cell (p := ⟨gs, q, none⟩) q7).trans c7; go_simp; exact next_same _ rfl rfl hR)
                  | (have f0 := (hR.cell (p := ⟨gw, q, none⟩) q8).trans c8; go_simp; exact next_same _ rfl rfl hR)
                  | (have hv := run_string_of (P := Tryd.prog) wx 32 9 5 _ Aj lk sk Tryd.underlying32 Tryd.underlying5 Tryd.underlying9 (KS.out.below hR) HK3.out cj; rw [← HRK.out] at hv; go_simp; exact next_same _ rfl rfl hR)
                  | skip
                all_goals trace_state
              intro x wy hby hx
              simp [AllWords] at hx ⊢
              have hx29 : x 9 = .bool false := by simp [hx]
              clear hx
              rw [hx29]
              have hbw' := hbw.trans (hby.mono hbw.size)
              go_wp2_with fail
              go_roundw
              case rel => exact ⟨q + 1, by omega, by go_num, hbw'⟩
              case measure => simp [intOf]; omega
            · obtain rfl : q = segs.length := by omega
              have hlt2i : ¬ (segs.length : Int) < segs.length := by omega
              go_wp2_with fail
              go_ret
              exact ⟨rfl, HB4.out.trans (hbw.mono HB4.out.size)⟩


end Go.Proofs.YtidpffgdndjgpaaDoor
