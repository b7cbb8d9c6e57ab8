/- Texts that walks stand on, one behind the other. -/
import Derived.Test.YtpbbnpglcadimaaDoorMgSE
import Derived.Test.YtpbbnpglcadimaaDoorRecC
import Derived.Test.YtpbbnpglcadimaaDoorMgSB
import Derived.Outline
import Derived.BigQuiet
import Derived.Test.YtpbbnpglcadimaaDoorRows
import Derived.ChangeVars
import Derived.LaidLaws
import Derived.LaidHandle
import Derived.Stop.Joined
import Derived.Test.YtpbbnpglcadimaaDoorViewA
namespace Go.Proofs.YtpbbnpglcadimaaDoor
open Go.RowKit
set_option linter.unusedVariables false
set_option linter.unusedSimpArgs false
set_option maxRecDepth 20000
attribute [local simp] putsF isV wordOf Deps Region.binds Region.wanted Act.put wantedX isB
theorem obm_one {B g : Nat} {W w : World} {v : Value} (hb : Below B W w) (hs : B ≤ w.heap.size) (hg : B ≤ g) (h : Cs w g [v]) : OBM 1 B W (.slice (some ⟨g, 0, none⟩) 1 1) 1 [v] w := by
  refine ⟨hb, hs, rfl, .inr ⟨g, 1, rfl, hg, h.lt, Nat.le_refl _, by decide, fun j hj => ?_, fun j u hu => h.get j u hu⟩⟩
  have h1 := h.2 j (by simpa using hj)
  exact ⟨by rw [h1.1]; rfl, h1.2⟩
/-- Ahead of the loop. -/
theorem chs_start {o : ByteArray} {acts : List ActT} {rows : List RowA} {W w w' : World} {g : Nat} {v : Value} (hz : OBM 4 W.heap.size W v (zsR o acts rows 0).length (flatR (zsR o acts rows 0)) w) (hb : Below w.heap.size w w') (hg : g = w.heap.size) (h : Cs w' g [v]) :
    ChS o acts rows W 0 (.slice (some ⟨g, 0, none⟩) 1 1) (.slice none 0 0) [v] [] [(v, zsR o acts rows 0)] w' := by
  have hz' := hz.keep hb (Nat.le_refl _)
  refine ⟨⟨obm_one hz'.bel hz'.base (by rw [hg]; exact hz.base) h, OBM.nil hz'.bel hz'.base, fun q hq e => by simp [Value.ownBlock] at e, fun x hx => ?_⟩, rfl, rfl, fun i v hv => ?_, fun i x hx => by simp at hx⟩
  · rw [List.mem_singleton] at hx
    subst hx
    refine ⟨hz', fun q hq => ⟨fun e => ?_, fun e => by simp [Value.ownBlock] at e⟩⟩
    have e : g = q := by simpa [Value.ownBlock] using e
    have := (hz.lt q hq).2
    omega
  · have hl := (List.getElem?_eq_some_iff.1 hv).1
    simp at hl
    subst hl
    simp at hv
    subst hv
    simp
/-- A slice that came behind w7. -/
theorem Two2.add {W w7 w : World} {s1 s2 n1 n2 : Nat} {v1 v2 : Value} {l1 l2 : List Value} {xs ys : List (Value × List RecT)} (h : Two2 W s1 s2 v1 n1 l1 v2 n2 l2 xs w) (h7 : Two2 W s1 s2 v1 n1 l1 v2 n2 l2 ys w7) {v : Value} {l : List RecT} (hx : OBM 4 w7.heap.size w7 v l.length (flatR l) w) : Two2 W s1 s2 v1 n1 l1 v2 n2 l2 (xs ++ [(v, l)]) w := by
  refine ⟨h.o1, h.o2, h.ne, fun x hm => ?_⟩
  rcases List.mem_append.1 hm with hm | hm
  · exact h.xs x hm
  · rw [List.mem_singleton] at hm
    subst hm
    refine ⟨hx.out h7.o1.base h7.o1.bel, fun q hq => ⟨fun e => ?_, fun e => ?_⟩⟩
    · have := (hx.lt q hq).1; have := (h7.o1.lt q e).2; omega
    · have := (hx.lt q hq).1; have := (h7.o2.lt q e).2; omega
theorem ChS.addx {o : ByteArray} {acts : List ActT} {rows : List RowA} {W w w' : World} {k : Nat} {zv dv : Value} {zx : List Value} {dx : List DX} {xs ys : List (Value × List RecT)} (h : ChS o acts rows W k zv dv zx dx xs w) (ht : Two2 W 1 10 zv (k + 1) zx dv k (flatDX dx) (xs ++ ys) w') : ChS o acts rows W k zv dv zx dx (xs ++ ys) w' :=
  ⟨ht, h.zl, h.dl, fun i v hv => List.mem_append_left _ (h.z i v hv), fun i x hx => ⟨(h.d i x hx).1, List.mem_append_left _ (h.d i x hx).2.1, List.mem_append_left _ (h.d i x hx).2.2⟩⟩
/-- TwoZ, with what the two slots hold ahead of their assigns. -/
def TwoZH (W : World) (s1 s2 BA N0 : Nat) (v1 : Value) (n1 : Nat) (l1 e1 : List Value) (v2 : Value) (n2 : Nat) (l2 e2 : List Value) (xs : List (Value × List RecT)) (bx : List Value) (d : Nat → Bool) (x : Nat → Value) (w : World) : Prop :=
  TwoZ W s1 s2 BA N0 v1 n1 l1 e1 v2 n2 l2 e2 xs bx d x w ∧ (d 8 = false → x 8 = v1) ∧ (d 9 = false → x 9 = v2)
theorem TwoZH.next {W w w' : World} {s1 s2 BA N0 n1 n2 : Nat} {v1 v2 : Value} {l1 e1 l2 e2 bx : List Value} {xs : List (Value × List RecT)} {d : Nat → Bool} {x : Nat → Value} (h : TwoZH W s1 s2 BA N0 v1 n1 l1 e1 v2 n2 l2 e2 xs bx d x w) {i : Nat} {v : Value} (hi : 3 ≠ i ∧ 7 ≠ i ∧ 8 ≠ i ∧ 9 ≠ i) (hb : Below w.heap.size w w') : TwoZH W s1 s2 BA N0 v1 n1 l1 e1 v2 n2 l2 e2 xs bx (setD d i) (fun j => if j = i then v else x j) w' :=
  ⟨h.1.next hi hb, held_next h.2.1 hi.2.2.1, held_next h.2.2 hi.2.2.2⟩
theorem zon_info : (Tryd.prog.info? 49).map (fun i => (i.zero, i.size, i.bytes)) = some (some (.slice none 0 0), 1, 24) := by kernel_rfl
theorem notyet {ops : Array Oper} {d : Nat → Bool} (hcl : ClosedX ops d) {i j : Nat} (hr : reachX ops 20 i j = true) (h : d i = false) : d j = false := by
  cases e : d j with
  | false => rfl
  | true => have := hcl.reach 20 i j hr e; rw [h] at this; cases this
set_option maxHeartbeats 12800000 in
theorem applyChain_walk (w : World) (hE : Etype w) (z : Int) (hz : (Lit.int .u8 z).wf = true) (A : Option Addr) (n c : Nat) (acts : List ActT) (hV : Acts5 w A n c acts) (A2 : Option Addr) (n2 c2 : Nat) (rows : List RowA) (hR : Rows9 w A2 n2 rows) (hle : n2 ≤ c2) (hmx : c2 ≤ maxLen) :
    Calls Tryd.prog 4 #[.int .u8 z, .slice A n c, .slice A2 n2 c2] w fun e w' => e = .returned (.bool true) ∧ Below w.heap.size w w' := by
  have hz8 := u8_wf hz
  obtain ⟨on, rfl⟩ : ∃ on : Nat, z = on := ⟨z.toNat, by omega⟩
  obtain ⟨i0, hi, hz0, hz1, hz2⟩ := info_parts4 rec_info
  obtain ⟨i1, hi1, hy0, hy1, hy2⟩ := info_parts4 zon_info
  obtain ⟨i2, hi2, hx0, hx1, hx2⟩ := info_parts4 del_info
  have OG := Lib.hid (fun w => origin_any on (by omega) w)
  have hob := originB_le on
  have hol := labelsOf_origin on
  generalize originB on = o at *
  have hom : o.size ≤ maxLen := Nat.le_trans hob (by decide)
  have hnm : n2 ≤ 9223372036854775807 := Nat.le_trans hle (Nat.le_trans hmx (by decide))
  obtain ⟨N, hN⟩ : ∃ N, N = min n2 4 := ⟨_, rfl⟩
  have Z0 : Hid (∀ wx, Below w.heap.size w wx → Calls Tryd.prog 14 #[.string o, .int .u32 1, .slice A n c, .int .i64 10] wx fun e w' => ∃ v, e = .returned v ∧ OBM 4 wx.heap.size wx v (zsR o acts rows 0).length (flatR (zsR o acts rows 0)) w') := Lib.hid (fun wx hbx => zone10_any o 1 (by omega) A n c 10 acts wx (hV.at_.below hbx) hV.most (by decide) hom)
  have ZK : Hid (∀ (k : Nat) (r : RowA), rows[k]? = some r → k < 100 → ∀ wx, Below w.heap.size w wx → Calls Tryd.prog 14 #[.string o, .int .u32 ((k : Int) + 2), .slice r.1 r.2.1 r.2.2.1, .int .i64 10] wx fun e w' => ∃ v, e = .returned v ∧ OBM 4 wx.heap.size wx v (zsR o acts rows (k + 1)).length (flatR (zsR o acts rows (k + 1))) w') := Lib.hid (fun k r hr hk wx hbx => by
    have hra : rowAt rows k = r.2.2.2 := by unfold rowAt; rw [hr]; rfl
    have := zone10_any o (k + 2) (by omega) r.1 r.2.1 r.2.2.1 10 (rowAt rows k) wx (by rw [hra]; exact (hR.acts k r hr).1.below hbx) (hR.acts k r hr).2 (by decide) hom
    exact this)
  have SA : Hid (∀ k : Nat, k < 100 → ∀ w, Calls Tryd.prog 10 #[.string o, .int .u32 ((k : Int) + 1)] w fun e w' => e = .returned (.agg #[.string o, .int .u16 6, .int .u32 9, .string (soaD (k + 1))]) ∧ Below w.heap.size w w') := Lib.hid (fun k hk w => soa9_any o (k + 1) (by omega) w)
  have SB : Hid (∀ k : Nat, k < 100 → ∀ w, Calls Tryd.prog 10 #[.string o, .int .u32 ((k : Int) + 2)] w fun e w' => e = .returned (.agg #[.string o, .int .u16 6, .int .u32 9, .string (soaD (k + 2))]) ∧ Below w.heap.size w w') := Lib.hid (fun k hk w => soa9_any o (k + 2) (by omega) w)
  have HRR := Lib.hid hR
  have HET := Lib.hid hE
  have HOM := Lib.hid hom
  have HOL := Lib.hid (And.intro hol hob)
  have HNN := Lib.hid hN
  have HNM := Lib.hid hnm
  have HZS := Lib.hid (zs_ok o acts rows)
  clear hz hR hV hz8 hob hN hle hmx hol hom hE hnm
  go_enter Tryd.func4, Tryd.ntmps4
  go_wp2_with fail
  refine (awake10_any _ HET.out).mono ?_
  rintro e w1 ⟨rfl, hb1⟩
  have HB1 := Lib.hid hb1
  clear hb1
  go_wp2_with fail
  refine (OG.out _).mono ?_
  rintro e w2 ⟨rfl, hb2⟩
  have HB2 := Lib.hid (below_trans HB1.out HB1.out.size hb2)
  clear hb2 OG HB1
  go_wp2_with fail
  refine (Z0.out _ HB2.out).mono ?_
  rintro e w3 ⟨v0, rfl, ho0⟩
  have HO0 := Lib.hid (ho0.out HB2.out.size HB2.out)
  obtain ⟨AZ, CZ, rfl, -⟩ := ho0.slice
  have hst := chs_start (o := o) (acts := acts) (rows := rows) HO0.out ((Below.refl w3.heap.size w3).alloc (Nat.le_refl _) (.cells #[.slice AZ (zsR o acts rows 0).length CZ] 49)) rfl (Cs.new w3 #[.slice AZ (zsR o acts rows 0).length CZ] 49 _)
  have X0 := Lib.hid hst
  have hnm := HNM.out
  clear hst ho0 Z0
  go_upto_region 7 with fail
  generalize (w3.alloc (.cells #[.slice AZ (zsR o acts rows 0).length CZ] 49)) = wL at *
  obtain ⟨g9, hg9⟩ : ∃ g, g = w3.heap.size := ⟨_, rfl⟩
  rw [← hg9] at X0 ⊢
  clear hg9
  go_wp2_with fail
  go_loopw [9, 10, 36] (fun vz vd i wr => ∃ (k : Nat) (zx : List Value) (dx : List DX) (xs : List (Value × List RecT)), k ≤ N ∧ i = .int .i64 (k : Nat) ∧ Hid (ChS o acts rows w k vz vd zx dx xs wr) ∧ Hid ((Value.slice AZ (zsR o acts rows 0).length CZ, zsR o acts rows 0) ∈ xs)) (fun _ _ i _ => N - (intOf i).toNat)
  case atStart => exact ⟨0, _, _, _, Nat.zero_le _, rfl, X0, Lib.hid (by simp)⟩
  case round =>
    obtain ⟨k, zx, dx, xs, hk, rfl, HX, HM⟩ := hrel
    by_cases hlt : k < N
    · have hnn := HNN.out
      have hk4 : k < 4 := by omega
      have hk4' : ¬ (k : Int) = 4 := by omega
      have hk2 : k < n2 := by omega
      have hlt' : (k : Int) < n2 := by omega
      obtain ⟨⟨A1, n1, c1, d1⟩, hr1⟩ : ∃ r, rows[k]? = some r := ⟨_, List.getElem?_eq_getElem (by rw [HRR.out.len]; omega)⟩
      obtain ⟨bb, off, rfl, hbb, hcl1⟩ := HRR.out.at_ k _ hr1
      have ZN := Lib.hid (ZK.out k _ hr1 (by omega))
      have hbw := HX.out.two.o1.bel
      have hcl := (hbw.cell (p := ⟨bb, off + k, none⟩) hbb).trans hcl1
      have hbl : bb < wr.heap.size := Nat.lt_of_lt_of_le hbb hbw.size
      have HBW := Lib.hid hbw
      have SAK := Lib.hid (SA.out k (by omega))
      have SBK := Lib.hid (SB.out k (by omega))
      clear hbb hcl1 hr1 hnn hbw
      go_wp2_with fail
      refine (ZN.out _ HBW.out).mono ?_
      rintro e w4 ⟨nz, rfl, hoz⟩
      have HX4 := Lib.hid (HX.out.keep hoz.bel (Nat.le_refl _))
      have HXZ := Lib.hid (HX.out.fresh hoz)
      obtain ⟨A4, C4, rfl, -⟩ := hoz.slice
      obtain ⟨Ak, ck, hzk, hrk, hok⟩ := HX4.out.zone (Nat.le_refl k)
      obtain ⟨gz, cz, hvz, hgz, hcz⟩ := HX4.out.zcell hzk
      subst hvz
      obtain ⟨a, ha⟩ : ∃ a, a = zsR o acts rows k := ⟨_, rfl⟩
      obtain ⟨b, hb⟩ : ∃ b, b = zsR o acts rows (k + 1) := ⟨_, rfl⟩
      have hal : a.length ≤ 11 := by rw [ha]; exact (HZS.out k).2
      have hbl : b.length ≤ 11 := by rw [hb]; exact (HZS.out (k + 1)).2
      rw [← ha] at hcz hrk hok
      rw [← hb] at hoz ⊢
      have BT := Lib.hid (between_any Ak A4 a.length ck b.length C4 a b w4 (hok.recs rfl) rfl (by omega) (hoz.recs rfl) rfl (by omega))
      have HAB := Lib.hid (And.intro ha hb)
      have hk1 : k < k + 1 := by omega
      have hk1' : (k : Int) < ((k + 1 : Nat) : Int) := by omega
      clear ha hb hzk hrk hok hoz ZN HX4 HX
      go_wp2_with fail
      refine BT.out.mono ?_
      rintro e w5 ⟨vg, vf, rfl, hog, hof, hgf⟩
      obtain ⟨G, hG⟩ : ∃ G, G = woR a b := ⟨_, rfl⟩
      obtain ⟨F, hF⟩ : ∃ F, F = woR b a := ⟨_, rfl⟩
      have hgl : G.length ≤ 11 := by rw [hG]; exact Nat.le_trans (woR_le a b) hal
      have hfl : F.length ≤ 11 := by rw [hF]; exact Nat.le_trans (woR_le b a) hbl
      have HGR : Hid (goR o acts rows k = nosoa G) := Lib.hid (by unfold goR; rw [hG, HAB.out.1, HAB.out.2])
      have HCR : Hid (coR o acts rows k = nosoa F) := Lib.hid (by unfold coR; rw [hF, HAB.out.1, HAB.out.2])
      rw [← hG] at hog
      rw [← hF] at hof
      have HXW := Lib.hid (HXZ.out.keep hog.bel (Nat.le_refl _))
      obtain ⟨AG, CG, rfl, -⟩ := hog.slice
      obtain ⟨AF, CF, rfl, -⟩ := hof.slice
      have HRG := Lib.hid (hog.recs rfl)
      have HRF := Lib.hid (hof.recs rfl)
      obtain ⟨lg, hlg⟩ : ∃ l, l = G.length := ⟨_, rfl⟩
      obtain ⟨lf, hlf⟩ : ∃ l, l = F.length := ⟨_, rfl⟩
      rw [← hlg] at hgl ⊢
      rw [← hlf] at hfl ⊢
      have HLG := Lib.hid hlg
      have HLF := Lib.hid hlf
      clear hG hF hog hof hgf hlg hlf BT HXZ
      go_wp2_with fail
      refine (SAK.out _).mono ?_
      rintro e w6 ⟨rfl, hb6⟩
      have HB6 := Lib.hid hb6
      clear hb6
      go_wp2_with fail
      refine (SBK.out _).mono ?_
      rintro e w7 ⟨rfl, hb7⟩
      have HB7 := Lib.hid (below_trans HB6.out HB6.out.size hb7)
      clear hb7 HB6
      obtain ⟨D1, hD1⟩ : ∃ D, D = soaD (k + 1) := ⟨_, rfl⟩
      obtain ⟨D2, hD2⟩ : ∃ D, D = soaD (k + 2) := ⟨_, rfl⟩
      rw [← hD1, ← hD2]
      have HDD := Lib.hid (And.intro hD1 hD2)
      clear hD1 hD2
      go_upto_region 14 with fail
      obtain ⟨w8, hw8⟩ : ∃ w8, w8 = w7.alloc (.cells #[.string o, .int .u16 6, .int .u32 9, .string D1, .string o, .int .u16 6, .int .u32 9, .string D2, .slice none 0 0, .slice none 0 0] 43) := ⟨_, rfl⟩
      obtain ⟨B1, hB1⟩ : ∃ B, B = w7.heap.size := ⟨_, rfl⟩
      have hb8 : Below w7.heap.size w7 w8 := by rw [hw8]; exact (Below.refl _ _).alloc (Nat.le_refl _) _
      have HS8 : Hid (w7.heap.size ≤ B1 ∧ B1 < w8.heap.size) := Lib.hid (by rw [hB1, hw8]; simp)
      have HST71 : Hid (OneS w7 w8 B1 (fun u => [.string o, .int .u16 6, .int .u32 9, .string D1, .string o, .int .u16 6, .int .u32 9, .string D2, u, .slice none 0 0]) (.slice none 0 0) (.slice none 0 0) (nosoa (G.take 0)) w8) := Lib.hid ⟨hb8, Nat.le_refl _, fun _ _ _ => rfl, by rw [hw8, hB1]; exact Cs.new w7 _ _ _, OBM.nil hb8 hb8.size, fun q hq => by simp [Value.ownBlock] at hq⟩
      have HRG7 : Hid (Recs w7 AG G) := Lib.hid (HRG.out.below HB7.out)
      have HRF7 : Hid (Recs w7 AF F) := Lib.hid (HRF.out.below HB7.out)
      rw [← hw8, ← hB1]
      clear hw8 hB1 hb8
      go_wp2_with fail
      go_loopw [71] (fun i wy => ∃ (q : Nat) (v : Value), q ≤ lg ∧ i = .int .i64 (q : Nat) ∧ Hid (OneS w7 w8 B1 (fun u => [.string o, .int .u16 6, .int .u32 9, .string D1, .string o, .int .u16 6, .int .u32 9, .string D2, u, .slice none 0 0]) v v (nosoa (G.take q)) wy)) (fun i _ => lg - (intOf i).toNat)
      case atStart => exact ⟨0, _, Nat.zero_le _, rfl, HST71⟩
      case round =>
        obtain ⟨q, v, hq, rfl, HT⟩ := hrel
        by_cases hql : q < lg
        · have hql' : (q : Int) < lg := by omega
          have hq0 : ¬ (q : Int) < 0 := by omega
          obtain ⟨r, hr⟩ : ∃ x, G[q]? = some x := ⟨_, List.getElem?_eq_getElem (by rw [← HLG.out]; exact hql)⟩
          obtain ⟨g, og, rfl, hg, z0, z1, z2, z3⟩ := (HRG7.out.below HT.out.bel) q _ hr
          obtain ⟨wa, hwa⟩ : ∃ wa, wa = wr.alloc (.cells #[.string r.1, .int .u16 r.2.1, .int .u32 r.2.2.1, .string r.2.2.2] 41) := ⟨_, rfl⟩
          obtain ⟨BA, hBA⟩ : ∃ B, B = wr.heap.size := ⟨_, rfl⟩
          have HCA : Hid (Cs wa BA [.string r.1, .int .u16 r.2.1, .int .u32 r.2.2.1, .string r.2.2.2]) := Lib.hid (by rw [hwa, hBA]; exact Cs.new wr _ _ _)
          have HTA : Hid (OneS w7 w8 B1 (fun u => [.string o, .int .u16 6, .int .u32 9, .string D1, .string o, .int .u16 6, .int .u32 9, .string D2, u, .slice none 0 0]) v v (nosoa (G.take q)) wa) := Lib.hid (by rw [hwa]; exact HT.out.goes ((Below.refl _ _).alloc (Nat.le_refl _) _))
          have HWA := Lib.hid hwa
          have HBA := Lib.hid hBA
          have HR := Lib.hid hr
          have hkl : (nosoa (G.take q)).length ≤ 11 := by
            have h2 := nosoa_le (G.take q)
            simp at h2; omega
          clear hwa hBA hr HT
          go_upto_region 17 with fail
          rw [← HWA.out, ← HBA.out]
          have c0 := HCA.out.get 0 _
          have c1 := HCA.out.get 1 _
          have c2 := HCA.out.get 2 _
          have c3 := HCA.out.get 3 _
          have cl := HCA.out.lt
          clear z0 z1 z2 z3
          by_cases ht : r.2.1 = 6
          · have ht6 : (r.2.1 != 6) = false := by simp [ht]
            have HNX := Lib.hid (nosoa_yes HR.out (show isSoaR r = true by unfold isSoaR; simp [ht]))
            clear ht
            go_wp2_with fail
            go_roundw
            case rel => exact ⟨q + 1, _, by omega, by go_num, Lib.hid (by rw [HNX.out]; exact HTA.out)⟩
            case measure => simp [intOf]; omega
          · have ht6 : (r.2.1 != 6) = true := by simp [ht]
            have HNX := Lib.hid (nosoa_no HR.out (show isSoaR r = false by unfold isSoaR; simp [ht]))
            clear ht
            obtain ⟨K, hK⟩ : ∃ K, K = nosoa (G.take q) := ⟨_, rfl⟩
            rw [← hK] at HTA HNX hkl
            clear hK
            obtain ⟨AV, CV, rfl, -⟩ := HTA.out.own.slice
            have HTB := Lib.hid (HTA.out.goes ((Below.refl wa.heap.size wa).alloc (Nat.le_refl _) (.cells #[.string r.1, .int .u16 r.2.1, .int .u32 r.2.2.1, .string r.2.2.2] 41)))
            have hs := Lib.hid (src_rec (w := wa) (ts := 27) Tryd.underlying27 r)
            have hbx : Cs wa B1 [.string o, .int .u16 6, .int .u32 9, .string D1, .string o, .int .u16 6, .int .u32 9, .string D2, .slice AV K.length CV, .slice none 0 0] := HTA.out.box
            have k8 := hbx.get 8 _
            have kl := hbx.lt
            go_wp2_with (at_builtin; go_loud (refine wpList_append_obm rfl _ _ 27 27 rfl 41 i0 _ 40 Tryd.underlying27 hi hz0 hz1 hz2 rfl HTB.out.own rfl rfl hs.out rfl (by unfold maxLen; omega) (by omega) ?_))
            intro v' wz q1 q2 q3 q4
            have q2 : (wa.alloc (.cells #[.string r.1, .int .u16 r.2.1, .int .u32 r.2.2.1, .string r.2.2.2] 41)).heap.size ≤ wz.heap.size := by simpa using q2
            have q3 : ∀ k, k < (wa.alloc (.cells #[.string r.1, .int .u16 r.2.1, .int .u32 r.2.2.1, .string r.2.2.2] 41)).heap.size → some k ≠ (Value.slice AV K.length CV).ownBlock → wz.heap[k]? = (wa.alloc (.cells #[.string r.1, .int .u16 r.2.1, .int .u32 r.2.2.1, .string r.2.2.2] 41)).heap[k]? := fun k hk hne => q3 k (by simpa using hk) hne
            have q4 : v'.ownBlock = (Value.slice AV K.length CV).ownBlock ∨ v'.ownBlock = some (wa.alloc (.cells #[.string r.1, .int .u16 r.2.1, .int .u32 r.2.2.1, .string r.2.2.2] 41)).heap.size := by
              rcases q4 with h | h
              · exact .inl h
              · exact .inr (by rw [h]; simp)
            have HTC := Lib.hid (HTB.out.app HS8.out.2 q1 q2 q3 q4)
            clear q1 q2 q3 q4 k8 kl hbx HTB HTA hs
            obtain ⟨A9, C9, rfl, -⟩ := HTC.out.own.slice
            have hbx : Cs wz B1 [.string o, .int .u16 6, .int .u32 9, .string D1, .string o, .int .u16 6, .int .u32 9, .string D2, .slice AV K.length CV, .slice none 0 0] := HTC.out.box
            have k8 := hbx.get 8 _
            have kf := hbx.froz 8 (by simp)
            have kl := hbx.lt
            have HTD := Lib.hid (HTC.out.sto HS8.out.1 HS8.out.2 8 (.slice A9 (K ++ [r]).length C9) (by simp) rfl)
            have hKl : (K ++ [r]).length = K.length + 1 := by simp
            rw [hKl] at HTD
            go_wp2_with fail
            go_roundw
            case rel => exact ⟨q + 1, _, by omega, by go_num, Lib.hid (by rw [HNX.out]; exact HTD.out)⟩
            case measure => simp [intOf]; omega
        · obtain rfl : q = lg := by omega
          have hql' : ¬ (q : Int) < q := by omega
          have HTL : Hid (OneS w7 w8 B1 (fun u => [.string o, .int .u16 6, .int .u32 9, .string D1, .string o, .int .u16 6, .int .u32 9, .string D2, u, .slice none 0 0]) v v (nosoa G) wr) := Lib.hid (by
            have h := HT.out
            rw [List.take_of_length_le (by rw [← HLG.out]; exact Nat.le_refl _)] at h
            exact h)
          clear HT
          go_upto_region 20 with fail
          obtain ⟨VG, hVG⟩ : ∃ VG, VG = v := ⟨_, rfl⟩
          obtain ⟨we, hwe⟩ : ∃ we, we = wr := ⟨_, rfl⟩
          rw [← hVG, ← hwe] at HTL
          rw [← hwe]
          have HSE : Hid (B1 < we.heap.size) := Lib.hid (Nat.lt_of_lt_of_le HS8.out.2 HTL.out.size)
          have HST87 : Hid (OneS w7 we B1 (fun u => [.string o, .int .u16 6, .int .u32 9, .string D1, .string o, .int .u16 6, .int .u32 9, .string D2, VG, u]) (.slice none 0 0) (.slice none 0 0) (nosoa (F.take 0)) we) := Lib.hid ⟨HTL.out.bel, Nat.le_refl _, fun _ _ _ => rfl, HTL.out.box, OBM.nil HTL.out.bel HTL.out.bel.size, fun q hq => by simp [Value.ownBlock] at hq⟩
          clear hVG hwe
          go_wp2_with fail
          go_loopw [87] (fun i wy => ∃ (q : Nat) (v : Value), q ≤ lf ∧ i = .int .i64 (q : Nat) ∧ Hid (OneS w7 we B1 (fun u => [.string o, .int .u16 6, .int .u32 9, .string D1, .string o, .int .u16 6, .int .u32 9, .string D2, VG, u]) v v (nosoa (F.take q)) wy)) (fun i _ => lf - (intOf i).toNat)
          case atStart => exact ⟨0, _, Nat.zero_le _, rfl, HST87⟩
          case round =>
            obtain ⟨q, v, hq, rfl, HT⟩ := hrel
            by_cases hql : q < lf
            · have hql' : (q : Int) < lf := by omega
              have hq0 : ¬ (q : Int) < 0 := by omega
              obtain ⟨r, hr⟩ : ∃ x, F[q]? = some x := ⟨_, List.getElem?_eq_getElem (by rw [← HLF.out]; exact hql)⟩
              obtain ⟨g, og, rfl, hg, z0, z1, z2, z3⟩ := (HRF7.out.below HT.out.bel) q _ hr
              obtain ⟨wa, hwa⟩ : ∃ wa, wa = wr.alloc (.cells #[.string r.1, .int .u16 r.2.1, .int .u32 r.2.2.1, .string r.2.2.2] 41) := ⟨_, rfl⟩
              obtain ⟨BA, hBA⟩ : ∃ B, B = wr.heap.size := ⟨_, rfl⟩
              have HCA : Hid (Cs wa BA [.string r.1, .int .u16 r.2.1, .int .u32 r.2.2.1, .string r.2.2.2]) := Lib.hid (by rw [hwa, hBA]; exact Cs.new wr _ _ _)
              have HTA : Hid (OneS w7 we B1 (fun u => [.string o, .int .u16 6, .int .u32 9, .string D1, .string o, .int .u16 6, .int .u32 9, .string D2, VG, u]) v v (nosoa (F.take q)) wa) := Lib.hid (by rw [hwa]; exact HT.out.goes ((Below.refl _ _).alloc (Nat.le_refl _) _))
              have HWA := Lib.hid hwa
              have HBA := Lib.hid hBA
              have HR := Lib.hid hr
              have hkl : (nosoa (F.take q)).length ≤ 11 := by
                have h2 := nosoa_le (F.take q)
                simp at h2; omega
              clear hwa hBA hr HT
              go_upto_region 23 with fail
              rw [← HWA.out, ← HBA.out]
              have c0 := HCA.out.get 0 _
              have c1 := HCA.out.get 1 _
              have c2 := HCA.out.get 2 _
              have c3 := HCA.out.get 3 _
              have cl := HCA.out.lt
              clear z0 z1 z2 z3
              by_cases ht : r.2.1 = 6
              · have ht6 : (r.2.1 != 6) = false := by simp [ht]
                have HNX := Lib.hid (nosoa_yes HR.out (show isSoaR r = true by unfold isSoaR; simp [ht]))
                clear ht
                go_wp2_with fail
                go_roundw
                case rel => exact ⟨q + 1, _, by omega, by go_num, Lib.hid (by rw [HNX.out]; exact HTA.out)⟩
                case measure => simp [intOf]; omega
              · have ht6 : (r.2.1 != 6) = true := by simp [ht]
                have HNX := Lib.hid (nosoa_no HR.out (show isSoaR r = false by unfold isSoaR; simp [ht]))
                clear ht
                obtain ⟨K, hK⟩ : ∃ K, K = nosoa (F.take q) := ⟨_, rfl⟩
                rw [← hK] at HTA HNX hkl
                clear hK
                obtain ⟨AV, CV, rfl, -⟩ := HTA.out.own.slice
                have HTB := Lib.hid (HTA.out.goes ((Below.refl wa.heap.size wa).alloc (Nat.le_refl _) (.cells #[.string r.1, .int .u16 r.2.1, .int .u32 r.2.2.1, .string r.2.2.2] 41)))
                have hs := Lib.hid (src_rec (w := wa) (ts := 27) Tryd.underlying27 r)
                have hbx : Cs wa B1 [.string o, .int .u16 6, .int .u32 9, .string D1, .string o, .int .u16 6, .int .u32 9, .string D2, VG, .slice AV K.length CV] := HTA.out.box
                have k9 := hbx.get 9 _
                have kl := hbx.lt
                go_wp2_with (at_builtin; go_loud (refine wpList_append_obm rfl _ _ 27 27 rfl 41 i0 _ 40 Tryd.underlying27 hi hz0 hz1 hz2 rfl HTB.out.own rfl rfl hs.out rfl (by unfold maxLen; omega) (by omega) ?_))
                intro v' wz q1 q2 q3 q4
                have q2 : (wa.alloc (.cells #[.string r.1, .int .u16 r.2.1, .int .u32 r.2.2.1, .string r.2.2.2] 41)).heap.size ≤ wz.heap.size := by simpa using q2
                have q3 : ∀ k, k < (wa.alloc (.cells #[.string r.1, .int .u16 r.2.1, .int .u32 r.2.2.1, .string r.2.2.2] 41)).heap.size → some k ≠ (Value.slice AV K.length CV).ownBlock → wz.heap[k]? = (wa.alloc (.cells #[.string r.1, .int .u16 r.2.1, .int .u32 r.2.2.1, .string r.2.2.2] 41)).heap[k]? := fun k hk hne => q3 k (by simpa using hk) hne
                have q4 : v'.ownBlock = (Value.slice AV K.length CV).ownBlock ∨ v'.ownBlock = some (wa.alloc (.cells #[.string r.1, .int .u16 r.2.1, .int .u32 r.2.2.1, .string r.2.2.2] 41)).heap.size := by
                  rcases q4 with h | h
                  · exact .inl h
                  · exact .inr (by rw [h]; simp)
                have HTC := Lib.hid (HTB.out.app HSE.out q1 q2 q3 q4)
                clear q1 q2 q3 q4 k9 kl hbx HTB HTA hs
                obtain ⟨A9, C9, rfl, -⟩ := HTC.out.own.slice
                have hbx : Cs wz B1 [.string o, .int .u16 6, .int .u32 9, .string D1, .string o, .int .u16 6, .int .u32 9, .string D2, VG, .slice AV K.length CV] := HTC.out.box
                have k9 := hbx.get 9 _
                have kf := hbx.froz 9 (by simp)
                have kl := hbx.lt
                have HTD := Lib.hid (HTC.out.sto HS8.out.1 HSE.out 9 (.slice A9 (K ++ [r]).length C9) (by simp) rfl)
                have hKl : (K ++ [r]).length = K.length + 1 := by simp
                rw [hKl] at HTD
                go_wp2_with fail
                go_roundw
                case rel => exact ⟨q + 1, _, by omega, by go_num, Lib.hid (by rw [HNX.out]; exact HTD.out)⟩
                case measure => simp [intOf]; omega
            · obtain rfl : q = lf := by omega
              have hql' : ¬ (q : Int) < q := by omega
              have HTM : Hid (OneS w7 we B1 (fun u => [.string o, .int .u16 6, .int .u32 9, .string D1, .string o, .int .u16 6, .int .u32 9, .string D2, VG, u]) v v (nosoa F) wr) := Lib.hid (by
                have h := HT.out
                rw [List.take_of_length_le (by rw [← HLF.out]; exact Nat.le_refl _)] at h
                exact h)
              clear HT
              have HOG : Hid (OBM 4 w7.heap.size w7 VG (nosoa G).length (flatR (nosoa G)) wr) := Lib.hid (HTL.out.own.block HTM.out.bel HTM.out.size (fun k hk => HTM.out.keep k (HTL.out.own.lt k hk).2 (fun e => by have := HTL.out.past k hk; have := HS8.out.2; omega)))
              have hbz : Below w7.heap.size w7 wr := HTM.out.bel
              have HXA := Lib.hid (HXW.out.keep (below_trans HB7.out HB7.out.size hbz) (Nat.le_refl _))
              go_upto_region 26 with fail
              obtain ⟨wB, hwB⟩ : ∃ wB, wB = wr := ⟨_, rfl⟩
              rw [← hwB] at HTM HOG hbz HXA
              rw [← hwB]
              obtain ⟨AVG, CVG, rfl, -⟩ := HOG.out.slice
              obtain ⟨AVF, CVF, hvf, -⟩ := HTM.out.own.slice
              subst hvf
              have H7 := Lib.hid ((HXW.out.keep HB7.out (Nat.le_refl _)).two)
              have HT1 := Lib.hid (HXA.out.addx (HXA.out.two.add H7.out HOG.out))
              obtain ⟨XS, HT2, HMX⟩ : ∃ XS, Hid (ChS o acts rows w k (.slice (some ⟨gz, 0, none⟩) (k + 1) cz) u10 zx dx XS wB) ∧ Hid ((Value.slice AZ (zsR o acts rows 0).length CZ, zsR o acts rows 0) ∈ XS ∧ (Value.slice A4 b.length C4, zsR o acts rows (k + 1)) ∈ XS ∧ (Value.slice AVG (nosoa G).length CVG, goR o acts rows k) ∈ XS ∧ (Value.slice AVF (nosoa F).length CVF, coR o acts rows k) ∈ XS) :=
                ⟨_, Lib.hid (HT1.out.addx (HT1.out.two.add H7.out HTM.out.own)), Lib.hid ⟨List.mem_append_left _ (List.mem_append_left _ (List.mem_append_left _ HM.out)), by rw [HAB.out.2]; simp, by rw [HGR.out]; simp, by rw [HCR.out]; simp⟩⟩
              have HN1 : Hid ((Value.slice (some ⟨gz, 0, none⟩) (k + 1) cz).ownBlock ≠ some B1) := Lib.hid (fun e => by have := (H7.out.o1.lt _ e).2; have := HS8.out.1; omega)
              have HN2 : Hid (u10.ownBlock ≠ some B1) := Lib.hid (fun e => by have := (H7.out.o2.lt _ e).2; have := HS8.out.1; omega)
              have HBZ := Lib.hid hbz.size
              obtain ⟨TEN, hTEN⟩ : ∃ T : List Value, T = [.string o, .int .u16 6, .int .u32 9, .string D1, .string o, .int .u16 6, .int .u32 9, .string D2, .slice AVG (nosoa G).length CVG, .slice AVF (nosoa F).length CVF] := ⟨_, rfl⟩
              have HTEN := Lib.hid hTEN
              have HTC : Hid (cellsDX (soaR o (k + 1), soaR o (k + 2), .slice AVG (nosoa G).length CVG, .slice AVF (nosoa F).length CVF) = TEN) := Lib.hid (by rw [hTEN, HDD.out.1, HDD.out.2]; rfl)
              have HBOX : Hid (Cs wB B1 TEN) := Lib.hid (by rw [hTEN]; exact HTM.out.box)
              have hT1 : ∀ u ∈ TEN, u.oneCell' = true := by
                rw [hTEN]; intro u hu; simp only [List.mem_cons, List.not_mem_nil, or_false] at hu
                rcases hu with rfl | rfl | rfl | rfl | rfl | rfl | rfl | rfl | rfl | rfl <;> rfl
              have HT1C := Lib.hid hT1
              obtain ⟨lg2, hlg2⟩ : ∃ l, l = (nosoa G).length := ⟨_, rfl⟩
              obtain ⟨lf2, hlf2⟩ : ∃ l, l = (nosoa F).length := ⟨_, rfl⟩
              have HLG2 := Lib.hid hlg2
              have HLF2 := Lib.hid hlf2
              rw [← hlg2, ← hlf2] at HTEN
              clear hTEN hT1 hwB hbz HTL HTM HOG hlg2 hlf2
              refine wp_region_expR app_follows (fun x => by simp [putsF, Act.put]; rfl) (TwoZH w 1 10 B1 wB.heap.size (.slice (some ⟨gz, 0, none⟩) (k + 1) cz) (k + 1) zx [.slice A4 b.length C4] u10 k (flatDX dx) TEN XS TEN)
                [isX (.slice (some ⟨gz, 0, none⟩) (k + 1) cz), isX (.slice A4 b.length C4), until_ 3 (litC wB.heap.size 1 [.slice A4 b.length C4]), anyX, isX u10, isX (.agg TEN.toArray), until_ 7 (litC wB.heap.size 1 TEN), anyX, anyX, anyX]
                [0, 3, 4, 7, 8, 9] (by kernel_rfl) (by kernel_rfl) (by kernel_rfl) rfl ?_ ⟨TwoZ.start (HT2.out.two.keep (Below.refl _ _).drew (Nat.le_refl _)) (HBOX.out.drewN 1) HN1.out HN2.out (Nat.le_refl _), fun _ => rfl, fun _ => rfl⟩ ?_ ?_ ?_
              · repeat (first | exact trivial | refine ⟨by first | exact isX_stays _ | exact anyX_stays | exact until_stays (litC_stays _ _ _), ?_⟩)
              · refine ⟨skipped rfl, ?_, ?_, skipped rfl, skipped rfl, ?_, ?_, skipped rfl, skipped rfl, skipped rfl, trivial⟩
                all_goals
                  intro _ d x wx hR hdi hsrc hd
                  refine ⟨fun _ => ?_, fun hX => by simp at hX⟩
                  simp [wordX, isX] at hd ⊢
                · go_simp; exact nextXR _ rfl rfl (hR.next (by decide) (Below.refl _ _)) (Below.refl _ _)
                · have hv : x 1 = .slice A4 b.length C4 := by first | exact hd | exact hd.1
                  simp only [hv]
                  clear hd hv
                  go_simp
                  exact nextXR _ rfl (until_of ⟨_, rfl, hR.1.sz, Cs.new _ _ _ _⟩) (hR.next (by decide) ((Below.refl wx.heap.size wx).alloc (Nat.le_refl _) _)) ((Below.refl wx.heap.size wx).alloc (Nat.le_refl _) _)
                · have hbx := hR.1.rb
                  have c0 : wx.cell? ⟨B1, 0, none⟩ = some (.string o) := hbx.get 0 _ (by rw [HTEN.out]; rfl)
                  have c1 : wx.cell? ⟨B1, 1, none⟩ = some (.int .u16 6) := hbx.get 1 _ (by rw [HTEN.out]; rfl)
                  have c2 : wx.cell? ⟨B1, 2, none⟩ = some (.int .u32 9) := hbx.get 2 _ (by rw [HTEN.out]; rfl)
                  have c3 : wx.cell? ⟨B1, 3, none⟩ = some (.string D1) := hbx.get 3 _ (by rw [HTEN.out]; rfl)
                  have c4 : wx.cell? ⟨B1, 4, none⟩ = some (.string o) := hbx.get 4 _ (by rw [HTEN.out]; rfl)
                  have c5 : wx.cell? ⟨B1, 5, none⟩ = some (.int .u16 6) := hbx.get 5 _ (by rw [HTEN.out]; rfl)
                  have c6 : wx.cell? ⟨B1, 6, none⟩ = some (.int .u32 9) := hbx.get 6 _ (by rw [HTEN.out]; rfl)
                  have c7 : wx.cell? ⟨B1, 7, none⟩ = some (.string D2) := hbx.get 7 _ (by rw [HTEN.out]; rfl)
                  have c8 : wx.cell? ⟨B1, 8, none⟩ = some (.slice AVG lg2 CVG) := hbx.get 8 _ (by rw [HTEN.out]; rfl)
                  have c9 : wx.cell? ⟨B1, 9, none⟩ = some (.slice AVF lf2 CVF) := hbx.get 9 _ (by rw [HTEN.out]; rfl)
                  have cl := hbx.lt
                  clear hbx
                  go_simp
                  exact nextXR _ rfl (by show _ = _; rw [HTEN.out]) (hR.next (by decide) (Below.refl _ _)) (Below.refl _ _)
                · have hv : x 5 = .agg #[.string o, .int .u16 6, .int .u32 9, .string D1, .string o, .int .u16 6, .int .u32 9, .string D2, .slice AVG lg2 CVG, .slice AVF lf2 CVF] := by
                    have h : x 5 = .agg TEN.toArray := by first | exact hd | exact hd.1
                    rw [h, HTEN.out]
                  simp only [hv]
                  clear hd hv
                  go_simp
                  exact nextXR _ rfl (until_of ⟨_, rfl, hR.1.sz, by rw [HTEN.out]; exact Cs.new _ _ _ _⟩) (hR.next (by decide) ((Below.refl wx.heap.size wx).alloc (Nat.le_refl _) _)) ((Below.refl wx.heap.size wx).alloc (Nat.le_refl _) _)
              · refine ⟨?_, unskipped rfl, unskipped rfl, ?_, ?_, unskipped rfl, unskipped rfl, ?_, ?_, ?_, trivial⟩
                · -- the zones
                  intro _ d x wx hR hdi hcl hsrc hd
                  refine ⟨fun _ => ?_, fun hX => by simp at hX⟩
                  have hx8 := hR.2.1 (notyet hcl (i := 0) (j := 8) (by kernel_rfl) hdi)
                  clear hd
                  try dsimp only
                  rw [hx8]
                  clear hx8
                  go_simp
                  refine nextKR _ rfl rfl (hR.next (by decide) (Below.refl _ _)) ?_
                  exact ⟨fun _ _ h => h, fun _ _ h => h, fun _ _ h => until_mono11 h, fun _ _ h => h, fun _ _ h => h, fun _ _ h => h, fun _ _ h => until_mono11 h, fun _ _ h => h, fun _ _ h => h, fun _ _ h => h, trivial⟩
                · -- the first append
                  intro _ d x wx hR hdi hcl hsrc hd
                  refine ⟨fun _ => ?_, fun hX => by simp at hX⟩
                  have d7 := notyet hcl (i := 3) (j := 7) (by kernel_rfl) hdi
                  obtain ⟨hst, -, -⟩ := hR.1.s0 hdi d7
                  have d0 : d 0 = true := SrcX.reach (K := 3) hcl hsrc rfl 20 0 (by decide) (by kernel_rfl)
                  have d2 : d 2 = true := SrcX.reach (K := 3) hcl hsrc rfl 20 2 (by decide) (by kernel_rfl)
                  simp only [DoneX] at hd
                  obtain ⟨h0, -, h2, -⟩ := hd
                  have hx0' : x 0 = .slice (some ⟨gz, 0, none⟩) (k + 1) cz := h0 d0
                  obtain ⟨g3, hx3, hg3, hc3⟩ : litC wB.heap.size 1 [.slice A4 b.length C4] (x 2) wx := h2 d2 hdi
                  try dsimp only
                  rw [hx0', hx3]
                  refine oper_append_obm _ _ _ _ rfl 49 i1 _ 24 Tryd.underlying51 hi1 hy0 hy1 hy2 rfl hst.o1 rfl rfl
                    (Src.ofSlice _ Tryd.underlying51 ⟨g3, 0, none⟩ 1 1 [.slice A4 b.length C4] rfl (fun j u hu => by rw [Addr.add_lit, Nat.zero_add]; exact hc3.get j u hu) (fun u hu => by rw [List.mem_singleton] at hu; subst hu; rfl)) rfl (by unfold maxLen; omega) (by omega) ?_
                  intro v' w' q1 q2 q3 q4
                  refine nextKR v' rfl trivial ⟨hR.1.do3 hdi d7 q1 q2 q3 q4, held_next hR.2.1 (by decide), held_next hR.2.2 (by decide)⟩ ?_
                  exact ⟨fun _ _ h => h, fun _ _ h => h, fun _ _ _ => until_self, fun _ _ h => h, fun _ _ h => h, fun _ _ h => h, fun _ _ h hk => (by
                    obtain ⟨g8, hx8, hg8, hc8⟩ := h (setD_false hk)
                    exact ⟨g8, hx8, hg8, hc8.block (q3 g8 hc8.lt (fun e => by have := (H7.out.o1.lt g8 e.symm).2; have := HBZ.out; omega)) q2⟩), fun _ _ h => h, fun _ _ h => h, fun _ _ h => h, trivial⟩
                · -- the deltas
                  intro _ d x wx hR hdi hcl hsrc hd
                  refine ⟨fun _ => ?_, fun hX => by simp at hX⟩
                  have hx9 := hR.2.2 (notyet hcl (i := 4) (j := 9) (by kernel_rfl) hdi)
                  clear hd
                  try dsimp only
                  rw [hx9]
                  clear hx9
                  go_simp
                  refine nextKR _ rfl rfl (hR.next (by decide) (Below.refl _ _)) ?_
                  exact ⟨fun _ _ h => h, fun _ _ h => h, fun _ _ h => until_mono11 h, fun _ _ h => h, fun _ _ h => h, fun _ _ h => h, fun _ _ h => until_mono11 h, fun _ _ h => h, fun _ _ h => h, fun _ _ h => h, trivial⟩
                · -- the second append
                  intro _ d x wx hR hdi hcl hsrc hd
                  refine ⟨fun _ => ?_, fun hX => by simp at hX⟩
                  have d3 : d 3 = true := SrcX.reach (K := 7) hcl hsrc rfl 20 3 (by decide) (by kernel_rfl)
                  obtain ⟨hst, -, -⟩ := hR.1.s3 d3 hdi
                  have d4 : d 4 = true := SrcX.reach (K := 7) hcl hsrc rfl 20 4 (by decide) (by kernel_rfl)
                  have d6 : d 6 = true := SrcX.reach (K := 7) hcl hsrc rfl 20 6 (by decide) (by kernel_rfl)
                  simp only [DoneX] at hd
                  obtain ⟨-, -, -, -, h4, -, h6, -⟩ := hd
                  have hx4 : x 4 = u10 := h4 d4
                  obtain ⟨g8, hx8, hg8, hc8⟩ : litC wB.heap.size 1 TEN (x 6) wx := h6 d6 hdi
                  try dsimp only
                  rw [hx4, hx8]
                  refine oper_append_obm _ _ _ _ rfl 43 i2 _ 128 Tryd.underlying29 hi2 hx0 hx1 hx2 rfl hst.o2 rfl rfl
                    (Src.ofSlice _ Tryd.underlying29 ⟨g8, 0, none⟩ 1 1 TEN (by rw [HTEN.out]; rfl) (fun j u hu => by rw [Addr.add_lit, Nat.zero_add]; exact hc8.get j u hu) HT1C.out) (by rw [HTEN.out]; rfl) (by unfold maxLen; omega) (by omega) ?_
                  intro v' w' q1 q2 q3 q4
                  refine nextKR v' rfl trivial ⟨hR.1.do7 d3 hdi q1 q2 q3 q4, held_next hR.2.1 (by decide), held_next hR.2.2 (by decide)⟩ ?_
                  exact ⟨fun _ _ h => h, fun _ _ h => h, fun _ _ _ => until_done d3, fun _ _ h => h, fun _ _ h => h, fun _ _ h => h, fun _ _ _ => until_self, fun _ _ h => h, fun _ _ h => h, fun _ _ h => h, trivial⟩
                · -- the first assign
                  intro _ d x wx hR hdi hcl hsrc hd
                  refine ⟨fun _ => ?_, fun hX => by simp at hX⟩
                  have d3 : d 3 = true := SrcX.reach (K := 8) hcl hsrc rfl 20 3 (by decide) (by kernel_rfl)
                  clear hd
                  go_simp
                  refine nextKR _ rfl trivial ⟨hR.1.do8 d3 (Below.refl _ _), held_self, held_next hR.2.2 (by decide)⟩ ?_
                  exact ⟨fun _ _ h => h, fun _ _ h => h, fun _ _ h => until_mono11 h, fun _ _ h => h, fun _ _ h => h, fun _ _ h => h, fun _ _ h => until_mono11 h, fun _ _ h => h, fun _ _ h => h, fun _ _ h => h, trivial⟩
                · -- the second assign
                  intro _ d x wx hR hdi hcl hsrc hd
                  refine ⟨fun _ => ?_, fun hX => by simp at hX⟩
                  have d7 : d 7 = true := SrcX.reach (K := 9) hcl hsrc rfl 20 7 (by decide) (by kernel_rfl)
                  clear hd
                  go_simp
                  refine nextKR _ rfl trivial ⟨hR.1.do9 d7 (Below.refl _ _), held_next hR.2.1 (by decide), held_self⟩ ?_
                  exact ⟨fun _ _ h => h, fun _ _ h => h, fun _ _ h => until_mono11 h, fun _ _ h => h, fun _ _ h => h, fun _ _ h => h, fun _ _ h => until_mono11 h, fun _ _ h => h, fun _ _ h => h, fun _ _ h => h, trivial⟩
              intro x wz d hall hR hx
              have HTZ := Lib.hid (hR.1.s7 (hall 3 (by decide)) (hall 7 (by decide)))
              have hx8 := (hR.1.b8 (hall 8 (by decide))).1
              have hx9 := (hR.1.b9 (hall 9 (by decide))).1
              rw [← hx8, ← hx9] at HTZ
              clear hx hR hall
              generalize x 8 = zv8 at *
              generalize x 9 = dv9 at *
              clear hx8 hx9
              have HXN := Lib.hid (HT2.out.step (by rw [HTC.out]; exact HTZ.out) HMX.out.2.1 HMX.out.2.2.1 HMX.out.2.2.2)
              go_wp2_with fail
              go_roundw
              case rel => exact ⟨k + 1, _, _, _, by omega, by go_num, HXN, Lib.hid HMX.out.1⟩
              case measure => simp [intOf]; omega
    · by_cases hk2 : k < n2
      · have hk4 : k = 4 := by have := HNN.out; omega
        subst hk4
        have hkN4 : 4 ≤ 4 := Nat.le_refl _
        have hlt' : (4 : Int) < n2 := by omega
        obtain ⟨⟨A1, n1, c1, d1⟩, hr1⟩ : ∃ r, rows[4]? = some r := ⟨_, List.getElem?_eq_getElem (by rw [HRR.out.len]; omega)⟩
        obtain ⟨bb, off0, rfl, hbb0, hcl1⟩ := HRR.out.at_ 4 _ hr1
        have hcl := (HX.out.two.o1.bel.cell (p := ⟨bb, off0 + 4, none⟩) hbb0).trans hcl1
        have hbl := Nat.lt_of_lt_of_le hbb0 HX.out.two.o1.bel.size
        clear hbb0 hcl1 hr1 hlt hk hk2
        clear HNN
        obtain ⟨Ads, Cds, hdv, hcd, hds⟩ := HX.out.dsAt
        have HDS := Lib.hid hds
        have HDL : Hid ((dltsOf o acts rows dx).length = 4) := Lib.hid (by rw [dltsOf_len, HX.out.dl])
        have HZ0 := Lib.hid ((HX.out.two.xs _ HM.out).1.zone)
        obtain ⟨Ak, ck, hzk, hrk, hok⟩ := HX.out.zone (Nat.le_refl 4)
        obtain ⟨gz, cz, hvz, hgz, hcz⟩ := HX.out.zcell hzk
        subst hvz
        have DP : Hid (Calls Tryd.prog 16 #[.string o, .slice AZ (zsR o acts rows 0).length CZ, .slice Ads 4 Cds] wr fun e w' => ∃ V, e = .returned (.tuple #[V, .nilIface]) ∧ ZoneAt w' V (zsR o acts rows 4) ∧ Below wr.heap.size wr w') := Lib.hid (by
          have hl := HDL.out
          have h := deltas_path o (zsR o acts rows) (dltsOf o acts rows dx) AZ CZ Ads Cds wr HZ0.out hds (by omega) (by omega) (HX.out.leads (by omega)) (fun i _ => ⟨(HZS.out i).1, by have := (HZS.out i).2; omega⟩) (by have := HOL.out.2; omega) (by rw [hl]; exact (zs_right o acts rows HOL.out.1 HOL.out.2 4).2) (by rw [hl]; exact (zs_right o acts rows HOL.out.1 HOL.out.2 4).1)
          rw [hl] at h
          exact h)
        have DF : Hid (2 ≤ 4 → ∃ b off, Ads = some ⟨b, off, none⟩ ∧ ∀ wx cx, Below wr.heap.size wr wx → Calls Tryd.prog 16 #[.string o, .slice AZ (zsR o acts rows 0).length CZ, .slice (some ⟨b, off + 10, none⟩) (4 - 1) cx] wx fun e w' => e = .returned (.tuple #[.slice none 0 0, errV 5]) ∧ Below wx.heap.size wx w') := Lib.hid (fun h2 => by
          have hl := HDL.out
          obtain ⟨d0, hd0⟩ : ∃ d, (dltsOf o acts rows dx)[0]? = some d := ⟨_, List.getElem?_eq_getElem (by omega)⟩
          obtain ⟨b, off, e, -, -⟩ := hds.cells 0 d0 hd0
          refine ⟨b, off, e, fun wx cx hbx => ?_⟩
          subst e
          obtain ⟨d1, hd1, hlate⟩ := HX.out.late h2
          have ht : ((dltsOf o acts rows dx).tail).length = 4 - 1 := by rw [List.length_tail, hl]
          have h := deltas_fail o (dltsOf o acts rows dx).tail AZ CZ (some ⟨b, off + 10, none⟩) cx wx (zsR o acts rows 0) d1 (HZ0.out.below hbx) (hds.tail10.below hbx) (by omega) hd1 hlate ⟨(HZS.out 0).1, by have := (HZS.out 0).2; omega⟩
          rw [ht] at h
          exact h)
        have hbw := HX.out.two.o1.bel
        have HBW := Lib.hid hbw
        have hrks := Lib.hid (hok.recs rfl)
        clear hds hzk hrk hok hbw
        subst hdv
        obtain ⟨L, hL⟩ : ∃ L, L = zsR o acts rows 4 := ⟨_, rfl⟩
        rw [← hL] at DP hrks hcz
        have hLl : L.length ≤ 11 := by rw [hL]; exact (HZS.out 4).2
        clear hL HX
        go_wp2_with fail
        refine DP.out.mono ?_
        rintro e w9 ⟨V, rfl, hzv, hb9⟩
        have hzw := hzv
        obtain ⟨AV, CV, hvv, -, -, -, -⟩ := hzw
        subst hvv
        have hrow := hzv.recs.1
        have hcz9 := (hb9.cell (p := ⟨gz, 4, none⟩) hgz).trans hcz
        have hgz9 : gz < w9.heap.size := Nat.lt_of_lt_of_le hgz hb9.size
        have SR : Hid (Calls Tryd.prog 11 #[.slice AV L.length CV, .slice Ak L.length ck] w9 fun e w' => e = .returned (.bool true) ∧ Below w9.heap.size w9 w') := Lib.hid (by
          have h := same_recs AV Ak CV ck L L w9 hrow (hrks.out.below hb9) (by unfold maxLen; omega) (by unfold maxLen; omega)
          simp only [decide_true] at h
          exact h)
        have HB9 := Lib.hid hb9
        have HW9 := Lib.hid (below_trans HBW.out HBW.out.size hb9)
        clear hrow hb9 hcz hgz hrks DP hzv
        go_wp2_with fail
        refine SR.out.mono ?_
        rintro e wa ⟨rfl, hba⟩
        have HBA := Lib.hid (below_trans HB9.out HB9.out.size hba)
        have HWA := Lib.hid (below_trans HW9.out HW9.out.size hba)
        clear hba SR HB9 HW9 hcz9 hgz9
        have hcd' : (4 : Int) ≤ Cds := by omega
        obtain ⟨b, off, rfl, hdf⟩ := DF.out (by decide)
        have DX := Lib.hid hdf
        clear hdf DF
        go_wp2_with fail
        refine (DX.out _ _ HBA.out).mono ?_
        rintro e wb ⟨rfl, hbb⟩
        have HWB := Lib.hid (below_trans HWA.out HWA.out.size hbb)
        have NE := Lib.hid (number_errno (5 : Int) wb (HET.out.keep (Nat.le_refl _) HWB.out))
        clear hbb DX HBA HWA
        unfold errV
        go_wp2_with fail
        refine NE.out.mono ?_
        rintro e wc ⟨rfl, hbc⟩
        have HWC := Lib.hid (below_trans HWB.out HWB.out.size hbc)
        clear hbc NE HWB
        go_wp2_with fail
        go_ret
        exact ⟨rfl, HWC.out⟩
      · have hkn : k = n2 := by have := HNN.out; omega
        have hkN4 : k ≤ 4 := by have := HNN.out; omega
        subst hkn
        have hkn' : ¬ (k : Int) < k := by omega
        clear hlt hk hk2
        clear HNN
        obtain ⟨Ads, Cds, hdv, hcd, hds⟩ := HX.out.dsAt
        have HDS := Lib.hid hds
        have HDL : Hid ((dltsOf o acts rows dx).length = k) := Lib.hid (by rw [dltsOf_len, HX.out.dl])
        have HZ0 := Lib.hid ((HX.out.two.xs _ HM.out).1.zone)
        obtain ⟨Ak, ck, hzk, hrk, hok⟩ := HX.out.zone (Nat.le_refl k)
        obtain ⟨gz, cz, hvz, hgz, hcz⟩ := HX.out.zcell hzk
        subst hvz
        have DP : Hid (Calls Tryd.prog 16 #[.string o, .slice AZ (zsR o acts rows 0).length CZ, .slice Ads k Cds] wr fun e w' => ∃ V, e = .returned (.tuple #[V, .nilIface]) ∧ ZoneAt w' V (zsR o acts rows k) ∧ Below wr.heap.size wr w') := Lib.hid (by
          have hl := HDL.out
          have h := deltas_path o (zsR o acts rows) (dltsOf o acts rows dx) AZ CZ Ads Cds wr HZ0.out hds (by omega) (by omega) (HX.out.leads (by omega)) (fun i _ => ⟨(HZS.out i).1, by have := (HZS.out i).2; omega⟩) (by have := HOL.out.2; omega) (by rw [hl]; exact (zs_right o acts rows HOL.out.1 HOL.out.2 k).2) (by rw [hl]; exact (zs_right o acts rows HOL.out.1 HOL.out.2 k).1)
          rw [hl] at h
          exact h)
        have DF : Hid (2 ≤ k → ∃ b off, Ads = some ⟨b, off, none⟩ ∧ ∀ wx cx, Below wr.heap.size wr wx → Calls Tryd.prog 16 #[.string o, .slice AZ (zsR o acts rows 0).length CZ, .slice (some ⟨b, off + 10, none⟩) (k - 1) cx] wx fun e w' => e = .returned (.tuple #[.slice none 0 0, errV 5]) ∧ Below wx.heap.size wx w') := Lib.hid (fun h2 => by
          have hl := HDL.out
          obtain ⟨d0, hd0⟩ : ∃ d, (dltsOf o acts rows dx)[0]? = some d := ⟨_, List.getElem?_eq_getElem (by omega)⟩
          obtain ⟨b, off, e, -, -⟩ := hds.cells 0 d0 hd0
          refine ⟨b, off, e, fun wx cx hbx => ?_⟩
          subst e
          obtain ⟨d1, hd1, hlate⟩ := HX.out.late h2
          have ht : ((dltsOf o acts rows dx).tail).length = k - 1 := by rw [List.length_tail, hl]
          have h := deltas_fail o (dltsOf o acts rows dx).tail AZ CZ (some ⟨b, off + 10, none⟩) cx wx (zsR o acts rows 0) d1 (HZ0.out.below hbx) (hds.tail10.below hbx) (by omega) hd1 hlate ⟨(HZS.out 0).1, by have := (HZS.out 0).2; omega⟩
          rw [ht] at h
          exact h)
        have hbw := HX.out.two.o1.bel
        have HBW := Lib.hid hbw
        have hrks := Lib.hid (hok.recs rfl)
        clear hds hzk hrk hok hbw
        subst hdv
        obtain ⟨L, hL⟩ : ∃ L, L = zsR o acts rows k := ⟨_, rfl⟩
        rw [← hL] at DP hrks hcz
        have hLl : L.length ≤ 11 := by rw [hL]; exact (HZS.out k).2
        clear hL HX
        go_upto_region 28 with fail
        go_wp2_with fail
        refine DP.out.mono ?_
        rintro e w9 ⟨V, rfl, hzv, hb9⟩
        have hzw := hzv
        obtain ⟨AV, CV, hvv, -, -, -, -⟩ := hzw
        subst hvv
        have hrow := hzv.recs.1
        have hcz9 := (hb9.cell (p := ⟨gz, k, none⟩) hgz).trans hcz
        have hgz9 : gz < w9.heap.size := Nat.lt_of_lt_of_le hgz hb9.size
        have SR : Hid (Calls Tryd.prog 11 #[.slice AV L.length CV, .slice Ak L.length ck] w9 fun e w' => e = .returned (.bool true) ∧ Below w9.heap.size w9 w') := Lib.hid (by
          have h := same_recs AV Ak CV ck L L w9 hrow (hrks.out.below hb9) (by unfold maxLen; omega) (by unfold maxLen; omega)
          simp only [decide_true] at h
          exact h)
        have HB9 := Lib.hid hb9
        have HW9 := Lib.hid (below_trans HBW.out HBW.out.size hb9)
        have k1 : (k : Int) + 1 - 1 = k := by omega
        have k2 : ¬ (k : Int) < 0 := by omega
        have k3 : (k : Int) < (k : Int) + 1 := by omega
        clear hrow hb9 hcz hgz hrks DP hzv
        go_wp2_with fail
        refine SR.out.mono ?_
        rintro e wa ⟨rfl, hba⟩
        have HBA := Lib.hid (below_trans HB9.out HB9.out.size hba)
        have HWA := Lib.hid (below_trans HW9.out HW9.out.size hba)
        clear hba SR HB9 HW9 hcz9 hgz9 k1 k2 k3
        by_cases h2 : k < 2
        · have h2' : (k : Int) < 2 := by omega
          clear DF h2
          go_wp2_with fail
          go_ret
          exact ⟨rfl, HWA.out⟩
        · have h2' : (2 : Int) ≤ k := by omega
          have h2'' : (1 : Int) ≤ k := by omega
          have hcd' : (k : Int) ≤ Cds := by omega
          obtain ⟨b, off, rfl, hdf⟩ := DF.out (by omega)
          have DX := Lib.hid hdf
          clear hdf DF h2
          go_wp2_with fail
          refine (DX.out _ _ HBA.out).mono ?_
          rintro e wb ⟨rfl, hbb⟩
          have HWB := Lib.hid (below_trans HWA.out HWA.out.size hbb)
          have NE := Lib.hid (number_errno (5 : Int) wb (HET.out.keep (Nat.le_refl _) HWB.out))
          clear hbb DX HBA HWA
          unfold errV
          go_wp2_with fail
          refine NE.out.mono ?_
          rintro e wc ⟨rfl, hbc⟩
          have HWC := Lib.hid (below_trans HWB.out HWB.out.size hbc)
          clear hbc NE HWB
          go_wp2_with fail
          go_ret
          exact ⟨rfl, HWC.out⟩
end Go.Proofs.YtpbbnpglcadimaaDoor
namespace Go.Proofs.YtpbbnpglcadimaaDoor
open Go.ChangeShapes Go.WideShapes Go.RowKit
theorem laid_et : Tryd.prog.globalNamed "errors.errorType" = some 0 := by kernel_rfl
theorem laid_rt : (Tryd.prog.cutTypes.find? (·.1 == "internal/reflectlite.rtype")).map (·.2) = some 130 := by kernel_rfl
theorem laid_row : ((List.range 196).filter fun t => Tryd.prog.rowNamed t [101, 114, 114, 111, 114]) = [33] := by kernel_rfl
theorem laid_size : Tryd.prog.types.size = 196 := by kernel_rfl
/-- The rows' list. -/
abbrev laidE : List (String × DataW Unit) := [("errors.errorType", Rows.laid_errors_errorType)]
theorem etype_of_laid {W : World} (h : laidMetH Tryd.prog laidE W) : Etype W := by
  have h' : laidMet Tryd.prog [] W ∧ handlesMet Tryd.prog laidE W := h
  obtain ⟨name, u, ty, e1, e2, e3, e4, e5⟩ := h'.2 _ (List.mem_singleton.2 rfl)
  have en : name = [101, 114, 114, 111, 114] := (Option.some.inj e1).symm
  subst en
  obtain rfl := Option.some.inj (laid_rt.symm.trans e2)
  have hm : ty ∈ (List.range 196).filter fun t => Tryd.prog.rowNamed t [101, 114, 114, 111, 114] := List.mem_filter.2 ⟨List.mem_range.2 (by rw [← laid_size]; exact e3), e4⟩
  rw [laid_row] at hm
  obtain rfl := List.mem_singleton.1 hm
  have hh : typeHandle Tryd.prog 33 = .pointer (some ⟨1, 33, none⟩) := by kernel_rfl
  rw [hh] at e5
  have e6 := World.var?_cell laid_et e5 0
  unfold Etype
  simpa using e6
/-- The settled world, the variable's cell laid. -/
noncomputable def laidWorld (os : Os) : World :=
  let w0 := World.holding Tryd.prog os ⟨#[], #[], []⟩
  { w0 with heap := w0.heap.modify 0 fun
      | .cells _ t fz => .cells #[.iface 130 (.agg #[.pointer (some ⟨1, 33, none⟩)])] t fz
      | o => o }
theorem laidWorld_met (os : Os) (args : Array Value) : laidMetH Tryd.prog laidE ((laidWorld os).forCall (fun _ _ => 0) ⟨#[], args, []⟩).memory :=
  laidMetH_of_parts (laidMet_nil _ _) (by kernel_rfl)
end Go.Proofs.YtpbbnpglcadimaaDoor
namespace Go.Proofs.YtpbbnpglcadimaaDoor
open Go.ChangeShapes Go.WideShapes Go.ChangeAt Go.RowKit Go.Deep
set_option linter.unusedVariables false
section
variable {H : Type} {enc : TypeId × Value → H} {P : Program} {w : World} {d : DataW H} {p : List MemPlace}
def rowAV (r : RowA) : Value := .slice r.1 r.2.1 r.2.2.1
theorem view_rowsA {t e g b0 b3 : TypeId} {f0 f1 f2 f3 f4 : Field} (ht : P.underlying t = some (.slice e)) (hc : P.cellsOf e = 1) (he : P.underlying e = some (.slice g)) (hs : P.underlying g = some (.struct #[f0, f1, f2, f3, f4])) (hone : oneCellFields P #[f0, f1, f2, f3, f4] = true) (hC : P.cellsOf g = 5)
    (h0 : P.underlying f0.type = some (.slice b0)) (hb0 : P.underlying b0 = some (.int .u8)) (hcb0 : P.cellsOf b0 = 1) (hbb0 : P.bytesOf b0 = 1) (h1 : P.underlying f1.type = some (.int .u8)) (h2 : P.underlying f2.type = some (.int .u32))
    (h3 : P.underlying f3.type = some (.slice b3)) (hb3 : P.underlying b3 = some (.int .u8)) (hcb3 : P.cellsOf b3 = 1) (hbb3 : P.bytesOf b3 = 1) (h4 : P.underlying f4.type = some .string) {m : Nat} {cs : List Value}
    (h : DataW.trod enc P w 0 (fun _ => true) true m t cs = some (d, p)) :
    ∃ A n c, ∃ rows : List RowA, cs = [.slice A n c] ∧ Rows9 w A n rows ∧ n ≤ c ∧ c ≤ maxLen ∧ (A = none → n = 0 ∧ c = 0) := by
  obtain ⟨A, n, c, vs, hcs, hS, hl, hd⟩ := view_slice1 ht hc h
  rcases hd with ⟨rfl, rfl, rfl⟩ | ⟨el, sp, rfl, hel, hsp, hj⟩
  · exact ⟨A, 0, 0, [], hcs, ⟨rfl, fun i r hr => by simp at hr, fun i r hr => by simp at hr⟩, Nat.le_refl _, Nat.zero_le _, hS.none_⟩
  · obtain ⟨xs, h1', h2', h3'⟩ := choose_list2 (γ := RowA × DataW H) (f := fun x => rowAV x.1) (g := fun x => x.2) (p := fun x => ActsAt w x.1.1 x.1.2.1 x.1.2.2.2 ∧ x.1.2.1 ≤ maxLen) vs el (by omega) (fun j hjj => by
      obtain ⟨u, D, pl, m', a, b', ht'⟩ := hj j (by omega)
      obtain ⟨A', n', c', zs, el', e1, hS', -, -, -⟩ := view_acts5 he hs hone hC h0 hb0 hcb0 hbb0 h1 h2 h3 hb3 hcb3 hbb3 h4 ht'
      simp only [List.cons.injEq, and_true] at e1
      exact ⟨((A', n', c', zs), D), by rw [a, e1]; rfl, b', hS'.at_, hS'.most⟩)
    subst h1' h2'
    have hlx : xs.length = n := by simpa using hl
    refine ⟨A, n, c, xs.map (·.1), hcs, ⟨by simpa using hl, fun i r hr => ?_, fun i r hr => ?_⟩, hS.le, hS.max, hS.none_⟩
    · rw [List.getElem?_map, Option.map_eq_some_iff] at hr
      obtain ⟨x, hx, rfl⟩ := hr
      have hi : i < n := by have := (List.getElem?_eq_some_iff.1 hx).1; omega
      obtain ⟨b, off, u, hA, hlt, hu, hcell⟩ := hS.sl.at_ hi
      rw [List.getElem?_map, hx] at hu
      cases hu
      exact ⟨b, off, hA, hlt, hcell⟩
    · rw [List.getElem?_map, Option.map_eq_some_iff] at hr
      obtain ⟨x, hx, rfl⟩ := hr
      exact h3' x (List.mem_of_getElem? hx)
end
end Go.Proofs.YtpbbnpglcadimaaDoor
