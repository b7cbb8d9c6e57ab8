/- The walk of DeviceScript. -/
import Derived.Test.YtidpffgdndjgpaaDevS
import Derived.Test.YtidpffgdndjgpaaView3
import Derived.Deep.DeepCutAuto
import Derived.Deep.CutBlock
import Derived.StillTailTactics
import Derived.Outline
namespace Go.Proofs.Ytidpffgdndjgpaa
open Go.RowKit
set_option linter.unusedVariables false
set_option linter.unusedSimpArgs false
set_option maxRecDepth 20000
theorem ds_strs : (Try.prog.info? 9).map (fun i => (i.zero, i.size, i.bytes)) = some (some (.string ⟨#[]⟩), 1, 16) := by kernel_rfl
theorem ds_ints : (Try.prog.info? 3).map (fun i => (i.zero, i.size, i.bytes)) = some (some (.int .i64 0), 1, 8) := by kernel_rfl
def intW (n : Nat) : Value := .int .i64 n
/-- How much of each segment is safe. -/
def safesN (segs : List (List UInt8)) (sf : Nat) : List Nat := if segs = [] then [] else segs.dropLast.map List.length ++ [sf]
theorem safesN_nil (sf : Nat) : safesN [] sf = [] := rfl
theorem safesN_snoc (init : List (List UInt8)) (s : List UInt8) (sf : Nat) : safesN (init ++ [s]) sf = init.map List.length ++ [sf] := by simp [safesN]
theorem safesN_len (segs : List (List UInt8)) (sf : Nat) : (safesN segs sf).length = segs.length := by
  rcases segs_cases segs with rfl | ⟨init, s, rfl⟩
  · rfl
  · rw [safesN_snoc]; simp
theorem safesN_sync (segs : List (List UInt8)) : safesN segs (lastN segs) = segs.map List.length := by
  rcases segs_cases segs with rfl | ⟨init, s, rfl⟩
  · rfl
  · rw [safesN_snoc, lastN_snoc]; simp
theorem safesN_begin (segs : List (List UInt8)) : safesN (segs ++ [[]]) 0 = segs.map List.length ++ [0] := by rw [safesN_snoc]
theorem safesN_sum (segs : List (List UInt8)) (sf : Nat) (h : segs = [] → sf = 0) : (safesN segs sf).sum = sumL segs - lastN segs + sf := by
  rcases segs_cases segs with rfl | ⟨init, s, rfl⟩
  · simp [safesN, sumL, lastN, h rfl]
  · rw [safesN_snoc, sumL_snoc, lastN_snoc]
    have : sumL init = (init.map List.length).sum := rfl
    simp [this]
/-- How many bytes the first deeds bear. -/
def sumD (ds : List Deed3) (k : Nat) : Nat := ((ds.take k).map fun a => a.2.1.2.1).sum
theorem sumD_next {ds : List Deed3} {k : Nat} (hk : k < ds.length) : sumD ds (k + 1) = sumD ds k + (ds[k]).2.1.2.1 := by
  unfold sumD; rw [List.take_succ_eq_append_getElem hk, List.map_append, List.sum_append, List.map_cons, List.map_nil, List.sum_cons, List.sum_nil, Nat.add_zero]
theorem sumD_le (ds : List Deed3) (k : Nat) : sumD ds k ≤ (ds.map fun a => a.2.1.2.1).sum := by
  have h : (ds.map fun a => a.2.1.2.1).sum = ((ds.take k).map fun a => a.2.1.2.1).sum + ((ds.drop k).map fun a => a.2.1.2.1).sum := by
    rw [← List.sum_append, ← List.map_append, List.take_append_drop]
  unfold sumD; omega
theorem sumL_appS (segs : List (List UInt8)) (l : List UInt8) : sumL (appS segs l) = sumL segs + l.length := by
  rcases segs_cases segs with rfl | ⟨init, s, rfl⟩
  · rw [appS_nil]; simp [sumL]
  · rw [appS_snoc, sumL_snoc, sumL_snoc]; simp; omega
theorem sumL_cutS (segs : List (List UInt8)) (m : Nat) : sumL (cutS segs m) ≤ sumL segs := by
  rcases segs_cases segs with rfl | ⟨init, s, rfl⟩
  · exact Nat.le_refl _
  · rw [cutS_snoc, sumL_snoc, sumL_snoc]; simp; omega
theorem appS_len (segs : List (List UInt8)) (l : List UInt8) : (appS segs l).length ≤ segs.length + 1 := by
  rcases segs_cases segs with rfl | ⟨init, s, rfl⟩
  · simp [appS_nil]
  · rw [appS_snoc]; simp
/-- What stands behind so many deeds. -/
structure DS (ds : List Deed3) (segs : List (List UInt8)) (sf wt k : Nat) : Prop where
  sf : sf ≤ lastN segs
  len : segs.length ≤ k
  sum : sumL segs ≤ sumD ds k
  wt : wt ≤ k
theorem ite_le_zero {M : Int} (h : M ≤ 0) : (if 0 < M then M else 0) = 0 := by rw [if_neg (by omega)]
theorem ite_int {a b x y : Int} (h : b ≤ a) : (if a < b then x else y) = y := by rw [if_neg (by omega)]
theorem ite_nat {a b : Nat} {x y : Int} (h : b ≤ a) : (if a < b then x else y) = y := by rw [if_neg (by omega)]
attribute [local simp] ite_int ite_nat
attribute [local simp] putsF isV wordOf Deps Region.binds Region.wanted Act.put wantedX isB
set_option maxHeartbeats 6400000 in
theorem deviceScript_walk (w : World) (A : Option Addr) (n c : Nat) (ds : List Deed3) (hV : Deeds3 w A n c ds) (hc : c ≤ 1048576) (hsum : (ds.map fun a => a.2.1.2.1).sum ≤ 1048576) :
    Calls Try.prog 5 #[.slice A n c] w fun e w' => e = .returned (.bool true) ∧ Below w.heap.size w w' := by
  have hnc := hV.le
  obtain ⟨i1, hj, hy0, hy1, hy2⟩ := info_parts ds_strs
  obtain ⟨i2, hp, hq0, hq1, hq2⟩ := info_parts ds_ints
  have HV := Lib.hid hV
  have hsle : ∀ k, sumD ds k ≤ 1048576 := fun k => Nat.le_trans (sumD_le ds k) hsum
  have HSL := Lib.hid hsle
  clear hV hsum hsle
  go_enter Try.func5, Try.ntmps5
  go_wp2_with fail
  refine (awake23 _).mono ?_
  rintro e w1 ⟨rfl, hb1⟩
  go_upto_region 4 with fail
  have h2 := device_new w1 27
  generalize (w1.alloc (.cells #[.slice none 0 0, .int .i64 0, .int .i64 0] 27)) = W2 at *
  obtain ⟨d, hd⟩ : ∃ d, d = w1.heap.size := ⟨_, rfl⟩
  rw [← hd] at h2 ⊢
  have HB1 := Lib.hid hb1
  have HD := Lib.hid hd
  have j0 : Hid (JW (fun _ => False) d w1 (.slice none 0 0) (.slice none 0 0) (([] : List (List UInt8)).map strW') ((safesN [] 0).map intW) [] 0 0 W2) := Lib.hid ⟨OB.nil h2.ob.bel h2.ob.base, OB.nil h2.ob.bel h2.ob.base, (show DevE _ d w1 d [] 0 0 W2 from ⟨_, _, h2.less (fun k hk => by
    rcases hk with hk | hk | hk | hk
    · exact hk
    · cases hk
    · cases hk
    · cases hk)⟩), (fun k e => by cases e), (fun k e => by cases e)⟩
  have s0 : Hid (DS ds [] 0 0 0) := Lib.hid ⟨Nat.le_refl _, Nat.le_refl _, Nat.zero_le _, Nat.le_refl _⟩
  clear hd hb1 h2
  go_wp2_with fail
  go_loopw [4, 5, 6, 21] (fun v1 v2 x i wr => ∃ k : Nat, k ≤ n ∧ i = .int .i64 k ∧ ∃ segs sf wt, x = .int .i64 (wt : Nat) ∧ Hid (DS ds segs sf wt k) ∧ Hid (JW (fun _ => False) d w1 v1 v2 (segs.map strW') ((safesN segs sf).map intW) segs sf wt wr)) (fun _ _ _ i _ => n - (intOf i).toNat)
  case atStart => exact ⟨0, Nat.zero_le _, rfl, [], 0, 0, rfl, s0, j0⟩
  case round =>
    obtain ⟨k, hk, rfl, segs, sf, wt, rfl, HDS, HJW⟩ := hrel
    have hbr : Below w.heap.size w wr := below_trans HB1.out HB1.out.size (by rw [← HD.out]; exact HJW.out.below)
    by_cases hlt : k < n
    · have hkl : k < ds.length := by rw [HV.out.len]; exact hlt
      obtain ⟨b, off, rfl, hbw, hcl⟩ := HV.out.cells (by omega)
      have hsn := sumD_next hkl
      obtain ⟨⟨o, ⟨RA, rn, rc, rl⟩, M⟩, ha⟩ : ∃ a, ds[k] = a := ⟨_, rfl⟩
      have hmem := List.getElem_mem hkl
      rw [ha] at hmem hsn
      obtain ⟨c0', c1, c2⟩ := hcl k _ (by rw [List.getElem?_eq_getElem hkl, ha])
      obtain ⟨ok0, ⟨hrv, hrl⟩, ok2⟩ := HV.out.ok _ hmem
      simp only at c0' c1 c2 ok0 hrv hrl ok2 hsn
      rw [show rowV (RA, rn, rc, rl) = .slice RA rn rc from rfl] at c1
      have e0 := (hbr.cell (p := ⟨b, off + k * 3, none⟩) hbw).trans c0'
      have e1 := (hbr.cell (p := ⟨b, off + k * 3 + 1, none⟩) hbw).trans c1
      have e2 := (hbr.cell (p := ⟨b, off + k * 3 + 2, none⟩) hbw).trans c2
      have o8 := bounds_u8 ok0
      have M8 := bounds_i8 ok2
      have hlti : (k : Int) < n := by omega
      have hs1 := HSL.out (k + 1)
      have HRV := Lib.hid hrv
      have HRL := Lib.hid hrl
      have HBR := Lib.hid hbr
      clear c0' c1 c2 ok0 ok2 hrv hrl hcl hbr ha hmem hkl
      obtain ⟨o, rfl⟩ : ∃ q : Nat, o = q := ⟨o.toNat, by omega⟩
      obtain ⟨q, hq⟩ : ∃ q, q = o % 6 := ⟨_, rfl⟩
      have hqi : (o : Int) % 6 = (q : Int) := by omega
      have hq6 : q < 6 := by omega
      clear hq
      have hlen := HDS.out.len
      have hwt := HDS.out.wt
      have hsm := HDS.out.sum
      have hsf := HDS.out.sf
      have hi2 : IntKind.i64.wrap ((k : Int) + 1) = (k : Int) + 1 := IntWalk.i64_in _ (by omega)
      have ho1 := HJW.out.o1
      have ho2 := HJW.out.o2
      rw [List.length_map] at ho1 ho2
      rw [safesN_len] at ho2
      obtain ⟨Aw, cw, rfl, -⟩ := ho1.slice
      obtain ⟨Ai, ci, rfl, -⟩ := ho2.slice
      clear ho1 ho2
      obtain ⟨p9, hp9⟩ : ∃ p9 : Int, p9 = (segs.length : Int) - 1 := ⟨_, rfl⟩
      have h9 : IntKind.i64.wrap ((segs.length : Int) - 1) = p9 := by rw [IntWalk.i64_in _ (by omega)]; exact hp9.symm
      have HP9 := Lib.hid hp9
      clear hp9
      go_upto_region 10 with fail
      obtain ⟨WA, hWA⟩ : ∃ WA, WA = wr.alloc (.cells #[.int .u8 o, .slice RA rn rc, .int .i8 M] 56) := ⟨_, rfl⟩
      have hzA : WA.heap.size = wr.heap.size + 1 := by rw [hWA]; simp
      have hbA : Below wr.heap.size wr WA := by rw [hWA]; exact (Below.refl _ _).alloc (Nat.le_refl _) _
      obtain ⟨g, hg⟩ : ∃ g, g = wr.heap.size := ⟨_, rfl⟩
      have a0 : WA.cell? ⟨g, 0, none⟩ = some (.int .u8 o) := by rw [hWA, hg]; simp
      have a1 : WA.cell? ⟨g, 1, none⟩ = some (.slice RA rn rc) := by rw [hWA, hg]; simp
      have a2 : WA.cell? ⟨g, 2, none⟩ = some (.int .i8 M) := by rw [hWA, hg]; simp
      have hgW : g < WA.heap.size := by omega
      rw [← hWA, ← hg]
      have jA := HJW.out.wideX (X' := fun x => x = g) hbA (fun x hx => .inr (.inr (by omega)))
      have JA := Lib.hid jA
      have HG := Lib.hid hg
      have HBA := Lib.hid hbA
      clear jA hg hbA hWA hzA HJW e0 e1 e2
      go_upto_block 2 with fail
      rw [hqi]
      clear hqi o8
      go_cut [4, 5, 6, 9, 10, 11] (fun v1 v2 x y1 y2 y3 wc => ∃ segs sf wt, x = .int .i64 (wt : Nat) ∧ Hid (DS ds segs sf wt (k + 1)) ∧ Hid (JW (fun _ => False) d w1 v1 v2 (segs.map strW') ((safesN segs sf).map intW) segs sf wt wc))
      case first =>
        have hw9 : IntKind.i64.wrap ((wt : Int) + 1) = (wt : Int) + 1 := IntWalk.i64_in _ (by omega)
        have hbrA : Below w.heap.size w WA := HBR.out.trans (HBA.out.mono HBR.out.size)
        have hd1 := HD.out
        have hb1 := HB1.out.size
        have hq' : (q = 0 ∨ q = 1) ∨ q = 2 ∨ q = 3 ∨ q = 4 ∨ q = 5 := by omega
        clear hq6
        have HBRA := Lib.hid hbrA
        clear hbrA
        rcases hq' with hq' | hq' | hq' | hq' | hq'
        · as_aux_lemma =>
          have hF : ∀ a, RA = some a → 0 < rn → FX (fun x => x = g) d (.slice Aw segs.length cw) (.slice Ai segs.length ci) a.block := by
            intro a e hn
            obtain ⟨b', o', e2, hb', -⟩ := HRV.out.sl.2 hn
            rw [e] at e2; injection e2 with e2
            rw [e2]; left; show b' < d; omega
          have hsl := last_le_sum segs
          have AP := Lib.hid (append_any RA rn rc _ rl (HRV.out.sl.below HBRA.out) (fun e => (HRV.out.none_ e).1) hF JA.out.dv (by omega) (by omega) (by omega))
          clear hF hd1 hb1
          rcases segs_cases segs with hsg | ⟨init, s, hsg⟩
          · have hp9 : p9 = -1 := by have := HP9.out; rw [hsg] at this; simpa using this
            subst hp9
            have HSG := Lib.hid hsg
            clear hsg
            have main : ∀ qq : Nat, (q : Int) = qq → (qq = 0 ∨ qq = 1) → True := fun _ _ _ => trivial
            clear main
            rcases hq' with hq' | hq'
            · have b0 : ((q : Int) == 0) = true := by simp; omega
              clear hq'
              go_wp2_with fail
              refine AP.out.mono ?_
              clear AP
              rintro e w4 ⟨rfl, h4, hk4⟩
              obtain ⟨j4, k4⟩ := JA.out.dev h4 hk4
              clear h4 hk4
              have a1' := (World.cell?_of_block (a := ⟨g, 1, none⟩) (k4.2 g rfl)).trans a1
              go_upto_region 22 with fail
              obtain ⟨WC, hWC⟩ : ∃ WC, WC = w4.alloc (.cells #[.string ⟨#[]⟩] 9) := ⟨_, rfl⟩
              obtain ⟨WD, hWD⟩ : ∃ WD, WD = WC.alloc (.cells #[.int .i64 0] 3) := ⟨_, rfl⟩
              have hzC : WC.heap.size = w4.heap.size + 1 := by rw [hWC]; simp
              have hbC : Below w4.heap.size w4 WC := by rw [hWC]; exact (Below.refl _ _).alloc (Nat.le_refl _) _
              have hbD : Below WC.heap.size WC WD := by rw [hWD]; exact (Below.refl _ _).alloc (Nat.le_refl _) _
              have oC := ob_one w4 (.string ⟨#[]⟩) rfl 9 j4.below j4.o1.base
              rw [← hWC] at oC
              obtain ⟨jC, kC⟩ := j4.app1 (l' := [.string ⟨#[]⟩]) oC hbC.size (fun x hx _ => hbC.block x hx) (.inr rfl)
              have oD := ob_one WC (.int .i64 0) rfl 3 jC.below jC.o1.base
              rw [← hWD] at oD
              obtain ⟨jD, kD⟩ := jC.app2 (l' := [.int .i64 0]) oD hbD.size (fun x hx _ => hbD.block x hx) (.inr rfl)
              rw [← hWC, ← hWD, ← hzC]
              obtain ⟨gs, hgs⟩ : ∃ gs, gs = w4.heap.size := ⟨_, rfl⟩
              rw [← hgs] at jD ⊢
              have a2' := (World.cell?_of_block (a := ⟨g, 1, none⟩) ((kC.trans kD).2 g rfl)).trans a1'
              have FIN1 : Hid (([Value.string ⟨#[]⟩] : List Value).set 0 (.string ⟨rl.toArray⟩) = (appS segs rl).map strW') := Lib.hid (by rw [HSG.out, appS_nil]; rfl)
              have FIN2 : Hid ([Value.int .i64 0] = (safesN (appS segs rl) (if segs = [] then 0 else sf)).map intW) := Lib.hid (by rw [HSG.out, appS_nil, if_pos rfl]; rfl)
              have FDS : Hid (DS ds (appS segs rl) (if segs = [] then 0 else sf) (wt + 1) (k + 1)) := Lib.hid ⟨by rw [HSG.out, if_pos rfl]; exact Nat.zero_le _, by have := appS_len segs rl; omega, by rw [sumL_appS, HRL.out]; omega, by omega⟩
              have c5 := jD.o1.cell 0 _ rfl
              have f5 := jD.o1.frozen 0 (by omega)
              obtain ⟨OLD, hOLD⟩ : ∃ OLD : ByteArray, OLD = ⟨#[]⟩ := ⟨_, rfl⟩
              have hos : OLD.size = 0 := by rw [hOLD]; rfl
              have hcat : OLD ++ ByteArray.mk rl.toArray = ByteArray.mk rl.toArray := by rw [hOLD]; apply ByteArray.ext; simp
              rw [← hOLD] at c5
              clear hWC hWD hzC hbC hbD oC oD jC kC kD hgs hOLD a1' j4 k4
              have jF := JW.set1 (jD.drewN 1) rfl 0 (by omega) (.string ⟨rl.toArray⟩)
              obtain ⟨RL, hRL⟩ : ∃ RL, RL = ByteArray.mk rl.toArray := ⟨_, rfl⟩
              have hrs : RL.size = rn := by rw [hRL, mk_size]; exact HRL.out
              have hcv := run_string_of (P := Try.prog) WD.drew 23 9 5 _ RA rn rl Try.underlying23 Try.underlying5 Try.underlying9 (HRV.out.sl.below (show Below w.heap.size w WD.drew from (below_trans HB1.out HB1.out.size (by rw [← HD.out]; exact jD.below)).drew)) (fun h => (HRV.out.none_ h).1) rc
              rw [← hRL] at hcv hcat
              have q1 : ¬ 9223372036854775807 < OLD.size + RL.size := by omega
              rw [FIN1.out, FIN2.out] at jF
              rw [← hRL] at jF
              have JF := Lib.hid (jF.1.lessX (X' := fun _ => False) (fun x h => by cases h))
              clear jD jF hos FIN1 FIN2 hRL hrs
              go_still_tail 11, (by kernel_rfl)
              change wpList _ _ _ _ _ WD.drew
              have c5' : WD.drew.cell? ⟨gs, 0, none⟩ = _ := c5
              have f5' : WD.drew.frozen? ⟨gs, 0, none⟩ = false := f5
              clear c5 f5 hcv
              go_wp2_with fail
              go_meet
              exact ⟨appS segs rl, (if segs = [] then 0 else sf), wt + 1, rfl, FDS, JF⟩
            · have b0 : ((q : Int) == 0) = false := by simp; omega
              have b1 : ((q : Int) == 1) = true := by simp; omega
              clear hq'
              go_wp2_with fail
              refine AP.out.mono ?_
              clear AP
              rintro e w4 ⟨rfl, h4, hk4⟩
              obtain ⟨j4, k4⟩ := JA.out.dev h4 hk4
              clear h4 hk4
              have a1' := (World.cell?_of_block (a := ⟨g, 1, none⟩) (k4.2 g rfl)).trans a1
              go_upto_region 22 with fail
              obtain ⟨WC, hWC⟩ : ∃ WC, WC = w4.alloc (.cells #[.string ⟨#[]⟩] 9) := ⟨_, rfl⟩
              obtain ⟨WD, hWD⟩ : ∃ WD, WD = WC.alloc (.cells #[.int .i64 0] 3) := ⟨_, rfl⟩
              have hzC : WC.heap.size = w4.heap.size + 1 := by rw [hWC]; simp
              have hbC : Below w4.heap.size w4 WC := by rw [hWC]; exact (Below.refl _ _).alloc (Nat.le_refl _) _
              have hbD : Below WC.heap.size WC WD := by rw [hWD]; exact (Below.refl _ _).alloc (Nat.le_refl _) _
              have oC := ob_one w4 (.string ⟨#[]⟩) rfl 9 j4.below j4.o1.base
              rw [← hWC] at oC
              obtain ⟨jC, kC⟩ := j4.app1 (l' := [.string ⟨#[]⟩]) oC hbC.size (fun x hx _ => hbC.block x hx) (.inr rfl)
              have oD := ob_one WC (.int .i64 0) rfl 3 jC.below jC.o1.base
              rw [← hWD] at oD
              obtain ⟨jD, kD⟩ := jC.app2 (l' := [.int .i64 0]) oD hbD.size (fun x hx _ => hbD.block x hx) (.inr rfl)
              rw [← hWC, ← hWD, ← hzC]
              obtain ⟨gs, hgs⟩ : ∃ gs, gs = w4.heap.size := ⟨_, rfl⟩
              rw [← hgs] at jD ⊢
              have a2' := (World.cell?_of_block (a := ⟨g, 1, none⟩) ((kC.trans kD).2 g rfl)).trans a1'
              have FIN1 : Hid (([Value.string ⟨#[]⟩] : List Value).set 0 (.string ⟨rl.toArray⟩) = (appS segs rl).map strW') := Lib.hid (by rw [HSG.out, appS_nil]; rfl)
              have FIN2 : Hid ([Value.int .i64 0] = (safesN (appS segs rl) (if segs = [] then 0 else sf)).map intW) := Lib.hid (by rw [HSG.out, appS_nil, if_pos rfl]; rfl)
              have FDS : Hid (DS ds (appS segs rl) (if segs = [] then 0 else sf) (wt + 1) (k + 1)) := Lib.hid ⟨by rw [HSG.out, if_pos rfl]; exact Nat.zero_le _, by have := appS_len segs rl; omega, by rw [sumL_appS, HRL.out]; omega, by omega⟩
              have c5 := jD.o1.cell 0 _ rfl
              have f5 := jD.o1.frozen 0 (by omega)
              obtain ⟨OLD, hOLD⟩ : ∃ OLD : ByteArray, OLD = ⟨#[]⟩ := ⟨_, rfl⟩
              have hos : OLD.size = 0 := by rw [hOLD]; rfl
              have hcat : OLD ++ ByteArray.mk rl.toArray = ByteArray.mk rl.toArray := by rw [hOLD]; apply ByteArray.ext; simp
              rw [← hOLD] at c5
              clear hWC hWD hzC hbC hbD oC oD jC kC kD hgs hOLD a1' j4 k4
              have jF := JW.set1 (jD.drewN 1) rfl 0 (by omega) (.string ⟨rl.toArray⟩)
              obtain ⟨RL, hRL⟩ : ∃ RL, RL = ByteArray.mk rl.toArray := ⟨_, rfl⟩
              have hrs : RL.size = rn := by rw [hRL, mk_size]; exact HRL.out
              have hcv := run_string_of (P := Try.prog) WD.drew 23 9 5 _ RA rn rl Try.underlying23 Try.underlying5 Try.underlying9 (HRV.out.sl.below (show Below w.heap.size w WD.drew from (below_trans HB1.out HB1.out.size (by rw [← HD.out]; exact jD.below)).drew)) (fun h => (HRV.out.none_ h).1) rc
              rw [← hRL] at hcv hcat
              have q1 : ¬ 9223372036854775807 < OLD.size + RL.size := by omega
              rw [FIN1.out, FIN2.out] at jF
              rw [← hRL] at jF
              have JF := Lib.hid (jF.1.lessX (X' := fun _ => False) (fun x h => by cases h))
              clear jD jF hos FIN1 FIN2 hRL hrs
              go_still_tail 11, (by kernel_rfl)
              change wpList _ _ _ _ _ WD.drew
              have c5' : WD.drew.cell? ⟨gs, 0, none⟩ = _ := c5
              have f5' : WD.drew.frozen? ⟨gs, 0, none⟩ = false := f5
              clear c5 f5 hcv
              go_wp2_with fail
              go_meet
              exact ⟨appS segs rl, (if segs = [] then 0 else sf), wt + 1, rfl, FDS, JF⟩
          · obtain ⟨m, hm⟩ : ∃ m, m = init.length := ⟨_, rfl⟩
            obtain rfl : p9 = (m : Int) := by have := HP9.out; rw [hsg] at this; simp at this; omega
            have hml : segs.length = m + 1 := by rw [hsg]; simp [hm]
            have v2 : ¬ (m : Int) < 0 := by omega
            have ho := JA.out.o1
            rw [List.length_map] at ho
            rcases ho.own with ⟨q1, q2⟩ | ⟨gs, cc, hv, -, -, -, -, -, -⟩
            · omega
            injection hv with r1 r2 r3
            subst r1 r3
            have FIN1 : Hid ((segs.map strW').set m (.string ⟨(s ++ rl).toArray⟩) = (appS segs rl).map strW') := Lib.hid (by
              rw [hsg, appS_snoc, List.map_append, List.map_append, List.set_append_right _ _ (by simp [hm])]; simp [hm, strW'])
            have FIN2 : Hid ((safesN segs sf).map intW = (safesN (appS segs rl) (if segs = [] then 0 else sf)).map intW) := Lib.hid (by rw [hsg, if_neg (by simp), appS_snoc, safesN_snoc, safesN_snoc])
            have FDS : Hid (DS ds (appS segs rl) (if segs = [] then 0 else sf) (wt + 1) (k + 1)) := Lib.hid ⟨by
              rw [hsg] at hsf
              rw [hsg, if_neg (by simp), appS_snoc, lastN_snoc]; rw [lastN_snoc] at hsf; simp; omega, by have := appS_len segs rl; rw [hsg, appS_snoc]; rw [hsg] at hlen; simp at hlen ⊢; omega, by rw [sumL_appS, HRL.out]; omega, by omega⟩
            obtain ⟨OLD, hOLD⟩ : ∃ OLD : ByteArray, OLD = ⟨s.toArray⟩ := ⟨_, rfl⟩
            have hos : OLD.size ≤ 1048576 := by
              have h0 : lastN segs = s.length := by rw [hsg, lastN_snoc]
              rw [hOLD, mk_size]; omega
            have hget : (segs.map strW')[m]? = some (.string OLD) := by rw [hsg, hOLD]; simp [hm, strW']
            have hcat0 : OLD ++ ByteArray.mk rl.toArray = ByteArray.mk (s ++ rl).toArray := by rw [hOLD]; apply ByteArray.ext; simp
            have HGET := Lib.hid hget
            have HCAT := Lib.hid hcat0
            have HML := Lib.hid hml
            clear hm hsg ho hOLD hget hcat0 hml
            rcases hq' with hq' | hq'
            · have b0 : ((q : Int) == 0) = true := by simp; omega
              clear hq'
              go_wp2_with fail
              refine AP.out.mono ?_
              clear AP
              rintro e w4 ⟨rfl, h4, hk4⟩
              obtain ⟨jD, k4⟩ := JA.out.dev h4 hk4
              have a2' := (World.cell?_of_block (a := ⟨g, 1, none⟩) (k4.2 g rfl)).trans a1
              clear h4 hk4 k4
              obtain ⟨WD, hWD⟩ : ∃ WD, WD = w4 := ⟨_, rfl⟩
              rw [← hWD] at jD a2' ⊢
              clear hWD
              go_upto_region 22 with fail
              have ho := jD.o1
              rw [List.length_map] at ho
              have hcat := HCAT.out
              have hmlt : (m : Int) < segs.length := by have := HML.out; omega
              have c5 := ho.cell m _ HGET.out
              have f5 := ho.frozen m (by have := HML.out; obtain ⟨_, _, e, h1, _⟩ := ho.slice; injection e with _ _ e3; omega)
              have jF := JW.set1 (jD.drewN 1) (by simp) m (by have := HML.out; omega) (.string ⟨(s ++ rl).toArray⟩)
              clear ho
              obtain ⟨RB, hRB⟩ : ∃ RB, RB = ByteArray.mk (s ++ rl).toArray := ⟨_, rfl⟩
              rw [← hRB] at hcat
              obtain ⟨RL, hRL⟩ : ∃ RL, RL = ByteArray.mk rl.toArray := ⟨_, rfl⟩
              have hrs : RL.size = rn := by rw [hRL, mk_size]; exact HRL.out
              have hcv := run_string_of (P := Try.prog) WD.drew 23 9 5 _ RA rn rl Try.underlying23 Try.underlying5 Try.underlying9 (HRV.out.sl.below (show Below w.heap.size w WD.drew from (below_trans HB1.out HB1.out.size (by rw [← HD.out]; exact jD.below)).drew)) (fun h => (HRV.out.none_ h).1) rc
              rw [← hRL] at hcv hcat
              have q1 : ¬ 9223372036854775807 < OLD.size + RL.size := by omega
              rw [FIN1.out, FIN2.out] at jF
              rw [← hRB] at jF
              have JF := Lib.hid (jF.1.lessX (X' := fun _ => False) (fun x h => by cases h))
              clear jD jF hos FIN1 FIN2 hRL hrs hRB
              go_still_tail 11, (by kernel_rfl)
              change wpList _ _ _ _ _ WD.drew
              have c5' : WD.drew.cell? ⟨gs, m, none⟩ = _ := c5
              have f5' : WD.drew.frozen? ⟨gs, m, none⟩ = false := f5
              clear c5 f5 hcv
              go_wp2_with fail
              go_meet
              exact ⟨appS segs rl, (if segs = [] then 0 else sf), wt + 1, rfl, FDS, JF⟩
            · have b0 : ((q : Int) == 0) = false := by simp; omega
              have b1 : ((q : Int) == 1) = true := by simp; omega
              clear hq'
              go_wp2_with fail
              refine AP.out.mono ?_
              clear AP
              rintro e w4 ⟨rfl, h4, hk4⟩
              obtain ⟨jD, k4⟩ := JA.out.dev h4 hk4
              have a2' := (World.cell?_of_block (a := ⟨g, 1, none⟩) (k4.2 g rfl)).trans a1
              clear h4 hk4 k4
              obtain ⟨WD, hWD⟩ : ∃ WD, WD = w4 := ⟨_, rfl⟩
              rw [← hWD] at jD a2' ⊢
              clear hWD
              go_upto_region 22 with fail
              have ho := jD.o1
              rw [List.length_map] at ho
              have hcat := HCAT.out
              have hmlt : (m : Int) < segs.length := by have := HML.out; omega
              have c5 := ho.cell m _ HGET.out
              have f5 := ho.frozen m (by have := HML.out; obtain ⟨_, _, e, h1, _⟩ := ho.slice; injection e with _ _ e3; omega)
              have jF := JW.set1 (jD.drewN 1) (by simp) m (by have := HML.out; omega) (.string ⟨(s ++ rl).toArray⟩)
              clear ho
              obtain ⟨RB, hRB⟩ : ∃ RB, RB = ByteArray.mk (s ++ rl).toArray := ⟨_, rfl⟩
              rw [← hRB] at hcat
              obtain ⟨RL, hRL⟩ : ∃ RL, RL = ByteArray.mk rl.toArray := ⟨_, rfl⟩
              have hrs : RL.size = rn := by rw [hRL, mk_size]; exact HRL.out
              have hcv := run_string_of (P := Try.prog) WD.drew 23 9 5 _ RA rn rl Try.underlying23 Try.underlying5 Try.underlying9 (HRV.out.sl.below (show Below w.heap.size w WD.drew from (below_trans HB1.out HB1.out.size (by rw [← HD.out]; exact jD.below)).drew)) (fun h => (HRV.out.none_ h).1) rc
              rw [← hRL] at hcv hcat
              have q1 : ¬ 9223372036854775807 < OLD.size + RL.size := by omega
              rw [FIN1.out, FIN2.out] at jF
              rw [← hRB] at jF
              have JF := Lib.hid (jF.1.lessX (X' := fun _ => False) (fun x h => by cases h))
              clear jD jF hos FIN1 FIN2 hRL hrs hRB
              go_still_tail 11, (by kernel_rfl)
              change wpList _ _ _ _ _ WD.drew
              have c5' : WD.drew.cell? ⟨gs, m, none⟩ = _ := c5
              have f5' : WD.drew.frozen? ⟨gs, m, none⟩ = false := f5
              clear c5 f5 hcv
              go_wp2_with fail
              go_meet
              exact ⟨appS segs rl, (if segs = [] then 0 else sf), wt + 1, rfl, FDS, JF⟩
        · as_aux_lemma =>
          have b0 : ((q : Int) == 0) = false := by simp; omega
          have b1 : ((q : Int) == 1) = false := by simp; omega
          have b2 : ((q : Int) == 2) = true := by simp; omega
          clear hq' hd1 hb1
          have BG := Lib.hid (begin_any JA.out.dv (by omega))
          go_wp2_with fail
          refine BG.out.mono ?_
          clear BG
          rintro e w4 ⟨rfl, h4, hk4⟩
          obtain ⟨j4, k4⟩ := JA.out.dev h4 hk4
          have J4 : Hid (JW (fun x => x = g) d w1 (.slice Aw segs.length cw) (.slice Ai segs.length ci) (segs.map strW') ((((segs.take 0).map List.length) ++ (safesN segs sf).drop 0).map intW) (segs ++ [[]]) 0 wt w4) := Lib.hid (by simpa using j4)
          clear h4 hk4 j4 k4
          go_wp2_with fail
          go_loopw [99] (fun i wx => ∃ r : Nat, r ≤ segs.length ∧ i = .int .i64 r ∧ Hid (JW (fun x => x = g) d w1 (.slice Aw segs.length cw) (.slice Ai segs.length ci) (segs.map strW') ((((segs.take r).map List.length) ++ (safesN segs sf).drop r).map intW) (segs ++ [[]]) 0 wt wx)) (fun i _ => segs.length - (intOf i).toNat)
          case atStart => exact ⟨0, Nat.zero_le _, rfl, J4⟩
          case round =>
            obtain ⟨r, hr, rfl, JR⟩ := hrel
            have hl9 : ((((segs.take r).map List.length) ++ (safesN segs sf).drop r).map intW).length = segs.length := by simp [safesN_len]; omega
            by_cases hlt2 : r < segs.length
            · have hlt2i : (r : Int) < segs.length := by omega
              have ho1 := JR.out.o1
              have ho2 := JR.out.o2
              rw [List.length_map] at ho1
              rw [hl9] at ho2
              rcases ho1.own with ⟨t, t0⟩ | ⟨g1, cap1, t, -⟩
              · omega
              injection t with t1 t2 t3
              subst t1
              rcases ho2.own with ⟨t, t0⟩ | ⟨g2, cap2, t, -⟩
              · omega
              injection t with t1 t2 t3
              subst t1
              obtain ⟨RS, hRS⟩ : ∃ RS : ByteArray, RS = ⟨(segs[r]).toArray⟩ := ⟨_, rfl⟩
              have d1 := ho1.cell r (.string RS) (by rw [List.getElem?_map, List.getElem?_eq_getElem hlt2, hRS]; rfl)
              obtain ⟨u2, hu2⟩ : ∃ u, ((((segs.take r).map List.length) ++ (safesN segs sf).drop r).map intW)[r]? = some u := ⟨_, List.getElem?_eq_getElem (by rw [hl9]; exact hlt2)⟩
              have d2 := ho2.cell r _ hu2
              have f2 := ho2.frozen r (by obtain ⟨_, _, e, h1, _⟩ := ho2.slice; injection e with _ _ e3; omega)
              have hi3 : IntKind.i64.wrap ((r : Int) + 1) = (r : Int) + 1 := IntWalk.i64_in _ (by omega)
              have jn := JR.out.set2 hl9 r hlt2 (.int .i64 (RS.size : Nat))
              have e9 : ((((segs.take r).map List.length) ++ (safesN segs sf).drop r).map intW).set r (.int .i64 (RS.size : Nat)) = ((((segs.take (r + 1)).map List.length) ++ (safesN segs sf).drop (r + 1)).map intW) := by
                rw [List.take_succ_eq_append_getElem hlt2, List.drop_eq_getElem_cons (by rw [safesN_len]; exact hlt2), List.map_append, List.map_append, List.map_append, List.map_append, List.set_append_right _ _ (by simp; omega)]
                have h3 : r - (List.map intW (List.map List.length (List.take r segs))).length = 0 := by simp; omega
                rw [h3, List.map_cons, List.set_cons_zero, hRS, mk_size]
                simp [intW]
              rw [e9] at jn
              have JN := Lib.hid jn.1
              clear ho1 ho2 hu2 hRS e9 jn hl9
              go_wp2_with fail
              go_roundw
              case rel => exact ⟨r + 1, by omega, by go_num, JN⟩
              case measure => simp [intOf]; omega
            · obtain rfl : r = segs.length := by omega
              have hlt2i : ¬ (segs.length : Int) < segs.length := by omega
              have e9 : ((segs.take segs.length).map List.length) ++ (safesN segs sf).drop segs.length = segs.map List.length := by
                rw [List.take_of_length_le (Nat.le_refl _), List.drop_of_length_le (Nat.le_of_eq (safesN_len segs sf)), List.append_nil]
              have jr := JR.out
              rw [e9] at jr
              have JR2 := Lib.hid jr
              clear e9 jr JR hl9
              have FDS : Hid (DS ds (segs ++ [[]]) 0 wt (k + 1)) := Lib.hid ⟨Nat.zero_le _, by simp; omega, by rw [sumL_snoc]; simp; omega, by omega⟩
              obtain ⟨wz, JR3⟩ : ∃ wz, wz = wr := ⟨_, rfl⟩
              subst JR3
              have ho1 := JR2.out.o1
              rw [List.length_map] at ho1
              have hnew := ho1.alloc (.cells #[.string ⟨#[]⟩] 9)
              have hsrc := Src.ofSlice (P := Try.prog) (size := 1) (wz.alloc (.cells #[.string ⟨#[]⟩] 9)) Try.underlying43 ⟨wz.heap.size, 0, none⟩ 1 1 [.string ⟨#[]⟩] rfl (news_at wz #[.string ⟨#[]⟩] 9) (by intro u hu; simp at hu; subst hu; rfl)
              clear ho1
              go_wp2_with (at_builtin; go_loud (refine wpList_append_ob rfl _ _ 43 43 rfl 9 i1 _ 16 Try.underlying43 hj hy0 hy1 hy2 rfl hnew rfl rfl hsrc (by unfold maxLen; omega) (by omega) ?_))
              intro v5 w5 p1 p2 p3 p4
              obtain ⟨WC, hWC⟩ : ∃ WC, WC = wz.alloc (.cells #[.string ⟨#[]⟩] 9) := ⟨_, rfl⟩
              have hzC : WC.heap.size = wz.heap.size + 1 := by rw [hWC]; simp
              have hbC : Below wz.heap.size wz WC := by rw [hWC]; exact (Below.refl _ _).alloc (Nat.le_refl _) _
              rw [← hWC, ← hzC] at p3
              rw [← hzC] at p2 p4
              obtain ⟨jC, -⟩ := JR2.out.keep hbC
              have p1' : OB d w1 v5 (segs.map strW' ++ [Value.string ⟨#[]⟩]).length (segs.map strW' ++ [Value.string ⟨#[]⟩]) w5 := by
                rw [show (segs.map strW' ++ [Value.string ⟨#[]⟩]).length = segs.length + 1 by simp]; exact p1
              obtain ⟨j5, -⟩ := jC.app1 p1' p2 p3 p4
              have ho2 := j5.o2
              rw [show ((segs.map List.length).map intW).length = segs.length by simp] at ho2
              have hnew2 := ho2.alloc (.cells #[.int .i64 0] 3)
              have hsrc2 := Src.ofSlice (P := Try.prog) (size := 1) (w5.alloc (.cells #[.int .i64 0] 3)) Try.underlying54 ⟨w5.heap.size, 0, none⟩ 1 1 [.int .i64 0] rfl (news_at w5 #[.int .i64 0] 3) (by intro u hu; simp at hu; subst hu; rfl)
              have J5 := Lib.hid j5
              clear ho2 jC j5 p1 p1' p2 p3 p4 hWC hzC hbC hnew hsrc JR2
              go_wp2_with (at_builtin; go_loud (refine wpList_append_ob rfl _ _ 54 54 rfl 3 i2 _ 8 Try.underlying54 hp hq0 hq1 hq2 rfl hnew2 rfl rfl hsrc2 (by unfold maxLen; omega) (by omega) ?_))
              intro v6 w6 p1 p2 p3 p4
              obtain ⟨WC, hWC⟩ : ∃ WC, WC = w5.alloc (.cells #[.int .i64 0] 3) := ⟨_, rfl⟩
              have hzC : WC.heap.size = w5.heap.size + 1 := by rw [hWC]; simp
              have hbC : Below w5.heap.size w5 WC := by rw [hWC]; exact (Below.refl _ _).alloc (Nat.le_refl _) _
              rw [← hWC, ← hzC] at p3
              rw [← hzC] at p2 p4
              obtain ⟨jC, -⟩ := J5.out.keep hbC
              have p1' : OB d w1 v6 ((segs.map List.length).map intW ++ [Value.int .i64 0]).length ((segs.map List.length).map intW ++ [Value.int .i64 0]) w6 := by
                rw [show ((segs.map List.length).map intW ++ [Value.int .i64 0]).length = segs.length + 1 by simp, List.map_map]; exact p1
              obtain ⟨j6, -⟩ := jC.app2 p1' p2 p3 p4
              have e1 : segs.map strW' ++ [Value.string ⟨#[]⟩] = (segs ++ [[]]).map strW' := by rw [List.map_append]; rfl
              have e2 : (segs.map List.length).map intW ++ [Value.int .i64 0] = (safesN (segs ++ [[]]) 0).map intW := by rw [safesN_begin, List.map_append]; rfl
              rw [e1, e2] at j6
              have JF := Lib.hid (j6.lessX (X' := fun _ => False) (fun x h => by cases h))
              clear j6 jC p1 p1' p2 p3 p4 e1 e2 hWC hzC hbC hnew2 hsrc2 J5
              go_wp2_with fail
              go_meet
              exact ⟨segs ++ [[]], 0, wt, rfl, FDS, JF⟩
        · as_aux_lemma =>
          have b0 : ((q : Int) == 0) = false := by simp; omega
          have b1 : ((q : Int) == 1) = false := by simp; omega
          have b2 : ((q : Int) == 2) = false := by simp; omega
          have b3 : ((q : Int) == 3) = true := by simp; omega
          clear hq' hd1 hb1
          have SY := Lib.hid (sync_any JA.out.dv)
          go_wp2_with fail
          refine SY.out.mono ?_
          clear SY
          rintro e w4 ⟨rfl, h4, hk4⟩
          obtain ⟨j4, k4⟩ := JA.out.dev h4 hk4
          have J4 : Hid (JW (fun x => x = g) d w1 (.slice Aw segs.length cw) (.slice Ai segs.length ci) (segs.map strW') ((((segs.take 0).map List.length) ++ (safesN segs sf).drop 0).map intW) segs (lastN segs) wt w4) := Lib.hid (by simpa using j4)
          clear h4 hk4 j4 k4
          go_wp2_with fail
          go_loopw [123] (fun i wx => ∃ r : Nat, r ≤ segs.length ∧ i = .int .i64 r ∧ Hid (JW (fun x => x = g) d w1 (.slice Aw segs.length cw) (.slice Ai segs.length ci) (segs.map strW') ((((segs.take r).map List.length) ++ (safesN segs sf).drop r).map intW) segs (lastN segs) wt wx)) (fun i _ => segs.length - (intOf i).toNat)
          case atStart => exact ⟨0, Nat.zero_le _, rfl, J4⟩
          case round =>
            obtain ⟨r, hr, rfl, JR⟩ := hrel
            have hl9 : ((((segs.take r).map List.length) ++ (safesN segs sf).drop r).map intW).length = segs.length := by simp [safesN_len]; omega
            by_cases hlt2 : r < segs.length
            · have hlt2i : (r : Int) < segs.length := by omega
              have ho1 := JR.out.o1
              have ho2 := JR.out.o2
              rw [List.length_map] at ho1
              rw [hl9] at ho2
              rcases ho1.own with ⟨t, t0⟩ | ⟨g1, cap1, t, -⟩
              · omega
              injection t with t1 t2 t3
              subst t1
              rcases ho2.own with ⟨t, t0⟩ | ⟨g2, cap2, t, -⟩
              · omega
              injection t with t1 t2 t3
              subst t1
              obtain ⟨RS, hRS⟩ : ∃ RS : ByteArray, RS = ⟨(segs[r]).toArray⟩ := ⟨_, rfl⟩
              have d1 := ho1.cell r (.string RS) (by rw [List.getElem?_map, List.getElem?_eq_getElem hlt2, hRS]; rfl)
              obtain ⟨u2, hu2⟩ : ∃ u, ((((segs.take r).map List.length) ++ (safesN segs sf).drop r).map intW)[r]? = some u := ⟨_, List.getElem?_eq_getElem (by rw [hl9]; exact hlt2)⟩
              have d2 := ho2.cell r _ hu2
              have f2 := ho2.frozen r (by obtain ⟨_, _, e, h1, _⟩ := ho2.slice; injection e with _ _ e3; omega)
              have hi3 : IntKind.i64.wrap ((r : Int) + 1) = (r : Int) + 1 := IntWalk.i64_in _ (by omega)
              have jn := JR.out.set2 hl9 r hlt2 (.int .i64 (RS.size : Nat))
              have e9 : ((((segs.take r).map List.length) ++ (safesN segs sf).drop r).map intW).set r (.int .i64 (RS.size : Nat)) = ((((segs.take (r + 1)).map List.length) ++ (safesN segs sf).drop (r + 1)).map intW) := by
                rw [List.take_succ_eq_append_getElem hlt2, List.drop_eq_getElem_cons (by rw [safesN_len]; exact hlt2), List.map_append, List.map_append, List.map_append, List.map_append, List.set_append_right _ _ (by simp; omega)]
                have h3 : r - (List.map intW (List.map List.length (List.take r segs))).length = 0 := by simp; omega
                rw [h3, List.map_cons, List.set_cons_zero, hRS, mk_size]
                simp [intW]
              rw [e9] at jn
              have JN := Lib.hid jn.1
              clear ho1 ho2 hu2 hRS e9 jn hl9
              go_wp2_with fail
              go_roundw
              case rel => exact ⟨r + 1, by omega, by go_num, JN⟩
              case measure => simp [intOf]; omega
            · obtain rfl : r = segs.length := by omega
              have hlt2i : ¬ (segs.length : Int) < segs.length := by omega
              have e9 : ((segs.take segs.length).map List.length) ++ (safesN segs sf).drop segs.length = segs.map List.length := by
                rw [List.take_of_length_le (Nat.le_refl _), List.drop_of_length_le (Nat.le_of_eq (safesN_len segs sf)), List.append_nil]
              have jr := JR.out
              rw [e9] at jr
              have JR2 := Lib.hid jr
              clear e9 jr JR hl9
              have FDS : Hid (DS ds segs (lastN segs) wt (k + 1)) := Lib.hid ⟨Nat.le_refl _, by omega, by omega, by omega⟩
              have JF : Hid (JW (fun _ => False) d w1 (.slice Aw segs.length cw) (.slice Ai segs.length ci) (segs.map strW') ((safesN segs (lastN segs)).map intW) segs (lastN segs) wt wr) := Lib.hid (by rw [safesN_sync]; exact JR2.out.lessX (fun x h => by cases h))
              go_wp2_with fail
              go_meet
              exact ⟨segs, lastN segs, wt, rfl, FDS, JF⟩
        · as_aux_lemma =>
          have b0 : ((q : Int) == 0) = false := by simp; omega
          have b1 : ((q : Int) == 1) = false := by simp; omega
          have b2 : ((q : Int) == 2) = false := by simp; omega
          have b3 : ((q : Int) == 3) = false := by simp; omega
          have b4 : ((q : Int) == 4) = true := by simp; omega
          clear hq' hd1 hb1
          have hsl := last_le_sum segs
          have hMw : IntKind.i64.wrap M = M := IntWalk.i64_in _ (by omega)
          have CR := Lib.hid (crash_any M (by omega) (by omega) JA.out.dv hsf)
          rcases segs_cases segs with hsg | ⟨init, s, hsg⟩
          · obtain rfl : p9 = -1 := by have := HP9.out; rw [hsg] at this; simpa using this
            have HSG := Lib.hid hsg
            clear hsg
            go_wp2_with fail
            refine CR.out.mono ?_
            clear CR
            rintro e w4 ⟨rfl, h4, hk4⟩
            obtain ⟨j4, k4⟩ := JA.out.dev h4 hk4
            have hs0 : sf = 0 := by rw [HSG.out] at hsf; exact Nat.le_zero.1 hsf
            have JF : Hid (JW (fun _ => False) d w1 (.slice Aw segs.length cw) (.slice Ai segs.length ci) (segs.map strW') ((safesN segs 0).map intW) segs 0 wt w4) := Lib.hid (by
              have h8 := j4.lessX (X' := fun _ => False) (fun x h => by cases h)
              rw [HSG.out] at h8 ⊢
              rw [cutS_nil, show lastN ([] : List (List UInt8)) = 0 from rfl, Nat.min_zero] at h8
              exact h8)
            have FDS : Hid (DS ds segs 0 wt (k + 1)) := Lib.hid ⟨Nat.zero_le _, by omega, by omega, by omega⟩
            clear h4 hk4 j4 k4
            go_wp2_with fail
            go_meet
            exact ⟨segs, 0, wt, rfl, FDS, JF⟩
          · obtain ⟨m, hm⟩ : ∃ m, m = init.length := ⟨_, rfl⟩
            obtain rfl : p9 = (m : Int) := by have := HP9.out; rw [hsg] at this; simp at this; omega
            have hml : segs.length = m + 1 := by rw [hsg]; simp [hm]
            obtain ⟨ls, hls⟩ : ∃ ls, ls = s.length := ⟨_, rfl⟩
            have hla : lastN segs = ls := by rw [hsg, lastN_snoc, hls]
            obtain ⟨MX, hMX⟩ : ∃ MX, MX = M.toNat := ⟨_, rfl⟩
            obtain ⟨K, hK⟩ : ∃ K, K = min ls (sf + MX) := ⟨_, rfl⟩
            have v2 : ((m : Int) ≥ 0) := by omega
            have ho := JA.out.o1
            rw [List.length_map] at ho
            rcases ho.own with ⟨q1, q2⟩ | ⟨gs, cc, hv, -, -, -, -, -, -⟩
            · omega
            injection hv with r1 r2 r3
            subst r1 r3
            have ho := JA.out.o2
            rw [List.length_map, safesN_len] at ho
            rcases ho.own with ⟨q1, q2⟩ | ⟨gi, cc, hv, -, -, -, -, -, -⟩
            · omega
            injection hv with r1 r2 r3
            subst r1 r3
            have FIN1 : Hid ((segs.map strW').set m (.string ⟨(s.take K).toArray⟩) = (cutS segs (sf + MX)).map strW') := Lib.hid (by
              have e : s.take K = s.take (sf + MX) := by
                rw [hK]; rcases Nat.le_total ls (sf + MX) with h | h
                · rw [Nat.min_eq_left h, List.take_of_length_le (by omega), List.take_of_length_le (by omega)]
                · rw [Nat.min_eq_right h]
              rw [hsg, cutS_snoc, List.map_append, List.map_append, List.set_append_right _ _ (by simp [hm]), e]; simp [hm, strW'])
            have FIN2 : Hid (((safesN segs sf).map intW).set m (.int .i64 (K : Nat)) = (safesN (cutS segs (sf + MX)) (min (sf + MX) ls)).map intW) := Lib.hid (by
              rw [hsg, cutS_snoc, safesN_snoc, safesN_snoc, List.map_append, List.map_append, List.set_append_right _ _ (by simp [hm]), hK, Nat.min_comm]; simp [hm, intW])
            have FDS : Hid (DS ds (cutS segs (sf + MX)) (min (sf + MX) ls) wt (k + 1)) := Lib.hid ⟨by rw [cutS_last, hla]; exact Nat.le_refl _, by rw [cutS_len]; omega, by have := sumL_cutS segs (sf + MX); omega, by omega⟩
            obtain ⟨OLD, hOLD⟩ : ∃ OLD : ByteArray, OLD = ⟨s.toArray⟩ := ⟨_, rfl⟩
            obtain ⟨BK, hBK⟩ : ∃ BK : ByteArray, BK = ⟨(s.take K).toArray⟩ := ⟨_, rfl⟩
            have hos : OLD.size = ls := by rw [hOLD, mk_size, hls]
            have hbs : BK.size = K := by rw [hBK, mk_size, List.length_take]; omega
            have hKl : K ≤ ls := by omega
            have hls3 : ls ≤ 1048576 := by omega
            have hex : OLD.extract 0 K = BK := by rw [hOLD, hBK]; apply ByteArray.ext; simp
            have hget : (segs.map strW')[m]? = some (.string OLD) := by rw [hsg, hOLD]; simp [hm, strW']
            have hget2 : ((safesN segs sf).map intW)[m]? = some (.int .i64 (sf : Nat)) := by rw [hsg, safesN_snoc]; simp [hm, intW]
            rw [← hBK] at FIN1
            rw [← hMX, hla] at CR
            have HGET := Lib.hid hget
            have HGET2 := Lib.hid hget2
            have HML := Lib.hid hml
            have HLA := Lib.hid hla
            have HBS := Lib.hid hbs
            have hmlt : (m : Int) < segs.length := by omega
            have hsf' : sf ≤ ls := by omega
            have HSI := Lib.hid (show (segs.map strW').length = segs.length by simp)
            have HSJ := Lib.hid (show ((safesN segs sf).map intW).length = segs.length by rw [List.length_map, safesN_len])
            clear hm hml hsg ho hOLD hBK hget hget2 hls hla hsf hsl
            have main : (0 < M ∧ M = (MX : Int)) ∨ (M ≤ 0 ∧ MX = 0) := by omega
            clear hMX
            rcases main with ⟨hx, hMM⟩ | ⟨hx, h0⟩
            · subst hMM
              have HX0 := Lib.hid (show 0 < MX by omega)
              by_cases hy : sf + MX < ls
              · have hKe : K = sf + MX := by omega
                have hK1 : K < ls := by omega
                have hsum : IntKind.i64.wrap ((sf : Int) + MX) = (K : Int) := by rw [IntWalk.i64_in _ (by omega)]; omega
                clear hK hy hKe
                go_wp2_with fail
                refine CR.out.mono ?_
                clear CR
                rintro e w4 ⟨rfl, h4, hk4⟩
                obtain ⟨jD, k4⟩ := JA.out.dev h4 hk4
                have a2' := (World.cell?_of_block (a := ⟨g, 2, none⟩) (k4.2 g rfl)).trans a2
                clear h4 hk4 k4
                go_upto_region 41 with fail
                have ho1 := jD.o1
                have ho2 := jD.o2
                rw [List.length_map] at ho1
                rw [HSJ.out] at ho2
                have c5 := ho1.cell m _ HGET.out
                have f5 := ho1.frozen m (by have := HML.out; obtain ⟨_, _, e, h1, _⟩ := ho1.slice; injection e with _ _ e3; omega)
                have c6 := ho2.cell m _ HGET2.out
                have hmN : m < segs.length := by have := HML.out; omega
                have jF := (JW.set1 (jD.drewN 1) HSI.out m hmN (.string BK)).1
                obtain ⟨WF, hWF⟩ : ∃ WF, WF = (w4.drewN 1).setCell ⟨gs, m, none⟩ (.string BK) := ⟨_, rfl⟩
                rw [← hWF] at jF
                have hWF' : (w4.setCell ⟨gs, m, none⟩ (.string BK)).drew = WF := by rw [hWF]; rfl
                have ho3 := jF.o1
                rw [List.length_set, HSI.out] at ho3
                have c7 := ho3.cell m (.string BK) (by rw [List.getElem?_set_self (by rw [HSI.out]; exact hmN)])
                have ho4 := jF.o2
                rw [HSJ.out] at ho4
                have c8 := ho4.cell m _ HGET2.out
                have f8 := ho4.frozen m (by obtain ⟨_, _, e, h1, _⟩ := ho4.slice; injection e with _ _ e3; omega)
                have jG := (jF.set2 HSJ.out m hmN (.int .i64 (BK.size : Nat))).1
                rw [FIN1.out, HBS.out, FIN2.out] at jG
                have JG := Lib.hid (jG.lessX (X' := fun _ => False) (fun x h => by cases h))
                have HWF := Lib.hid hWF'
                clear ho1 ho2 ho3 ho4 jF jD jG hWF hWF'
                have hx0 := HX0.out
                go_still_tail 23, (by kernel_rfl)
                change wpList _ _ _ _ _ w4.drew
                have c5' : w4.drew.cell? ⟨gs, m, none⟩ = _ := c5
                have f5' : w4.drew.frozen? ⟨gs, m, none⟩ = false := f5
                clear c5 f5 c6
                go_upto_region 42 with fail
                rw [HWF.out]
                clear c5' f5' HWF
                go_wp2_with fail
                go_meet
                exact ⟨cutS segs (sf + MX), _, wt, rfl, FDS, JG⟩
              · obtain ⟨T9, hT9⟩ : ∃ T9, T9 = sf + MX := ⟨_, rfl⟩
                obtain rfl : K = ls := by omega
                have hK1 : ¬ T9 < K := by omega
                have hsum : IntKind.i64.wrap ((sf : Int) + MX) = (T9 : Int) := by rw [IntWalk.i64_in _ (by omega)]; omega
                clear hK hy hT9
                go_wp2_with fail
                refine CR.out.mono ?_
                clear CR
                rintro e w4 ⟨rfl, h4, hk4⟩
                obtain ⟨jD, k4⟩ := JA.out.dev h4 hk4
                have a2' := (World.cell?_of_block (a := ⟨g, 2, none⟩) (k4.2 g rfl)).trans a2
                clear h4 hk4 k4
                go_upto_region 41 with fail
                have ho1 := jD.o1
                have ho2 := jD.o2
                rw [List.length_map] at ho1
                rw [HSJ.out] at ho2
                have c5 := ho1.cell m _ HGET.out
                have f5 := ho1.frozen m (by have := HML.out; obtain ⟨_, _, e, h1, _⟩ := ho1.slice; injection e with _ _ e3; omega)
                have c6 := ho2.cell m _ HGET2.out
                have hmN : m < segs.length := by have := HML.out; omega
                have jF := (JW.set1 (jD.drewN 1) HSI.out m hmN (.string BK)).1
                obtain ⟨WF, hWF⟩ : ∃ WF, WF = (w4.drewN 1).setCell ⟨gs, m, none⟩ (.string BK) := ⟨_, rfl⟩
                rw [← hWF] at jF
                have hWF' : (w4.setCell ⟨gs, m, none⟩ (.string BK)).drew = WF := by rw [hWF]; rfl
                have ho3 := jF.o1
                rw [List.length_set, HSI.out] at ho3
                have c7 := ho3.cell m (.string BK) (by rw [List.getElem?_set_self (by rw [HSI.out]; exact hmN)])
                have ho4 := jF.o2
                rw [HSJ.out] at ho4
                have c8 := ho4.cell m _ HGET2.out
                have f8 := ho4.frozen m (by obtain ⟨_, _, e, h1, _⟩ := ho4.slice; injection e with _ _ e3; omega)
                have jG := (jF.set2 HSJ.out m hmN (.int .i64 (BK.size : Nat))).1
                rw [FIN1.out, HBS.out, FIN2.out] at jG
                have JG := Lib.hid (jG.lessX (X' := fun _ => False) (fun x h => by cases h))
                have HWF := Lib.hid hWF'
                clear ho1 ho2 ho3 ho4 jF jD jG hWF hWF'
                have hx0 := HX0.out
                go_still_tail 23, (by kernel_rfl)
                change wpList _ _ _ _ _ w4.drew
                have c5' : w4.drew.cell? ⟨gs, m, none⟩ = _ := c5
                have f5' : w4.drew.frozen? ⟨gs, m, none⟩ = false := f5
                clear c5 f5 c6
                go_upto_region 42 with fail
                rw [HWF.out]
                clear c5' f5' HWF
                go_wp2_with fail
                go_meet
                exact ⟨cutS segs (sf + MX), _, wt, rfl, FDS, JG⟩
            · have HX0 := Lib.hid (show ¬ 0 < M by omega)
              clear hx
              by_cases hy : sf < ls
              · have hsum : IntKind.i64.wrap (sf : Int) = (K : Int) := by rw [IntWalk.i64_in _ (by omega)]; omega
                have hK1 : K < ls := by omega
                clear hK h0 hy
                go_wp2_with fail
                refine CR.out.mono ?_
                clear CR
                rintro e w4 ⟨rfl, h4, hk4⟩
                obtain ⟨jD, k4⟩ := JA.out.dev h4 hk4
                have a2' := (World.cell?_of_block (a := ⟨g, 2, none⟩) (k4.2 g rfl)).trans a2
                clear h4 hk4 k4
                go_upto_region 41 with fail
                have ho1 := jD.o1
                have ho2 := jD.o2
                rw [List.length_map] at ho1
                rw [HSJ.out] at ho2
                have c5 := ho1.cell m _ HGET.out
                have f5 := ho1.frozen m (by have := HML.out; obtain ⟨_, _, e, h1, _⟩ := ho1.slice; injection e with _ _ e3; omega)
                have c6 := ho2.cell m _ HGET2.out
                have hmN : m < segs.length := by have := HML.out; omega
                have jF := (JW.set1 (jD.drewN 1) HSI.out m hmN (.string BK)).1
                obtain ⟨WF, hWF⟩ : ∃ WF, WF = (w4.drewN 1).setCell ⟨gs, m, none⟩ (.string BK) := ⟨_, rfl⟩
                rw [← hWF] at jF
                have hWF' : (w4.setCell ⟨gs, m, none⟩ (.string BK)).drew = WF := by rw [hWF]; rfl
                have ho3 := jF.o1
                rw [List.length_set, HSI.out] at ho3
                have c7 := ho3.cell m (.string BK) (by rw [List.getElem?_set_self (by rw [HSI.out]; exact hmN)])
                have ho4 := jF.o2
                rw [HSJ.out] at ho4
                have c8 := ho4.cell m _ HGET2.out
                have f8 := ho4.frozen m (by obtain ⟨_, _, e, h1, _⟩ := ho4.slice; injection e with _ _ e3; omega)
                have jG := (jF.set2 HSJ.out m hmN (.int .i64 (BK.size : Nat))).1
                rw [FIN1.out, HBS.out, FIN2.out] at jG
                have JG := Lib.hid (jG.lessX (X' := fun _ => False) (fun x h => by cases h))
                have HWF := Lib.hid hWF'
                clear ho1 ho2 ho3 ho4 jF jD jG hWF hWF'
                have hx0 := HX0.out
                go_still_tail 23, (by kernel_rfl)
                change wpList _ _ _ _ _ w4.drew
                have c5' : w4.drew.cell? ⟨gs, m, none⟩ = _ := c5
                have f5' : w4.drew.frozen? ⟨gs, m, none⟩ = false := f5
                clear c5 f5 c6
                go_upto_region 42 with fail
                rw [HWF.out]
                clear c5' f5' HWF
                go_wp2_with fail
                go_meet
                exact ⟨cutS segs (sf + MX), _, wt, rfl, FDS, JG⟩
              · have hsum : IntKind.i64.wrap (sf : Int) = (K : Int) := by rw [IntWalk.i64_in _ (by omega)]; omega
                have hK1 : ¬ K < ls := by omega
                have hKL : K = ls := by omega
                clear hK h0 hy
                subst hKL
                go_wp2_with fail
                refine CR.out.mono ?_
                clear CR
                rintro e w4 ⟨rfl, h4, hk4⟩
                obtain ⟨jD, k4⟩ := JA.out.dev h4 hk4
                have a2' := (World.cell?_of_block (a := ⟨g, 2, none⟩) (k4.2 g rfl)).trans a2
                clear h4 hk4 k4
                go_upto_region 41 with fail
                have ho1 := jD.o1
                have ho2 := jD.o2
                rw [List.length_map] at ho1
                rw [HSJ.out] at ho2
                have c5 := ho1.cell m _ HGET.out
                have f5 := ho1.frozen m (by have := HML.out; obtain ⟨_, _, e, h1, _⟩ := ho1.slice; injection e with _ _ e3; omega)
                have c6 := ho2.cell m _ HGET2.out
                have hmN : m < segs.length := by have := HML.out; omega
                have jF := (JW.set1 (jD.drewN 1) HSI.out m hmN (.string BK)).1
                obtain ⟨WF, hWF⟩ : ∃ WF, WF = (w4.drewN 1).setCell ⟨gs, m, none⟩ (.string BK) := ⟨_, rfl⟩
                rw [← hWF] at jF
                have hWF' : (w4.setCell ⟨gs, m, none⟩ (.string BK)).drew = WF := by rw [hWF]; rfl
                have ho3 := jF.o1
                rw [List.length_set, HSI.out] at ho3
                have c7 := ho3.cell m (.string BK) (by rw [List.getElem?_set_self (by rw [HSI.out]; exact hmN)])
                have ho4 := jF.o2
                rw [HSJ.out] at ho4
                have c8 := ho4.cell m _ HGET2.out
                have f8 := ho4.frozen m (by obtain ⟨_, _, e, h1, _⟩ := ho4.slice; injection e with _ _ e3; omega)
                have jG := (jF.set2 HSJ.out m hmN (.int .i64 (BK.size : Nat))).1
                rw [FIN1.out, HBS.out, FIN2.out] at jG
                have JG := Lib.hid (jG.lessX (X' := fun _ => False) (fun x h => by cases h))
                have HWF := Lib.hid hWF'
                clear ho1 ho2 ho3 ho4 jF jD jG hWF hWF'
                have hx0 := HX0.out
                go_still_tail 23, (by kernel_rfl)
                change wpList _ _ _ _ _ w4.drew
                have c5' : w4.drew.cell? ⟨gs, m, none⟩ = _ := c5
                have f5' : w4.drew.frozen? ⟨gs, m, none⟩ = false := f5
                clear c5 f5 c6
                go_upto_region 42 with fail
                rw [HWF.out]
                clear c5' f5' HWF
                go_wp2_with fail
                go_meet
                exact ⟨cutS segs (sf + MX), _, wt, rfl, FDS, JG⟩
        · as_aux_lemma =>
          have b0 : ((q : Int) == 0) = false := by simp; omega
          have b1 : ((q : Int) == 1) = false := by simp; omega
          have b2 : ((q : Int) == 2) = false := by simp; omega
          have b3 : ((q : Int) == 3) = false := by simp; omega
          have b4 : ((q : Int) == 4) = false := by simp; omega
          clear hq' hd1 hb1
          have hsl := last_le_sum segs
          have hMw : IntKind.i64.wrap M = M := IntWalk.i64_in _ (by omega)
          have CT : Hid (Calls Try.prog 21 #[.pointer (some ⟨d, 0, none⟩), .int .i64 M] WA fun e w' => e = .returned (.tuple #[]) ∧ DevE (FX (fun x => x = g) d (.slice Aw segs.length cw) (.slice Ai segs.length ci)) d w1 d (cutS segs M.toNat) (min sf M.toNat) wt w' ∧ Keep (FX (fun x => x = g) d (.slice Aw segs.length cw) (.slice Ai segs.length ci)) WA w') := Lib.hid (by
            rcases Int.lt_or_le M 0 with h | h
            · have e : M.toNat = 0 := by omega
              rw [e]; exact cut_neg M h JA.out.dv hsf
            · obtain ⟨mm, rfl⟩ : ∃ mm : Nat, M = mm := ⟨M.toNat, by omega⟩
              rw [Int.toNat_natCast]; exact cut_nat mm (by omega) JA.out.dv hsf)
          rcases segs_cases segs with hsg | ⟨init, s, hsg⟩
          · obtain rfl : p9 = -1 := by have := HP9.out; rw [hsg] at this; simpa using this
            have HSG := Lib.hid hsg
            clear hsg
            go_wp2_with fail
            refine CT.out.mono ?_
            clear CT
            rintro e w4 ⟨rfl, h4, hk4⟩
            obtain ⟨j4, k4⟩ := JA.out.dev h4 hk4
            have hs0 : sf = 0 := by rw [HSG.out] at hsf; exact Nat.le_zero.1 hsf
            have JF : Hid (JW (fun _ => False) d w1 (.slice Aw segs.length cw) (.slice Ai segs.length ci) (segs.map strW') ((safesN segs 0).map intW) segs 0 wt w4) := Lib.hid (by
              have h8 := j4.lessX (X' := fun _ => False) (fun x h => by cases h)
              rw [HSG.out] at h8 ⊢
              rw [cutS_nil, hs0, Nat.zero_min] at h8
              exact h8)
            have FDS : Hid (DS ds segs 0 wt (k + 1)) := Lib.hid ⟨Nat.zero_le _, by omega, by omega, by omega⟩
            clear h4 hk4 j4 k4
            go_wp2_with fail
            go_meet
            exact ⟨segs, 0, wt, rfl, FDS, JF⟩
          · obtain ⟨m, hm⟩ : ∃ m, m = init.length := ⟨_, rfl⟩
            obtain rfl : p9 = (m : Int) := by have := HP9.out; rw [hsg] at this; simp at this; omega
            have hml : segs.length = m + 1 := by rw [hsg]; simp [hm]
            obtain ⟨ls, hls⟩ : ∃ ls, ls = s.length := ⟨_, rfl⟩
            have hla : lastN segs = ls := by rw [hsg, lastN_snoc, hls]
            obtain ⟨MX, hMX⟩ : ∃ MX, MX = M.toNat := ⟨_, rfl⟩
            obtain ⟨K, hK⟩ : ∃ K, K = min ls MX := ⟨_, rfl⟩
            obtain ⟨S9, hS9⟩ : ∃ S9, S9 = min sf K := ⟨_, rfl⟩
            have v2 : ((m : Int) ≥ 0) := by omega
            have ho := JA.out.o1
            rw [List.length_map] at ho
            rcases ho.own with ⟨q1, q2⟩ | ⟨gs, cc, hv, -, -, -, -, -, -⟩
            · omega
            injection hv with r1 r2 r3
            subst r1 r3
            have ho := JA.out.o2
            rw [List.length_map, safesN_len] at ho
            rcases ho.own with ⟨q1, q2⟩ | ⟨gi, cc, hv, -, -, -, -, -, -⟩
            · omega
            injection hv with r1 r2 r3
            subst r1 r3
            have FIN1 : Hid ((segs.map strW').set m (.string ⟨(s.take K).toArray⟩) = (cutS segs MX).map strW') := Lib.hid (by
              have e : s.take K = s.take MX := by
                rw [hK]; rcases Nat.le_total ls MX with h | h
                · rw [Nat.min_eq_left h, List.take_of_length_le (by omega), List.take_of_length_le (by omega)]
                · rw [Nat.min_eq_right h]
              rw [hsg, cutS_snoc, List.map_append, List.map_append, List.set_append_right _ _ (by simp [hm]), e]; simp [hm, strW'])
            have FIN2 : Hid (((safesN segs sf).map intW).set m (.int .i64 (S9 : Nat)) = (safesN (cutS segs MX) (min sf MX)).map intW) := Lib.hid (by
              have e : S9 = min sf MX := by rw [hla] at hsf; omega
              rw [hsg, cutS_snoc, safesN_snoc, safesN_snoc, List.map_append, List.map_append, List.set_append_right _ _ (by simp [hm]), e]; simp [hm, intW])
            have FDS : Hid (DS ds (cutS segs MX) (min sf MX) wt (k + 1)) := Lib.hid ⟨by rw [cutS_last]; omega, by rw [cutS_len]; omega, by have := sumL_cutS segs MX; omega, by omega⟩
            obtain ⟨OLD, hOLD⟩ : ∃ OLD : ByteArray, OLD = ⟨s.toArray⟩ := ⟨_, rfl⟩
            obtain ⟨BK, hBK⟩ : ∃ BK : ByteArray, BK = ⟨(s.take K).toArray⟩ := ⟨_, rfl⟩
            have hos : OLD.size = ls := by rw [hOLD, mk_size, hls]
            have hbs : BK.size = K := by rw [hBK, mk_size, List.length_take]; omega
            have hKl : K ≤ ls := by omega
            have hls3 : ls ≤ 1048576 := by omega
            have hex : OLD.extract 0 K = BK := by rw [hOLD, hBK]; apply ByteArray.ext; simp
            have hget : (segs.map strW')[m]? = some (.string OLD) := by rw [hsg, hOLD]; simp [hm, strW']
            have hget2 : ((safesN segs sf).map intW)[m]? = some (.int .i64 (sf : Nat)) := by rw [hsg, safesN_snoc]; simp [hm, intW]
            rw [← hBK] at FIN1
            rw [← hMX] at CT
            have HGET := Lib.hid hget
            have HGET2 := Lib.hid hget2
            have HML := Lib.hid hml
            have hmlt : (m : Int) < segs.length := by omega
            have hsf' : sf ≤ ls := by omega
            have HSI := Lib.hid (show (segs.map strW').length = segs.length by simp)
            have HSJ := Lib.hid (show ((safesN segs sf).map intW).length = segs.length by rw [List.length_map, safesN_len])
            clear hm hml hsg ho hOLD hBK hget hget2 hls hla hsf hsl
            have main : (0 < M ∧ M = (MX : Int)) ∨ (M ≤ 0 ∧ MX = 0) := by omega
            have HS9 := Lib.hid hS9
            clear hMX hS9
            rcases main with ⟨hx, hMM⟩ | ⟨hx, h0⟩
            · subst hMM
              have HX0 := Lib.hid (show 0 < MX by omega)
              by_cases hy : MX ≤ ls
              · obtain ⟨KK, hKK⟩ : ∃ KK, KK = K := ⟨_, rfl⟩
                have hKe : MX = K := by omega
                subst hKe
                have HX1 := Lib.hid (show MX ≤ ls by omega)
                clear hK hKK
                go_wp2_with fail
                refine CT.out.mono ?_
                clear CT
                rintro e w4 ⟨rfl, h4, hk4⟩
                obtain ⟨jD, k4⟩ := JA.out.dev h4 hk4
                have a2' := (World.cell?_of_block (a := ⟨g, 2, none⟩) (k4.2 g rfl)).trans a2
                clear h4 hk4 k4
                go_upto_region 14 with fail
                have ho1 := jD.o1
                rw [List.length_map] at ho1
                have c5 := ho1.cell m _ HGET.out
                have f5 := ho1.frozen m (by have := HML.out; obtain ⟨_, _, e, h1, _⟩ := ho1.slice; injection e with _ _ e3; omega)
                have hmN : m < segs.length := by have := HML.out; omega
                have jF := (JW.set1 (jD.drewN 1) HSI.out m hmN (.string BK)).1
                obtain ⟨WF, hWF⟩ : ∃ WF, WF = (w4.drewN 1).setCell ⟨gs, m, none⟩ (.string BK) := ⟨_, rfl⟩
                rw [← hWF] at jF
                have hWF' : (w4.setCell ⟨gs, m, none⟩ (.string BK)).drew = WF := by rw [hWF]; rfl
                have ho3 := jF.o1
                rw [List.length_set, HSI.out] at ho3
                have c7 := ho3.cell m (.string BK) (by rw [List.getElem?_set_self (by rw [HSI.out]; exact hmN)])
                have ho4 := jF.o2
                rw [HSJ.out] at ho4
                have c8 := ho4.cell m _ HGET2.out
                have f8 := ho4.frozen m (by obtain ⟨_, _, e, h1, _⟩ := ho4.slice; injection e with _ _ e3; omega)
                have jG := (JW.set2 (jF.drewN 1) HSJ.out m hmN (.int .i64 (S9 : Nat))).1
                rw [FIN1.out, FIN2.out] at jG
                have JG := Lib.hid (jG.lessX (X' := fun _ => False) (fun x h => by cases h))
                have HWF := Lib.hid hWF'
                have C7 := Lib.hid c7
                have C8 := Lib.hid c8
                have F8 := Lib.hid f8
                clear ho1 ho3 ho4 jF jD jG hWF hWF' c7 c8 f8
                have hx0 := HX0.out
                have hx1 := HX1.out
                go_still_tail 18, (by kernel_rfl)
                change wpList _ _ _ _ _ w4.drew
                have c5' : w4.drew.cell? ⟨gs, m, none⟩ = _ := c5
                have f5' : w4.drew.frozen? ⟨gs, m, none⟩ = false := f5
                clear c5 f5
                go_upto_region 15 with fail
                rw [HWF.out]
                clear c5' f5' HWF
                have c7 := C7.out
                have c8 := C8.out
                have f8 := F8.out
                clear C7 C8 F8
                rcases Nat.lt_or_ge MX sf with hk | hk
                · have hS := HS9.out
                  have hS9e : MX = S9 := by omega
                  clear hS
                  subst hS9e
                  go_still_tail 13, (by kernel_rfl)
                  change wpList _ _ _ _ _ WF.drew
                  have c8' : WF.drew.cell? ⟨gi, m, none⟩ = _ := c8
                  have f8' : WF.drew.frozen? ⟨gi, m, none⟩ = false := f8
                  clear c7 c8 f8
                  go_wp2_with fail
                  go_meet
                  exact ⟨_, _, wt, rfl, FDS, JG⟩
                · have hS := HS9.out
                  have hS9e : sf = S9 := by omega
                  clear hS
                  subst hS9e
                  go_still_tail 13, (by kernel_rfl)
                  change wpList _ _ _ _ _ WF.drew
                  have c8' : WF.drew.cell? ⟨gi, m, none⟩ = _ := c8
                  have f8' : WF.drew.frozen? ⟨gi, m, none⟩ = false := f8
                  clear c7 c8 f8
                  go_wp2_with fail
                  go_meet
                  exact ⟨_, _, wt, rfl, FDS, JG⟩
              · by_cases hz : ls = 0
                · have hKe : K = 0 := by omega
                  have hs0 : sf = 0 := by omega
                  subst hz hKe hs0
                  have hBE : BK = ByteArray.empty := ByteArray.ext (Array.eq_empty_of_size_eq_zero hbs)
                  subst hBE
                  have HX1 := Lib.hid (show 0 < MX by omega)
                  clear hK
                  go_wp2_with fail
                  refine CT.out.mono ?_
                  clear CT
                  rintro e w4 ⟨rfl, h4, hk4⟩
                  obtain ⟨jD, k4⟩ := JA.out.dev h4 hk4
                  have a2' := (World.cell?_of_block (a := ⟨g, 2, none⟩) (k4.2 g rfl)).trans a2
                  clear h4 hk4 k4
                  go_upto_region 14 with fail
                  have ho1 := jD.o1
                  rw [List.length_map] at ho1
                  have c5 := ho1.cell m _ HGET.out
                  have f5 := ho1.frozen m (by have := HML.out; obtain ⟨_, _, e, h1, _⟩ := ho1.slice; injection e with _ _ e3; omega)
                  have hmN : m < segs.length := by have := HML.out; omega
                  have jF := (JW.set1 (jD.drewN 1) HSI.out m hmN (.string ByteArray.empty)).1
                  obtain ⟨WF, hWF⟩ : ∃ WF, WF = (w4.drewN 1).setCell ⟨gs, m, none⟩ (.string ByteArray.empty) := ⟨_, rfl⟩
                  rw [← hWF] at jF
                  have hWF' : (w4.setCell ⟨gs, m, none⟩ (.string ByteArray.empty)).drew = WF := by rw [hWF]; rfl
                  have ho3 := jF.o1
                  rw [List.length_set, HSI.out] at ho3
                  have c7 := ho3.cell m (.string ByteArray.empty) (by rw [List.getElem?_set_self (by rw [HSI.out]; exact hmN)])
                  have ho4 := jF.o2
                  rw [HSJ.out] at ho4
                  have c8 := ho4.cell m _ HGET2.out
                  have f8 := ho4.frozen m (by obtain ⟨_, _, e, h1, _⟩ := ho4.slice; injection e with _ _ e3; omega)
                  have jG := (JW.set2 (jF.drewN 1) HSJ.out m hmN (.int .i64 (S9 : Nat))).1
                  rw [FIN1.out, FIN2.out] at jG
                  have JG := Lib.hid (jG.lessX (X' := fun _ => False) (fun x h => by cases h))
                  have HWF := Lib.hid hWF'
                  have C7 := Lib.hid c7
                  have C8 := Lib.hid c8
                  have F8 := Lib.hid f8
                  clear ho1 ho3 ho4 jF jD jG hWF hWF' c7 c8 f8
                  have hx0 := HX0.out
                  have hx1 := HX1.out
                  go_still_tail 18, (by kernel_rfl)
                  change wpList _ _ _ _ _ w4.drew
                  have c5' : w4.drew.cell? ⟨gs, m, none⟩ = _ := c5
                  have f5' : w4.drew.frozen? ⟨gs, m, none⟩ = false := f5
                  clear c5 f5
                  go_upto_region 15 with fail
                  rw [HWF.out]
                  clear c5' f5' HWF
                  have c7 := C7.out
                  have c8 := C8.out
                  have f8 := F8.out
                  clear C7 C8 F8
                  have hS := HS9.out
                  have hS9e : 0 = S9 := by omega
                  clear hS
                  subst hS9e
                  go_still_tail 13, (by kernel_rfl)
                  change wpList _ _ _ _ _ WF.drew
                  have c8' : WF.drew.cell? ⟨gi, m, none⟩ = _ := c8
                  have f8' : WF.drew.frozen? ⟨gi, m, none⟩ = false := f8
                  clear c7 c8 f8
                  go_wp2_with fail
                  go_meet
                  exact ⟨_, _, wt, rfl, FDS, JG⟩
                · have hKe : ls = K := by omega
                  have HX1 := Lib.hid (show 0 < ls ∧ ls < MX by omega)
                  subst hKe
                  clear hK hz
                  go_wp2_with fail
                  refine CT.out.mono ?_
                  clear CT
                  rintro e w4 ⟨rfl, h4, hk4⟩
                  obtain ⟨jD, k4⟩ := JA.out.dev h4 hk4
                  have a2' := (World.cell?_of_block (a := ⟨g, 2, none⟩) (k4.2 g rfl)).trans a2
                  clear h4 hk4 k4
                  go_upto_region 14 with fail
                  have ho1 := jD.o1
                  rw [List.length_map] at ho1
                  have c5 := ho1.cell m _ HGET.out
                  have f5 := ho1.frozen m (by have := HML.out; obtain ⟨_, _, e, h1, _⟩ := ho1.slice; injection e with _ _ e3; omega)
                  have hmN : m < segs.length := by have := HML.out; omega
                  have jF := (JW.set1 (jD.drewN 1) HSI.out m hmN (.string BK)).1
                  obtain ⟨WF, hWF⟩ : ∃ WF, WF = (w4.drewN 1).setCell ⟨gs, m, none⟩ (.string BK) := ⟨_, rfl⟩
                  rw [← hWF] at jF
                  have hWF' : (w4.setCell ⟨gs, m, none⟩ (.string BK)).drew = WF := by rw [hWF]; rfl
                  have ho3 := jF.o1
                  rw [List.length_set, HSI.out] at ho3
                  have c7 := ho3.cell m (.string BK) (by rw [List.getElem?_set_self (by rw [HSI.out]; exact hmN)])
                  have ho4 := jF.o2
                  rw [HSJ.out] at ho4
                  have c8 := ho4.cell m _ HGET2.out
                  have f8 := ho4.frozen m (by obtain ⟨_, _, e, h1, _⟩ := ho4.slice; injection e with _ _ e3; omega)
                  have jG := (JW.set2 (jF.drewN 1) HSJ.out m hmN (.int .i64 (S9 : Nat))).1
                  rw [FIN1.out, FIN2.out] at jG
                  have JG := Lib.hid (jG.lessX (X' := fun _ => False) (fun x h => by cases h))
                  have HWF := Lib.hid hWF'
                  have C7 := Lib.hid c7
                  have C8 := Lib.hid c8
                  have F8 := Lib.hid f8
                  clear ho1 ho3 ho4 jF jD jG hWF hWF' c7 c8 f8
                  have hx0 := HX0.out
                  have hx1 := HX1.out
                  go_still_tail 18, (by kernel_rfl)
                  change wpList _ _ _ _ _ w4.drew
                  have c5' : w4.drew.cell? ⟨gs, m, none⟩ = _ := c5
                  have f5' : w4.drew.frozen? ⟨gs, m, none⟩ = false := f5
                  clear c5 f5
                  go_upto_region 15 with fail
                  rw [HWF.out]
                  clear c5' f5' HWF
                  have c7 := C7.out
                  have c8 := C8.out
                  have f8 := F8.out
                  clear C7 C8 F8
                  have hk : sf ≤ ls := by omega
                  have hS := HS9.out
                  have hS9e : sf = S9 := by omega
                  clear hS
                  subst hS9e
                  go_still_tail 13, (by kernel_rfl)
                  change wpList _ _ _ _ _ WF.drew
                  have c8' : WF.drew.cell? ⟨gi, m, none⟩ = _ := c8
                  have f8' : WF.drew.frozen? ⟨gi, m, none⟩ = false := f8
                  clear c7 c8 f8
                  go_wp2_with fail
                  go_meet
                  exact ⟨_, _, wt, rfl, FDS, JG⟩
            · have HX0 := Lib.hid hx
              have HX1 := Lib.hid (show M ≤ (ls : Int) by omega)
              have hKe : K = 0 := by omega
              subst hKe
              have hBE : BK = ByteArray.empty := ByteArray.ext (Array.eq_empty_of_size_eq_zero hbs)
              subst hBE
              clear hx hK h0
              go_wp2_with fail
              refine CT.out.mono ?_
              clear CT
              rintro e w4 ⟨rfl, h4, hk4⟩
              obtain ⟨jD, k4⟩ := JA.out.dev h4 hk4
              have a2' := (World.cell?_of_block (a := ⟨g, 2, none⟩) (k4.2 g rfl)).trans a2
              clear h4 hk4 k4
              go_upto_region 14 with fail
              have ho1 := jD.o1
              rw [List.length_map] at ho1
              have c5 := ho1.cell m _ HGET.out
              have f5 := ho1.frozen m (by have := HML.out; obtain ⟨_, _, e, h1, _⟩ := ho1.slice; injection e with _ _ e3; omega)
              have hmN : m < segs.length := by have := HML.out; omega
              have jF := (JW.set1 (jD.drewN 1) HSI.out m hmN (.string ByteArray.empty)).1
              obtain ⟨WF, hWF⟩ : ∃ WF, WF = (w4.drewN 1).setCell ⟨gs, m, none⟩ (.string ByteArray.empty) := ⟨_, rfl⟩
              rw [← hWF] at jF
              have hWF' : (w4.setCell ⟨gs, m, none⟩ (.string ByteArray.empty)).drew = WF := by rw [hWF]; rfl
              have ho3 := jF.o1
              rw [List.length_set, HSI.out] at ho3
              have c7 := ho3.cell m (.string ByteArray.empty) (by rw [List.getElem?_set_self (by rw [HSI.out]; exact hmN)])
              have ho4 := jF.o2
              rw [HSJ.out] at ho4
              have c8 := ho4.cell m _ HGET2.out
              have f8 := ho4.frozen m (by obtain ⟨_, _, e, h1, _⟩ := ho4.slice; injection e with _ _ e3; omega)
              have jG := (JW.set2 (jF.drewN 1) HSJ.out m hmN (.int .i64 (S9 : Nat))).1
              rw [FIN1.out, FIN2.out] at jG
              have JG := Lib.hid (jG.lessX (X' := fun _ => False) (fun x h => by cases h))
              have HWF := Lib.hid hWF'
              have C7 := Lib.hid c7
              have C8 := Lib.hid c8
              have F8 := Lib.hid f8
              clear ho1 ho3 ho4 jF jD jG hWF hWF' c7 c8 f8
              have hx0 := HX0.out
              have hx1 := HX1.out
              go_still_tail 18, (by kernel_rfl)
              change wpList _ _ _ _ _ w4.drew
              have c5' : w4.drew.cell? ⟨gs, m, none⟩ = _ := c5
              have f5' : w4.drew.frozen? ⟨gs, m, none⟩ = false := f5
              clear c5 f5
              go_upto_region 15 with fail
              rw [HWF.out]
              clear c5' f5' HWF
              have c7 := C7.out
              have c8 := C8.out
              have f8 := F8.out
              clear C7 C8 F8
              rcases Nat.lt_or_ge 0 sf with hk | hk
              · have hS := HS9.out
                have hS9e : 0 = S9 := by omega
                clear hS
                subst hS9e
                go_still_tail 13, (by kernel_rfl)
                change wpList _ _ _ _ _ WF.drew
                have c8' : WF.drew.cell? ⟨gi, m, none⟩ = _ := c8
                have f8' : WF.drew.frozen? ⟨gi, m, none⟩ = false := f8
                clear c7 c8 f8
                go_wp2_with fail
                go_meet
                exact ⟨_, _, wt, rfl, FDS, JG⟩
              · have hs0 : sf = 0 := by omega
                clear hk
                subst hs0
                have hS := HS9.out
                have hS9e : 0 = S9 := by omega
                clear hS
                subst hS9e
                go_still_tail 13, (by kernel_rfl)
                change wpList _ _ _ _ _ WF.drew
                have c8' : WF.drew.cell? ⟨gi, m, none⟩ = _ := c8
                have f8' : WF.drew.frozen? ⟨gi, m, none⟩ = false := f8
                clear c7 c8 f8
                go_wp2_with fail
                go_meet
                exact ⟨_, _, wt, rfl, FDS, JG⟩
      case rest =>
        as_aux_lemma =>
          obtain ⟨segs2, sf2, wt2, rfl, HDS2, HJ2⟩ := hcut
          have hlen2 := HDS2.out.len
          have hwt2 := HDS2.out.wt
          have hsm2 := HDS2.out.sum
          have hsf2 := HDS2.out.sf
          have hls2 := last_le_sum segs2
          have hs0 : (safesN segs2 sf2).sum = sumL segs2 - lastN segs2 + sf2 := safesN_sum segs2 sf2 (fun e => by rw [e] at hsf2; exact Nat.le_zero.1 hsf2)
          have ho1 := HJ2.out.o1
          have ho2 := HJ2.out.o2
          rw [List.length_map] at ho1 ho2
          rw [safesN_len] at ho2
          obtain ⟨A1, c1, rfl, -⟩ := ho1.slice
          obtain ⟨A2, c2, rfl, -⟩ := ho2.slice
          have HO1 := Lib.hid ho1
          have HO2 := Lib.hid ho2
          have HS0 := Lib.hid hs0
          have htake : ∀ r, ((safesN segs2 sf2).take r).sum ≤ 1048576 := fun r => by
            have h1 : (safesN segs2 sf2).sum = ((safesN segs2 sf2).take r).sum + ((safesN segs2 sf2).drop r).sum := by rw [← List.sum_append, List.take_append_drop]
            omega
          have HTK := Lib.hid htake
          clear ho1 ho2 hs0 htake HDS JA HBA HP9
          go_wp2_with fail
          go_loop [12, 13, 177] (fun a x i => ∃ r : Nat, r ≤ segs2.length ∧ i = .int .i64 r ∧ a = .int .i64 (((safesN segs2 sf2).take r).sum : Nat) ∧ x = .int .i64 (lastN (segs2.take r) : Nat)) (fun _ _ i => segs2.length - (intOf i).toNat)
          case atStart => exact ⟨0, Nat.zero_le _, rfl, by simp, by simp [lastN]⟩
          case round =>
            obtain ⟨r, hr, rfl, rfl, rfl⟩ := hrel
            by_cases hlt2 : r < segs2.length
            · have hlt2i : (r : Int) < segs2.length := by omega
              rcases HO1.out.own with ⟨t, t0⟩ | ⟨g1, cap1, t, -⟩
              · omega
              injection t with t1 t2 t3
              subst t1
              rcases HO2.out.own with ⟨t, t0⟩ | ⟨g2, cap2, t, -⟩
              · omega
              injection t with t1 t2 t3
              subst t1
              have hl9 : r < (safesN segs2 sf2).length := by rw [safesN_len]; exact hlt2
              obtain ⟨xr, hxr⟩ : ∃ xr, xr = (safesN segs2 sf2)[r] := ⟨_, rfl⟩
              obtain ⟨RS, hRS⟩ : ∃ RS : ByteArray, RS = ⟨(segs2[r]).toArray⟩ := ⟨_, rfl⟩
              have d1 := HO1.out.cell r (.string RS) (by rw [List.getElem?_map, List.getElem?_eq_getElem hlt2, hRS]; rfl)
              have d2 := HO2.out.cell r (.int .i64 (xr : Nat)) (by rw [List.getElem?_map, List.getElem?_eq_getElem hl9, hxr]; rfl)
              have hn1 : ((safesN segs2 sf2).take (r + 1)).sum = ((safesN segs2 sf2).take r).sum + xr := by rw [List.take_succ_eq_append_getElem hl9, hxr, List.sum_append, List.sum_cons, List.sum_nil, Nat.add_zero]
              have hn2 : lastN (segs2.take (r + 1)) = RS.size := by rw [List.take_succ_eq_append_getElem hlt2, lastN_snoc, hRS, mk_size]
              have hb1 := HTK.out (r + 1)
              rw [hn1] at hb1
              obtain ⟨SR, hSR⟩ : ∃ SR, SR = ((safesN segs2 sf2).take r).sum := ⟨_, rfl⟩
              rw [← hSR] at hb1 ⊢
              have w1' : IntKind.i64.wrap ((SR : Int) + xr) = (SR : Int) + xr := IntWalk.i64_in _ (by omega)
              have w2' : IntKind.i64.wrap ((r : Int) + 1) = (r : Int) + 1 := IntWalk.i64_in _ (by omega)
              have HN1 := Lib.hid hn1
              have HN2 := Lib.hid hn2
              have HSR := Lib.hid hSR
              clear hxr hRS hn1 hn2 hSR hl9
              go_wp2_with fail
              go_round
              case rel => exact ⟨r + 1, by omega, by go_num, by rw [HN1.out, ← HSR.out]; go_num, by rw [HN2.out]⟩
              case measure => simp [intOf]; omega
            · obtain rfl : r = segs2.length := by omega
              have hlt2i : ¬ (segs2.length : Int) < segs2.length := by omega
              rw [List.take_of_length_le (Nat.le_of_eq (safesN_len segs2 sf2)), List.take_of_length_le (Nat.le_refl _)]
              have SG := Lib.hid (segments_any HJ2.out.dv (by omega) (fun s hs => by
                have h1 : s.length ≤ sumL segs2 := by
                  obtain ⟨a, b, e⟩ := List.append_of_mem hs
                  rw [e, sumL_append, show s :: b = [s] ++ b from rfl, sumL_append]; simp [sumL]; omega
                omega))
              obtain ⟨SM, hSM⟩ : ∃ SM, SM = (safesN segs2 sf2).sum := ⟨_, rfl⟩
              obtain ⟨LM, hLM⟩ : ∃ LM, LM = lastN segs2 := ⟨_, rfl⟩
              rw [← hSM, ← hLM]
              have HSM := Lib.hid hSM
              have HLM := Lib.hid hLM
              clear hSM hLM
              have x1 : ((SM : Int) != (SM : Int)) = false := by simp
              have x2 : ((LM : Int) != (LM : Int)) = false := by simp
              have x3 : ((wt2 : Int) != (wt2 : Int)) = false := by simp
              go_wp2_with fail
              refine SG.out.mono ?_
              clear SG
              rintro e w5 ⟨v5, vs5, rfl, hc5⟩
              obtain ⟨j5, -⟩ := HJ2.out.keep hc5.ob.bel
              have o5 := j5.o1
              rw [List.length_map] at o5
              have SY := Lib.hid (same_yes w5 hc5 o5)
              have J5 := Lib.hid j5
              clear hc5 o5 j5
              go_wp2_with fail
              refine SY.out.mono ?_
              clear SY
              rintro e w6 ⟨rfl, hb6⟩
              obtain ⟨j6, -⟩ := J5.out.keep hb6
              have SA := safe_any j6.dv hsf2 (by have := HSL.out (k + 1); omega) (by omega)
              rw [← HS0.out, ← HSM.out] at SA
              have SA := Lib.hid SA
              have J6 := Lib.hid j6
              clear j6 hb6 J5
              go_wp2_with fail
              refine SA.out.mono ?_
              clear SA
              rintro e w7 ⟨rfl, q7, rfl⟩
              have LA := last_any (J6.out.drewN q7).dv
              rw [← HLM.out] at LA
              have LA := Lib.hid LA
              have J7 := Lib.hid (J6.out.drewN q7)
              generalize w6.drewN q7 = w7 at *
              clear J6
              go_wp2_with fail
              refine LA.out.mono ?_
              clear LA
              rintro e w8 ⟨rfl, q8, rfl⟩
              have WR := Lib.hid (writes_any (J7.out.drewN q8).dv)
              have J8 := Lib.hid (J7.out.drewN q8)
              generalize w7.drewN q8 = w8 at *
              clear J7
              go_wp2_with fail
              refine WR.out.mono ?_
              clear WR
              rintro e w9 ⟨rfl, rfl⟩
              go_wp2_with fail
              go_roundw
              case rel => exact ⟨k + 1, by omega, by go_num, segs2, sf2, wt2, rfl, HDS2, J8⟩
              case measure => simp [intOf]; omega
    · obtain rfl : k = n := by omega
      have hlt' : ¬ (k : Int) < k := by omega
      have hbf := Lib.hid hbr
      clear HDS HJW hbr
      go_wp2_with fail
      go_ret
      exact ⟨rfl, hbf.out⟩
end Go.Proofs.Ytidpffgdndjgpaa
