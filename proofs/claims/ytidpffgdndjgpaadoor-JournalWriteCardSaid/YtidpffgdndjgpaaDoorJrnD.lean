/- The contract of journal.Write; the document's example of layer 24. -/
import Derived.Test.YtidpffgdndjgpaaDoorJrnC
namespace Go.Proofs.YtidpffgdndjgpaaDoor
open Go.RowKit
set_option linter.unusedVariables false
set_option linter.unusedSimpArgs false
set_option maxRecDepth 20000
section
variable {F : Nat → Prop} {B : Nat} {W : World} {d j : Nat} {segs : List (List UInt8)} {safe writes : Nat} {w w' : World}
/-- What a write makes of the segments: a frame behind the last one's, or in a new segment. -/
def wrS (segs : List (List UInt8)) (l : List UInt8) : List (List UInt8) := if 0 < lastN segs ∧ 2048 < lastN segs + (l.length + 6) then appS (segs ++ [[]]) (frameL l) else appS segs (frameL l)
def wrSafe (segs : List (List UInt8)) (safe : Nat) (l : List UInt8) : Nat := if 0 < lastN segs ∧ 2048 < lastN segs + (l.length + 6) then 0 else if segs = [] then 0 else safe
set_option maxHeartbeats 3200000 in
theorem write_yes (A : Option Addr) (n c : Nat) (l : List UInt8) (hS : Sl w w.heap.size 1 A n (l.map bv)) (hA0 : A = none → n = 0) (hn : n ≤ 600) (h : DevE F B W d segs safe writes w) (hj : Jn2 F d j w) (hlen : lastN segs ≤ 4194304) (hsegs : segs.length ≤ 5000000000000) (hw : writes ≤ 4611686018427387904) :
    Calls Tryd.prog 7 #[.pointer (some ⟨j, 0, none⟩), .slice A n c] w fun e w' => e = .returned .nilIface ∧ DevE F B W d (wrS segs l) (wrSafe segs safe l) (writes + 1) w' ∧ Keep F w w' := by
  have hl : l.length = n := by simpa using hS.1
  have MK := Lib.hid (make_yes A n c l w hS hA0 hn)
  have HL := Lib.hid hl
  have H := Lib.hid h
  have HJ := Lib.hid hj
  obtain ⟨L, hL⟩ : ∃ L, L = lastN segs := ⟨_, rfl⟩
  rw [← hL] at hlen
  have HLL := Lib.hid hL
  clear hl h hj hL hS hA0
  go_enter Tryd.func7, Tryd.ntmps7
  go_wp2_with fail
  refine MK.out.mono ?_
  clear MK
  rintro e w1 ⟨g, rfl, hown, hb1⟩
  have hob : OB w.heap.size w (.slice (some ⟨g, 0, none⟩) (n + 6) (n + 6)) (n + 6) ((frameL l).map bv) w1 := OB.of_own hown hb1 hb1.size
  have hlt := hob.lt g rfl
  have hsl := hob.sl
  have h1 : DevE (fun k => F k ∨ (w.heap.size ≤ k ∧ k < w1.heap.size)) B W d segs safe writes w1 := H.out.wide hb1 (fun k hk => hk)
  have hk1 : Keep F w w1 := Keep.below H.out.fl hb1
  have hj1 : Jn2 (fun k => F k ∨ (w.heap.size ≤ k ∧ k < w1.heap.size)) d j w1 := ⟨(HJ.out.keep hk1).1, .inl HJ.out.2⟩
  generalize hFF : (fun k => F k ∨ (w.heap.size ≤ k ∧ k < w1.heap.size)) = FF at *
  have hFg : FF g := by rw [← hFF]; exact .inr hlt
  have hFsub : ∀ k, F k → FF k := by rw [← hFF]; exact fun k hk => .inl hk
  have H1 := Lib.hid h1
  have HJ1 := Lib.hid hj1
  have HK1 := Lib.hid hk1
  have c0 := hj1.1.get 0 _
  have q0 := hj1.1.lt
  have LA := last_any h1
  rw [← HLL.out] at LA
  have LA := Lib.hid LA
  have HSL := Lib.hid hsl
  have HSUB := Lib.hid hFsub
  clear hown hb1 hob hlt hsl h1 hj1 hk1 H HJ hFF hFsub
  go_wp2_with fail
  refine LA.out.mono ?_
  clear LA
  rintro e w2 ⟨rfl, k2, rfl⟩
  have h2 := H1.out.drewN k2
  have hk2 := Lib.hid (HK1.out.trans (Keep.drewN F w1 k2))
  have hj2 := Lib.hid (HJ1.out.keep (Keep.drewN FF w1 k2))
  have hs2 := Lib.hid (HSL.out.drewN k2)
  have H2 := Lib.hid h2
  generalize hw2 : w1.drewN k2 = w2 at *
  clear hw2 h2 H1 HK1 HJ1 HSL c0 q0
  have go : ∀ (S2 : List (List UInt8)) (sf2 : Nat) (w3 : World), DevE FF B W d S2 sf2 writes w3 → Keep FF w2 w3 → lastN S2 ≤ 4194304 → S2.length ≤ 5000000000001 → 
      Calls Tryd.prog 17 #[.pointer (some ⟨d, 0, none⟩), .slice (some ⟨g, 0, none⟩) (n + 6) (n + 6)] w3 fun e w' => e = .returned (.tuple #[]) ∧ DevE F B W d (appS S2 (frameL l)) (if S2 = [] then 0 else sf2) (writes + 1) w' ∧ Keep F w w' := by
    intro S2 sf2 w3 hd3 hk3 hl3 hn3
    refine (append_any (some ⟨g, 0, none⟩) (n + 6) (n + 6) _ (frameL l) (hk3.sl hs2.out (fun a e _ => by injection e with e; rw [← e]; exact hFg)) (fun e => by cases e) (fun a e _ => by injection e with e; rw [← e]; exact hFg) hd3 (by omega) (by omega) hw).mono ?_
    rintro e w' ⟨q1, q2, q3⟩
    exact ⟨q1, q2.less HSUB.out, (hk2.out.trans ⟨hk3.1, fun k hk => hk3.2 k (HSUB.out k hk)⟩).trans ⟨q3.1, fun k hk => q3.2 k (HSUB.out k hk)⟩⟩
  have GO := Lib.hid go
  clear go
  have c2 := hj2.out.1.get 0 _
  have q2 := hj2.out.1.lt
  by_cases hL0 : 0 < L
  · have LA2 := last_any H2.out
    rw [← HLL.out] at LA2
    have LA2 := Lib.hid LA2
    have hL0' : (0 : Int) < L := by omega
    by_cases hbig : 2048 < L + (n + 6)
    · have hw1 : IntKind.i64.wrap ((L : Int) + ((n : Int) + 6)) = (L : Int) + ((n : Int) + 6) := IntWalk.i64_in _ (by omega)
      have hbig' : (2048 : Int) < (L : Int) + ((n : Int) + 6) := by omega
      have hpost : wrS segs l = appS (segs ++ [[]]) (frameL l) ∧ wrSafe segs safe l = 0 := by
        unfold wrS wrSafe
        rw [← HLL.out, HL.out, if_pos ⟨hL0, hbig⟩, if_pos ⟨hL0, hbig⟩]
        exact ⟨rfl, rfl⟩
      have HP := Lib.hid hpost
      clear hpost hbig hL0
      go_wp2_with fail
      refine LA2.out.mono ?_
      clear LA2
      rintro e w3 ⟨rfl, k3, rfl⟩
      have h3 := H2.out.drewN k3
      have hk3 := Keep.drewN FF w2 k3
      have hj3 := hj2.out.keep hk3
      have c3 := hj3.1.get 0 _
      have q3 := hj3.1.lt
      generalize w2.drewN k3 = w3 at *
      have BG := Lib.hid (begin_any h3 (by omega))
      have HK3 := Lib.hid hk3
      have HJ3 := Lib.hid hj3
      clear h3 hk3 hj3 c2 q2
      go_wp2_with fail
      refine BG.out.mono ?_
      clear BG
      rintro e w4 ⟨rfl, h4, hk4⟩
      have hj4 := HJ3.out.keep hk4
      have c4 := hj4.1.get 0 _
      have q4 := hj4.1.lt
      have AP := Lib.hid (GO.out _ _ _ h4 (HK3.out.trans hk4) (by rw [lastN_snoc]; simp) (by simp; omega))
      clear h4 hk4 hj4 c3 q3
      go_wp2_with fail
      refine AP.out.mono ?_
      clear AP
      rintro e w5 ⟨rfl, h5, hk5⟩
      rw [if_neg (by simp)] at h5
      have H5 := Lib.hid h5
      have HK5 := Lib.hid hk5
      clear h5 hk5 c4 q4
      go_wp2_with fail
      go_ret
      rw [HP.out.1, HP.out.2]
      exact ⟨rfl, H5.out, HK5.out⟩
    · have hw1 : IntKind.i64.wrap ((L : Int) + ((n : Int) + 6)) = (L : Int) + ((n : Int) + 6) := IntWalk.i64_in _ (by omega)
      have hbig' : ¬ (2048 : Int) < (L : Int) + ((n : Int) + 6) := by omega
      have hpost : wrS segs l = appS segs (frameL l) ∧ wrSafe segs safe l = if segs = [] then 0 else safe := by
        unfold wrS wrSafe
        rw [← HLL.out, HL.out, if_neg (fun h => hbig h.2), if_neg (fun h => hbig h.2)]
        exact ⟨rfl, rfl⟩
      have HP := Lib.hid hpost
      clear hpost hbig hL0
      go_wp2_with fail
      refine LA2.out.mono ?_
      clear LA2
      rintro e w3 ⟨rfl, k3, rfl⟩
      have h3 := H2.out.drewN k3
      have hk3 := Keep.drewN FF w2 k3
      have hj3 := hj2.out.keep hk3
      have c3 := hj3.1.get 0 _
      have q3 := hj3.1.lt
      generalize w2.drewN k3 = w3 at *
      have AP := Lib.hid (GO.out _ _ _ h3 hk3 (by rw [← HLL.out]; exact hlen) (by omega))
      clear h3 hk3 hj3 c2 q2
      go_wp2_with fail
      refine AP.out.mono ?_
      clear AP
      rintro e w5 ⟨rfl, h5, hk5⟩
      have H5 := Lib.hid h5
      have HK5 := Lib.hid hk5
      clear h5 hk5 c3 q3
      go_wp2_with fail
      go_ret
      rw [HP.out.1, HP.out.2]
      exact ⟨rfl, H5.out, HK5.out⟩
  · have hL0' : ¬ (0 : Int) < L := by omega
    have hpost : wrS segs l = appS segs (frameL l) ∧ wrSafe segs safe l = if segs = [] then 0 else safe := by
      unfold wrS wrSafe
      rw [← HLL.out, if_neg (fun h => hL0 h.1), if_neg (fun h => hL0 h.1)]
      exact ⟨rfl, rfl⟩
    have HP := Lib.hid hpost
    have AP := Lib.hid (GO.out _ _ _ H2.out (Keep.refl _ _) (by rw [← HLL.out]; exact hlen) (by omega))
    clear hpost hL0
    go_wp2_with fail
    refine AP.out.mono ?_
    clear AP
    rintro e w5 ⟨rfl, h5, hk5⟩
    have H5 := Lib.hid h5
    have HK5 := Lib.hid hk5
    clear h5 hk5 c2 q2
    go_wp2_with fail
    go_ret
    rw [HP.out.1, HP.out.2]
    exact ⟨rfl, H5.out, HK5.out⟩
end
end Go.Proofs.YtidpffgdndjgpaaDoor
