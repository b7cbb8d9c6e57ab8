/- The contract of frame.All, by own slices. -/
import Derived.Test.YtidpffgdndjgpaaDoorFrameN
import Derived.Test.YtidpffgdndjgpaaDoorAhead
import Derived.Test.YtidpffgdndjgpaaDoorDevD
namespace Go.Proofs.YtidpffgdndjgpaaDoor
open Go.RowKit
set_option linter.unusedVariables false
set_option linter.unusedSimpArgs false
set_option maxRecDepth 20000
/-- What frame.All tells. -/
def Frm (l : List UInt8) (p : Nat) (xs : List (List UInt8)) : Prop := Ahead l p xs ∧ firstL (l.drop p) = none
def IsAll (B0 : Nat) (W0 : World) (l : List UInt8) (e : Ending) (w : World) : Prop := ∃ v xs p vs, e = .returned (.tuple #[v, .int .i64 ((p : Nat) : Int)]) ∧ Cp B0 W0 xs v vs w ∧ Frm l p xs
theorem Cp.drewN {B0 : Nat} {W0 w : World} {ss : List (List UInt8)} {v : Value} {vals : List Value} (h : Cp B0 W0 ss v vals w) (k : Nat) : Cp B0 W0 ss v vals (w.drewN k) := h.keep (below_drewN (Below.refl _ _) k)
theorem Sl.part' {w : World} {B n a m b off : Nat} {l : List UInt8} (h : Sl w B 1 (some ⟨b, off, none⟩) n (l.map bv)) (hm : a + m ≤ n) : Sl w B 1 (some ⟨b, off + a, none⟩) m (((l.drop a).take m).map bv) := h.part hm
theorem flat_many : ∀ (xs : List (List UInt8)), xs.length * 6 ≤ (xs.flatMap frameL).length
  | [] => by simp
  | y :: ys => by have := flat_many ys; simp only [List.flatMap_cons, List.length_append, frameL_length, List.length_cons]; omega
theorem ahead_many {l : List UInt8} {p : Nat} {xs : List (List UInt8)} (h : Ahead l p xs) : xs.length * 6 ≤ l.length := by
  have h1 := flat_many xs
  have h2 := congrArg List.length h.2.1
  rw [List.length_append] at h2
  omega
set_option maxHeartbeats 1600000 in
theorem all_gen (A : Option Addr) (n c : Nat) (l : List UInt8) (w : World) (hS : Sl w w.heap.size 1 A n (l.map bv)) (hA0 : A = none → n = 0 ∧ c = 0) (hn : n ≤ c) (hN : n ≤ 140737488355328) (hX : ∀ p xs, Ahead l p xs → xs.length ≤ 4194304) :
    Calls Tryd.prog 19 #[.slice A n c] w (IsAll w.heap.size w l) := by
  have hl : l.length = n := by simpa using hS.1
  obtain ⟨i0, hi, hz0, hz1, hz2⟩ := info_parts seg_info
  by_cases h0 : n = 0
  · subst h0
    obtain rfl : l = [] := List.eq_nil_of_length_eq_zero hl
    refine (all_none A 0 c [] w hS hA0 (Nat.zero_le _) (by omega) (by decide +kernel)).mono ?_
    rintro e w' ⟨rfl, k, rfl⟩
    exact ⟨_, [], 0, [], rfl, (Cp.start w).drewN k, Ahead.start [], by decide +kernel⟩
  obtain ⟨b, off, e, hb, -⟩ := hS.2 (by omega)
  subst e
  have HL := Lib.hid hl
  have HX := Lib.hid hX
  have hst : Hid (Cp w.heap.size w [] (.slice none 0 0) [] w) := Lib.hid (Cp.start w)
  clear hA0 hl hX
  go_enter Tryd.func19, Tryd.ntmps19
  go_wp2_with fail
  go_loopw [4, 5] (fun v i wr => ∃ (p : Nat) (xs : List (List UInt8)) (vs : List Value), i = .int .i64 p ∧ Hid (Ahead l p xs) ∧ p ≤ n ∧ xs.length * 6 ≤ p ∧ Hid (Cp w.heap.size w xs v vs wr)) (fun _ i _ => n - (intOf i).toNat)
  case atStart => exact ⟨0, [], [], rfl, Lib.hid (Ahead.start l), Nat.zero_le _, by simp, hst⟩
  case round =>
    obtain ⟨p, xs, vs, rfl, hah, hp, hx6, hcp⟩ := hrel
    have hbel := hcp.out.ob.bel
    have hbas := hcp.out.ob.base
    have hpi : (p : Int) ≤ n := by omega
    have hpc : (p : Int) ≤ c := by omega
    have hp0 : (0 : Int) ≤ p := by omega
    obtain ⟨n', hn'⟩ : ∃ n', n' = n - p := ⟨_, rfl⟩
    obtain ⟨c', hc'⟩ : ∃ c', c' = c - p := ⟨_, rfl⟩
    have ens : ((n : Int) - p).toNat = n' := by omega
    have ecs : ((c : Int) - p).toNat = c' := by omega
    have hSp : Sl wr wr.heap.size 1 (some ⟨b, off + p, none⟩) n' ((l.drop p).map bv) := by
      have := (hS.part (a := p) (m := n') (by omega)).below hbel
      rw [List.take_of_length_le (by simp [HL.out]; omega)] at this
      exact this.more hbas
    have hSq : ∀ ad, n' = 0 → Sl wr wr.heap.size 1 ad n' ((l.drop p).map bv) := fun ad h => by
      rw [List.drop_eq_nil_of_le (by rw [HL.out]; omega), h]; exact Sl.nil _ _ _ _
    cases hf : firstL (l.drop p) with
    | none =>
      have HF := Lib.hid hf
      by_cases hcpp : c = p
      · have F1 := Lib.hid ((first_any (some ⟨b, off, none⟩) 0 0 (l.drop p) wr (by have := hSq (some ⟨b, off, none⟩) (by omega); rwa [show n' = 0 by omega] at this) (fun h => by cases h) (by omega) (by omega)).1 hf)
        subst hcpp
        clear hf hSp hSq hn' hc' hbel hbas
        go_wp2_with fail
        refine F1.out.mono ?_
        rintro e w1 ⟨rfl, k1, rfl⟩
        go_wp2_with fail
        go_ret2
        exact ⟨_, xs, _, vs, rfl, hcp.out.drewN k1, hah.out, HF.out⟩
      · have F1 := Lib.hid ((first_any (some ⟨b, off + p, none⟩) (n - p) (c - p) (l.drop p) wr (hn' ▸ hSp) (fun h => by cases h) (by omega) (by omega)).1 hf)
        have hcp2 : ¬ p = c := fun h => hcpp h.symm
        clear hf hSp hSq hn' hc' hbel hbas
        go_wp2_with fail
        refine F1.out.mono ?_
        rintro e w1 ⟨rfl, k1, rfl⟩
        go_wp2_with fail
        go_ret2
        exact ⟨_, xs, _, vs, rfl, hcp.out.drewN k1, hah.out, HF.out⟩
    | some m =>
      obtain ⟨hpm, hnx⟩ := hah.out.next hf
      rw [HL.out] at hpm
      have HN := Lib.hid hnx
      have F1 := Lib.hid ((first_any (some ⟨b, off + p, none⟩) (n - p) (c - p) (l.drop p) wr (hn' ▸ hSp) (fun h => by cases h) (by omega) (by omega)).2 m hf)
      have hcpp : ¬ c = p := by omega
      have hcp2 : ¬ p = c := by omega
      have hm600 := (firstL_some hf).1
      have e1 : IntKind.i64.wrap ((p : Int) + 4) = (p : Int) + 4 := IntWalk.i64_in _ (by omega)
      have e2 : IntKind.i64.wrap ((p : Int) + 4 + m) = (p : Int) + 4 + m := IntWalk.i64_in _ (by omega)
      have e3 : ((p : Int) + 4).toNat = p + 4 := by omega
      have e4 : ((p : Int) + 4 + m).toNat = p + 4 + m := by omega
      have hcq : ¬ c = p + 4 := by omega
      have hcq2 : ¬ p + 4 = c := by omega
      have g1 : (0 : Int) ≤ (p : Int) + 4 := by omega
      have g2 : (p : Int) + 4 ≤ (p : Int) + 4 + m := by omega
      have g3 : (p : Int) + 4 + m ≤ c := by omega
      have hSm : Sl wr wr.heap.size 1 (some ⟨b, off + (p + 4), none⟩) m (((l.drop (p + 4)).take m).map bv) := ((hS.part (a := p + 4) (m := m) (by omega)).below hbel).more hbas
      obtain ⟨Ao, co, rfl, -⟩ := hcp.out.ob.slice
      have HXL := HX.out _ _ hah.out
      clear hf hSp hSq hn' hc' hnx hbel hbas
      go_wp2_with fail
      refine F1.out.mono ?_
      rintro e w1 ⟨rfl, k1, rfl⟩
      have hcp1 := Lib.hid (hcp.out.drewN k1)
      have hSm1 : Sl (wr.drewN k1) (wr.drewN k1).heap.size 1 (some ⟨b, off + (p + 4), none⟩) m (((l.drop (p + 4)).take m).map bv) := hSm.drewN k1
      generalize hw1 : wr.drewN k1 = w1 at *
      clear hw1 hSm F1 hcp
      go_wp2_with fail
      obtain ⟨lk, hlk⟩ : ∃ lk, lk = (l.drop (p + 4)).take m := ⟨_, rfl⟩
      rw [← hlk] at hSm1
      have hlkm : lk.length = m := by simpa using hSm1.1
      have HLK := Lib.hid hlk
      have HLM := Lib.hid hlkm
      clear hlk hlkm
      refine (clone_ob (some ⟨b, off + (p + 4), none⟩) m (c - (p + 4)) lk w1 _ hSm1 (fun h => by cases h) (by omega)).mono ?_
      rintro e w2 ⟨v2, rfl, hv⟩
      obtain ⟨Av, cv, rfl, -⟩ := hv.slice
      have hb2 := hv.bel
      have hcp2' := Lib.hid (hcp1.out.keep hb2)
      have hv2 : OB w.heap.size w (.slice Av m cv) m (lk.map bv) w2 := hv.out hcp1.out.ob.base hcp1.out.ob.bel
      have hnew := hcp2'.out.ob.alloc (.cells #[.slice Av m cv] 32)
      have hsrc := Src.ofSlice (P := Tryd.prog) (size := 1) (w2.alloc (.cells #[.slice Av m cv] 32)) Tryd.underlying27 ⟨w2.heap.size, 0, none⟩ 1 1 [.slice Av m cv] rfl (news_at w2 #[.slice Av m cv] 32) (by intro u hu; simp at hu; subst hu; rfl)
      have HV := Lib.hid hv
      have HV2 := Lib.hid hv2
      clear hv hb2 hv2 hSm1
      go_wp2_with (at_builtin; go_loud (refine wpList_append_ob rfl _ _ 27 27 rfl 32 i0 _ 24 Tryd.underlying27 hi hz0 hz1 hz2 rfl hnew rfl rfl hsrc (by unfold maxLen; omega) (by omega) ?_))
      intro v' w' o1 o2 o3 o4
      have hz : (w2.alloc (.cells #[.slice Av m cv] 32)).heap.size = w2.heap.size + 1 := by simp
      rw [← hz] at o2 o3 o4
      have hba := (Below.refl w2.heap.size w2).alloc (Nat.le_refl _) (.cells #[.slice Av m cv] 32)
      have hcp3 := hcp2'.out.keep hba
      have hv3 : OB w.heap.size w (.slice Av m cv) lk.length (lk.map bv) (w2.alloc (.cells #[.slice Av m cv] 32)) := by rw [HLM.out]; exact HV2.out.keep hba (Nat.le_refl _)
      have hfin := hcp3.snoc hv3 (fun q q1 q2 => by have r1 := (HV.out.lt q q1).1; have r2 := (hcp1.out.ob.lt q q2).2; omega) o1 o2 o3 o4
      rw [HLK.out] at hfin
      have HF := Lib.hid hfin
      clear hfin hcp3 hv3 hba o1 o2 o3 o4 hz hsrc hnew
      have e5 : IntKind.i64.wrap (4 + (m : Int)) = 4 + (m : Int) := IntWalk.i64_in _ (by omega)
      have e6 : IntKind.i64.wrap (4 + (m : Int) + 2) = 4 + (m : Int) + 2 := IntWalk.i64_in _ (by omega)
      have e7 : IntKind.i64.wrap ((p : Int) + (4 + (m : Int) + 2)) = (p : Int) + (4 + (m : Int) + 2) := IntWalk.i64_in _ (by omega)
      go_wp2_with fail
      go_roundw
      case rel => exact ⟨p + m + 6, _, _, by go_num, HN, by omega, by simp; omega, HF⟩
      case measure => simp [intOf]; omega
theorem all_cp (A : Option Addr) (n c : Nat) (l : List UInt8) (w : World) (hS : Sl w w.heap.size 1 A n (l.map bv)) (hA0 : A = none → n = 0 ∧ c = 0) (hn : n ≤ c) (hN : n ≤ 4194304) :
    Calls Tryd.prog 19 #[.slice A n c] w (IsAll w.heap.size w l) :=
  all_gen A n c l w hS hA0 hn (by omega) (fun p xs h => by
    have h1 := ahead_many h
    have h2 : l.length = n := by simpa using hS.1
    omega)
end Go.Proofs.YtidpffgdndjgpaaDoor
