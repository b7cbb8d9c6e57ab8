/- The contract of Labels, May, Count. -/
import Derived.Test.YtkdknfedieeenaaGreatDoorNameA
namespace Go.Proofs.YtkdknfedieeenaaGreatDoor
open Go.RowKit
set_option linter.unusedVariables false

theorem str_info : (Tryz.prog.info? 9).map (fun i => (i.zero, i.size, i.bytes)) = some (some (.string ⟨#[]⟩), 1, 16) := by kernel_rfl

/-- The bytes i and those of what is read behind them. -/
def Read (L : List UInt8) (p : Nat) (pre : List (List UInt8)) : Prop := p ≤ L.length ∧ pre.length ≤ p ∧ parseL L = (parseL (L.drop p)).map (pre ++ ·)
theorem Read.start (L : List UInt8) : Read L 0 [] := ⟨Nat.zero_le _, Nat.le_refl _, by simp⟩
theorem Read.next {L : List UInt8} {p k : Nat} {pre : List (List UInt8)} (h : Read L p pre) (hp : p < L.length) (he : endAt (L.drop p) = some k) : Read L (p + k) (pre ++ [L.extract (p + 1) (p + k)]) := by
  have hk := endAt_pos he
  refine ⟨by have := hk.2.1; simp at this; omega, by simp; have := h.2.1; omega, ?_⟩
  rw [h.2.2, parseL_step L p hp, he]
  simp [Function.comp_def]
theorem Read.bad {L : List UInt8} {p : Nat} {pre : List (List UInt8)} (h : Read L p pre) (hp : p < L.length) (he : endAt (L.drop p) = none) : parseL L = none := by
  rw [h.2.2, parseL_step L p hp, he]; rfl
theorem Read.done {L : List UInt8} {p : Nat} {pre : List (List UInt8)} (h : Read L p pre) (hp : ¬ p < L.length) : parseL L = some pre := by
  rw [h.2.2, List.drop_eq_nil_of_le (by omega), parseL_nil]; simp

def labelsOf (s : ByteArray) : Option (List (List UInt8)) := nameLabels s.data.toList
def labelsL (s : ByteArray) : List (List UInt8) := (labelsOf s).getD []

set_option maxHeartbeats 1600000 in
set_option maxRecDepth 20000 in
theorem labels_any (s : ByteArray) (w : World) (hs : s.size ≤ maxLen) :
    Calls Tryz.prog 78 #[.string s] w fun e w' => ∃ v, e = .returned (.tuple #[v, .bool (labelsOf s).isSome]) ∧ Buf w.heap.size 9 w v (labelsL s).length ((labelsL s).map sv) w' := by
  obtain ⟨i0, hi, hz0, hz1, hz2⟩ := info_parts str_info
  have hlen : s.data.toList.length = s.size := by simp
  unfold maxLen at hs
  by_cases hbig : s.size ≤ 254
  · have hnl : labelsOf s = parseL s.data.toList := by unfold labelsOf nameLabels; rw [if_pos (by omega)]
    have HN := Lib.hid hnl
    have hbig' : ¬ (254 : Int) < s.size := by omega
    clear hnl
    go_enter Tryz.func78, Tryz.ntmps78
    go_wp2_with fail
    go_loopw [4, 5] (fun v i wr => ∃ (p : Nat) (pre : List (List UInt8)), i = .int .i64 p ∧ Hid (Read s.data.toList p pre) ∧ Buf w.heap.size 9 w v pre.length (pre.map sv) wr) (fun _ i _ => s.size - (intOf i).toNat)
    case atStart => exact ⟨0, [], rfl, Lib.hid (Read.start _), Buf.start _ _⟩
    case round =>
      obtain ⟨p, pre, rfl, hr, hb⟩ := hrel
      have hp1 := hr.out.1
      have hp2 := hr.out.2.1
      rw [hlen] at hp1
      by_cases hlt : p < s.size
      · have hlt' : (p : Int) < s.size := by omega
        have hle := fun w => labelEnd_any s p w (by omega) hlt
        cases he : endAt (s.data.toList.drop p) with
        | none =>
          have hv : endVal s.data.toList p = -1 := by simp only [endVal, he]
          have hnone := hr.out.bad (by omega) he
          rw [hv] at hle
          have HL := Lib.hid hle
          have HO := Lib.hid hnone
          clear hle hv he hnone
          go_wp2_with fail
          refine (HL.out _).mono ?_
          rintro e w1 ⟨rfl, rfl⟩
          go_wp2
          go_ret2
          refine ⟨.slice none 0 0, ?_, ?_⟩
          · rw [HN.out, HO.out]; rfl
          · unfold labelsL
            rw [HN.out, HO.out]
            exact Buf.nil _ _ _ hb.below hb.2.2
        | some k =>
          have hk := endAt_pos he
          have hv : endVal s.data.toList p = ((p + k : Nat) : Int) := by simp only [endVal, he]
          have hnext := hr.out.next (by omega) he
          have hn1 := hnext.1
          rw [hlen] at hn1
          rw [hv] at hle
          have HL := Lib.hid hle
          have HO := Lib.hid hnext
          clear hle hv he hnext
          have q0 : ¬ ((p + k : Nat) : Int) < 0 := by omega
          have q1 : ((p : Int) + 1) ≤ ((p + k : Nat) : Int) := by omega
          have q2 : ((p + k : Nat) : Int) ≤ s.size := by omega
          go_wp2_with fail
          refine (HL.out _).mono ?_
          rintro e w1 ⟨rfl, rfl⟩
          go_wp2_with (at_builtin; refine wpList_append_one rfl _ _ 63 rfl w.heap.size 9 i0 _ 16 Tryz.underlying63 hi hz0 hz1 hz2 rfl hb rfl rfl rfl ?c1 ?c2 ?_)
          case c1 => unfold maxLen; omega
          case c2 => omega
          intro v' w2 hb2
          go_wp2
          go_roundw
          case rel => exact ⟨p + k, pre ++ [s.data.toList.extract (p + 1) (p + k)], by go_num, HO, by simpa [ba_extract] using hb2⟩
          case measure => simp [intOf]; omega
      · have hdone := hr.out.done (by omega)
        have HO := Lib.hid hdone
        have hlt' : ¬ (p : Int) < s.size := by omega
        clear hdone
        go_wp2
        go_ret2
        have hL : labelsL s = pre := by unfold labelsL; rw [HN.out, HO.out]; rfl
        rw [hL, HN.out, HO.out]
        exact ⟨_, rfl, hb⟩
  · have hbig' : (254 : Int) < s.size := by omega
    have HO : labelsOf s = none := by unfold labelsOf nameLabels; rw [if_neg (by omega)]
    have hL : labelsL s = [] := by unfold labelsL; rw [HO]; rfl
    rw [hL, HO]
    clear hL HO
    go_enter Tryz.func78, Tryz.ntmps78
    go_wp2
    go_ret2
    exact ⟨_, rfl, Buf.start _ _⟩

theorem may_any (s : ByteArray) (w : World) (hs : s.size ≤ maxLen) :
    Calls Tryz.prog 42 #[.string s] w fun e w' => e = .returned (.bool (labelsOf s).isSome) ∧ Below w.heap.size w w' := by
  go_enter Tryz.func42, Tryz.ntmps42
  go_wp2_with (go_at_call 78; refine (labels_any s _ hs).mono ?_; rintro e w1 ⟨v, rfl, hb⟩)
  go_ret
  exact ⟨rfl, hb.below⟩
theorem count_any (s : ByteArray) (w : World) (hs : s.size ≤ maxLen) :
    Calls Tryz.prog 122 #[.string s] w fun e w' => e = .returned (.int .i64 ((labelsL s).length : Int)) ∧ Below w.heap.size w w' := by
  go_enter Tryz.func122, Tryz.ntmps122
  go_wp2_with (go_at_call 78; refine (labels_any s _ hs).mono ?_; rintro e w1 ⟨v, rfl, hb⟩; obtain ⟨A, c, rfl, hc⟩ := hb.slice)
  go_ret
  exact ⟨rfl, hb.below⟩
end Go.Proofs.YtkdknfedieeenaaGreatDoor
