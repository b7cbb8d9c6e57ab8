/- The walk of PointCut. -/
import Derived.Test.YtdekaaclheoapaaPtS
import Derived.Test.YtdekaaclheoapaaLawSoaT
namespace Go.Proofs.Ytdekaaclheoapaa
open Go.RowKit
set_option linter.unusedVariables false
set_option maxRecDepth 20000
set_option maxHeartbeats 3200000 in
theorem pointCut_walk (w : World) (s : ByteArray) (hs : s.size ≤ 140737488351232) (A : Option Addr) (n c : Nat) (zs : List Int) (hV : SlView w A n c (zs.map (Value.int .u8))) (hl : zs.length = n) (hzw : ∀ z ∈ zs, (Lit.int .u8 z).wf = true) (hc : c ≤ 140737488351232)
    (t : ByteArray) (ht : t.size ≤ 140737488351232) :
    Calls Try.prog 10 #[.string s, .slice A n c, .string t] w fun e w' => e = .returned (.bool true) ∧ Below w.heap.size w w' := by
  have hz : ∀ z ∈ zs, 0 ≤ z ∧ z < 256 := fun z h => by have := bounds_u8 (hzw z h); omega
  have hA : Sl w w.heap.size 1 A n (zs.map (Value.int .u8)) := hV.sl
  have hnc := hV.le
  have NA := Lib.hid (fun (w' : World) (h : Sl w' w'.heap.size 1 A n (zs.map (Value.int .u8))) => name_any A n c zs w' h hz (by unfold maxLen; omega))
  have mN := nameZ_may zs hz
  have lN := nameZ_len zs hz
  generalize nameZ zs = X at *
  obtain ⟨N, hN⟩ : ∃ N, N = ByteArray.mk X.toArray := ⟨_, rfl⟩
  have nX : N.data.toList = X := by rw [hN, mk_toList]
  have sN : N.size ≤ 84 := by rw [hN, mk_size]; exact lN
  unfold sv at NA
  rw [← hN] at NA
  have PL := fun w => plain_any N w (by omega)
  rw [nX] at PL
  obtain ⟨P, hP⟩ : ∃ P, P = ByteArray.mk (X ++ [0]).toArray := ⟨_, rfl⟩
  have nP : P.data.toList = X ++ [0] := by rw [hP, mk_toList]
  have sP : P.size ≤ 85 := by rw [hP, mk_size]; simp; omega
  unfold sv at PL
  rw [← hP] at PL
  have hJ : IsCut (P ++ t).data.toList X t.data.toList := ⟨mN, by simp [nP]⟩
  have CT := Lib.hid (fun w => cutp_any (P ++ t) w (by rw [ByteArray.size_append]; omega))
  have CS := Lib.hid (fun w => cutp_any s w (by omega))
  have hPN : (P.toList == (N ++ ⟨#[0]⟩).toList) = true := str_same _ _ (by simp [nP, nX])
  have q1 : ¬ 9223372036854775807 < P.size + t.size := by omega
  have q2 : ¬ 9223372036854775807 < N.size + 1 := by omega
  have HJ := Lib.hid hJ
  have HX : Hid (Value.string N = sv X) := Lib.hid (by rw [hN]; rfl)
  have PL := Lib.hid PL
  clear hz hzw hV hl mN lN hN nX hP nP hJ sN sP
  go_enter Try.func10, Try.ntmps10
  go_wp2_with fail
  refine (awake03 _).mono ?_
  rintro e w1 ⟨rfl, hb1⟩
  go_wp2_with fail
  refine (NA.out _ ((hA.below hb1).more hb1.size)).mono ?_
  rintro e w2 ⟨rfl, hb2'⟩
  have hb2 := below_trans hb1 hb1.size hb2'
  clear hb1 hb2'
  go_wp2_with fail
  refine (PL.out _).mono ?_
  rintro e w3 ⟨rfl, rfl⟩
  go_wp2_with fail
  refine (CT.out _).mono ?_
  rintro e w3 ⟨hb3', ⟨n', t', hc', rfl⟩ | ⟨hno, -⟩⟩
  rotate_left
  · exact absurd HJ.out (hno _ _)
  obtain ⟨rfl, rfl⟩ := At.one HJ.out hc'
  rw [← HX.out, sv_bytes]
  have hb3 := below_trans hb2 hb2.size hb3'
  clear hb2 hb3' hc'
  go_wp2_with fail
  refine (PL.out _).mono ?_
  rintro e w4 ⟨rfl, rfl⟩
  go_wp2_with fail
  clear hPN q1 q2
  refine (CS.out _).mono ?_
  rintro e w4 ⟨hb4', ⟨n', t', hc', rfl⟩ | ⟨hno, rfl⟩⟩
  · have hb4 := below_trans hb3 hb3.size hb4'
    have hsz := congrArg List.length hc'.2
    simp at hsz
    obtain ⟨B1, hB1⟩ : ∃ B1, B1 = ByteArray.mk n'.toArray := ⟨_, rfl⟩
    obtain ⟨M, hM⟩ : ∃ M, M = ByteArray.mk t'.toArray := ⟨_, rfl⟩
    have nB : B1.data.toList = n' := by rw [hB1, mk_toList]
    have nM : M.data.toList = t' := by rw [hM, mk_toList]
    have sB : B1.size = n'.length := by rw [hB1, mk_size]
    have sM : M.size = t'.length := by rw [hM, mk_size]
    have MB := fun w => may_any B1 w (by unfold maxLen; omega)
    rw [show (labelsOf B1).isSome = true from (may_mayL B1).2 (by rw [nB]; exact hc'.1)] at MB
    have PB := fun w => plain_any B1 w (by omega)
    rw [nB] at PB
    obtain ⟨R, hR⟩ : ∃ R, R = ByteArray.mk (n' ++ [0]).toArray := ⟨_, rfl⟩
    have nR : R.data.toList = n' ++ [0] := by rw [hR, mk_toList]
    have sR : R.size = n'.length + 1 := by rw [hR, mk_size]; simp
    unfold sv at PB ⊢
    rw [← hR] at PB
    rw [← hB1, ← hM]
    have heq : ((R ++ M).toList == s.toList) = true := str_same _ _ (by rw [hc'.2]; simp [nR, nM])
    have q1 : ¬ 9223372036854775807 < R.size + M.size := by omega
    have MB := Lib.hid MB
    have PB := Lib.hid PB
    clear hsz nB nM sB sM nR sR hB1 hM hR hc' hb3 hb4'
    go_wp2_with fail
    refine (MB.out _).mono ?_
    rintro e w5 ⟨rfl, hb5'⟩
    have hb5 := below_trans hb4 hb4.size hb5'
    go_wp2_with fail
    refine (PB.out _).mono ?_
    rintro e w6 ⟨rfl, rfl⟩
    go_wp2_with fail
    go_ret
    exact ⟨rfl, hb5⟩
  · have hb4 := below_trans hb3 hb3.size hb4'
    have HN := Lib.hid hno
    clear hno hb3 hb4'
    go_wp2_with fail
    go_loopw [14] (fun i wr => Below w.heap.size w wr ∧ ∃ k : Nat, k ≤ s.size ∧ k ≤ 300 ∧ i = .int .i64 k) (fun i _ => s.size - (intOf i).toNat)
    case atStart => exact ⟨hb4, 0, Nat.zero_le _, by omega, rfl⟩
    case round =>
      obtain ⟨hbr, k, hk, hk3, rfl⟩ := hrel
      by_cases hlt : k < s.size
      · by_cases h3 : k < 300
        · have hlt' : (k : Int) < s.size := by omega
          have h3' : (k : Int) < 300 := by omega
          have hq := get_q s k hlt
          obtain ⟨x, hx⟩ : ∃ x, s[k] = x := ⟨_, rfl⟩
          obtain ⟨q, hxq⟩ : ∃ q, x.toNat = q := ⟨_, rfl⟩
          rw [hx] at hq
          by_cases h0 : q = 0
          · have hx0 : x = 0 := UInt8.toNat_inj.1 (by rw [hxq, h0]; rfl)
            subst hx0
            have heq : ((q : Int) == 0) = true := by simp; omega
            have hm := fun w => may_any (s.extract 0 k) w (by simp [ByteArray.size_extract]; unfold maxLen; omega)
            have hE : (s.extract 0 k).data.toList = s.data.toList.take k := by simp [List.extract_eq_take_drop]
            have hf : (labelsOf (s.extract 0 k)).isSome = false := by
              cases hh : (labelsOf (s.extract 0 k)).isSome with
              | false => rfl
              | true =>
                have := (may_mayL _).1 hh
                rw [hE] at this
                exact absurd (cut_here hq this) (HN.out _ _)
            rw [hf] at hm
            have HM := Lib.hid hm
            clear hm hf hE hq h0
            go_wp2_with fail
            refine (HM.out _).mono ?_
            rintro e w5 ⟨rfl, hb5'⟩
            have hb5 := below_trans hbr hbr.size hb5'
            go_wp2_with fail
            go_roundw
            case rel => exact ⟨hb5, k + 1, by omega, by omega, by go_num⟩
            case measure => simp [intOf]; omega
          · have heq : ((q : Int) == 0) = false := by simp; omega
            clear hq h0
            go_wp2_with fail
            go_roundw
            case rel => exact ⟨hbr, k + 1, by omega, by omega, by go_num⟩
            case measure => simp [intOf]; omega
        · have hlt' : (k : Int) < s.size := by omega
          have h3' : ¬ (k : Int) < 300 := by omega
          go_wp2_with fail
          go_ret
          exact ⟨rfl, hbr⟩
      · have hlt' : ¬ (k : Int) < s.size := by omega
        go_wp2_with fail
        go_ret
        exact ⟨rfl, hbr⟩
end Go.Proofs.Ytdekaaclheoapaa
