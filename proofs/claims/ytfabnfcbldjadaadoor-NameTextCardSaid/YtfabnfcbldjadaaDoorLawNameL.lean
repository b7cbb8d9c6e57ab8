/- 'labels' of layer 2's statements: the labels of a name, read by the statement itself. -/
import Derived.Test.YtfabnfcbldjadaaDoorNameB
namespace Go.Proofs.YtfabnfcbldjadaaDoor
open Go.RowKit
set_option linter.unusedVariables false

theorem endAt_of {L : List UInt8} {i n : Nat} (hi : i < L.length) (hn : L[i].toNat = n) (h1 : 1 ≤ n) (h2 : n ≤ 63) (h3 : i + 1 + n ≤ L.length) :
    endAt (L.drop i) = if (L.extract (i + 1) (i + 1 + n)).all (fun x => !isUp x) = true then some (n + 1) else none := by
  rw [List.drop_eq_getElem_cons hi]
  simp only [endAt, hn]
  have e : L.extract (i + 1) (i + 1 + n) = (L.drop (i + 1)).take n := by rw [List.extract_eq_take_drop, show i + 1 + n - (i + 1) = n by omega]
  rw [e]
  by_cases h : ((L.drop (i + 1)).take n).all (fun x => !isUp x) = true
  · rw [if_pos h, if_pos ⟨h1, h2, by simp; omega, h⟩]
  · rw [if_neg h, if_neg (fun h' => h h'.2.2.2)]
theorem endAt_bad {L : List UInt8} {i n : Nat} (hi : i < L.length) (hn : L[i].toNat = n) (h : n < 1 ∨ 63 < n ∨ L.length ≤ i + n) : endAt (L.drop i) = none := by
  apply endAt_size hi
  omega
theorem all_snoc (p : UInt8 → Bool) (l : List UInt8) (k : Nat) (h : k < l.length) (h1 : (l.take k).all p = true) (h2 : p l[k] = true) : (l.take (k + 1)).all p = true := by
  rw [List.take_succ_eq_append_getElem h, List.all_append, h1]; simp [h2]
theorem all_not (p : UInt8 → Bool) (l : List UInt8) (k : Nat) (h : k < l.length) (h2 : p l[k] = false) : ¬ l.all p = true := by
  intro h3
  rw [List.all_eq_true] at h3
  rw [h3 _ (List.getElem_mem h)] at h2
  cases h2
theorem not_up (c : UInt8) (h : c.toNat < 65 ∨ 90 < c.toNat) : (!isUp c) = true := by
  unfold isUp
  simp
  omega
theorem is_up (c : UInt8) (h : 65 ≤ c.toNat) (h2 : c.toNat ≤ 90) : (!isUp c) = false := by
  unfold isUp
  simp
  omega

set_option maxHeartbeats 3200000 in
theorem lawlabels_any (s : ByteArray) (w : World) (hs : s.size ≤ maxLen) :
    Calls Tryd.prog 7 #[.string s] w fun e w' => ∃ v, e = .returned (.tuple #[v, .bool (labelsOf s).isSome]) ∧ Buf w.heap.size 9 w v (labelsL s).length ((labelsL s).map sv) w' := by
  obtain ⟨i0, hi, hz0, hz1, hz2⟩ := info_parts str_info
  have hlen : s.data.toList.length = s.size := by simp
  unfold maxLen at hs
  by_cases hbig : s.size ≤ 254
  · have hnl : labelsOf s = parseL s.data.toList := by unfold labelsOf nameLabels; rw [if_pos (by omega)]
    have HN := Lib.hid hnl
    have hbig' : ¬ (254 : Int) < s.size := by omega
    clear hnl
    go_enter Tryd.func7, Tryd.ntmps7
    go_wp2_with fail
    go_loopw [4, 5] (fun v i wr => ∃ (p : Nat) (pre : List (List UInt8)), i = .int .i64 p ∧ Hid (Read s.data.toList p pre) ∧ Buf w.heap.size 9 w v pre.length (pre.map sv) wr) (fun _ i _ => s.size - (intOf i).toNat)
    case atStart => exact ⟨0, [], rfl, Lib.hid (Read.start _), Buf.start _ _⟩
    case round =>
      obtain ⟨p, pre, rfl, hr, hb⟩ := hrel
      have hp1 := hr.out.1
      have hp2 := hr.out.2.1
      rw [hlen] at hp1
      by_cases hlt : p < s.size
      · have hlt' : (p : Int) < s.size := by omega
        have hnone : endAt (s.data.toList.drop p) = none → labelsOf s = none := fun he => by rw [HN.out]; exact hr.out.bad (by omega) he
        have hbad := @endAt_bad s.data.toList p s[p].toNat (by omega) (by rw [toList_get s p hlt])
        have hof := @endAt_of s.data.toList p s[p].toNat (by omega) (by rw [toList_get s p hlt])
        have hc := UInt8.toNat_lt s[p]
        rw [hlen] at hbad hof
        generalize hn : s[p].toNat = n at *
        have i1 : IntKind.i64.wrap (n : Int) = n := IntWalk.i64_in _ (by omega)
        by_cases hA : 1 ≤ n ∧ n ≤ 63 ∧ p + 1 + n ≤ s.size
        · have hof := hof hA.1 hA.2.1 hA.2.2
          obtain ⟨h1, h2, h3⟩ := hA
          have hx : ∃ t, s.extract (p + 1) (p + 1 + n) = t := ⟨_, rfl⟩
          obtain ⟨t, hx⟩ := hx
          have htl : s.data.toList.extract (p + 1) (p + 1 + n) = t.data.toList := by
            rw [← hx]; simp
          have htz : t.size = n := by rw [← hx]; simp; omega
          have htz' : t.data.toList.length = t.size := by simp
          rw [htl] at hof
          have HOF := Lib.hid hof
          have HTL := Lib.hid htl
          have HNO := Lib.hid hnone
          clear hbad hof hnone htl
          have a1 : ¬ (n : Int) < 1 := by omega
          have a2 : ¬ (63 : Int) < n := by omega
          have a3 : ¬ (s.size : Int) ≤ (p : Int) + n := by omega
          have a4 : (p : Int) + 1 ≤ (p : Int) + 1 + n := by omega
          go_wp2_with fail
          go_loop [8] (fun i => ∃ j : Nat, i = .int .i64 j ∧ j ≤ n ∧ Hid ((t.data.toList.take j).all (fun x => !isUp x) = true)) (fun i => n - (intOf i).toNat)
          case atStart => exact ⟨0, rfl, Nat.zero_le _, Lib.hid (by simp)⟩
          case round =>
            obtain ⟨j, rfl, hj, hall⟩ := hrel
            by_cases hjl : j < n
            · have hjt : j < t.size := by omega
              have hjt' : (j : Int) < t.size := by omega
              have hjn' : (j : Int) < n := by omega
              have hjl' : j < t.data.toList.length := by omega
              have hc2 := UInt8.toNat_lt t[j]
              have hup := not_up t[j]
              have hdn := is_up t[j]
              have hsn := fun (h : (!isUp t[j]) = true) => all_snoc (fun x => !isUp x) t.data.toList j hjl' hall.out (by rw [toList_get t j hjt]; exact h)
              have hno := fun (h : (!isUp t[j]) = false) => all_not (fun x => !isUp x) t.data.toList j hjl' (by rw [toList_get t j hjt]; exact h)
              generalize hq : t[j].toNat = q at *
              by_cases hcase : q < 65 ∨ 90 < q
              · have HS := Lib.hid (hsn (hup hcase))
                clear hup hdn hsn hno
                rcases hcase with h | h
                · have b1 : ¬ (65 : Int) ≤ q := by omega
                  go_wp2_with fail
                  go_round
                  case rel => exact ⟨j + 1, by go_num, by omega, HS⟩
                  case measure => simp [intOf]; omega
                · have b1 : (65 : Int) ≤ q := by omega
                  have b2 : ¬ (q : Int) ≤ 90 := by omega
                  go_wp2_with fail
                  go_round
                  case rel => exact ⟨j + 1, by go_num, by omega, HS⟩
                  case measure => simp [intOf]; omega
              · have hne := hno (hdn (by omega) (by omega))
                have hof2 := HOF.out
                rw [if_neg hne] at hof2
                have HO := Lib.hid (HNO.out hof2)
                have b1 : (65 : Int) ≤ q := by omega
                have b2 : (q : Int) ≤ 90 := by omega
                clear hup hdn hsn hno hne hof2
                go_wp2_with fail
                go_ret2
                refine ⟨.slice none 0 0, ?_, ?_⟩
                · rw [HO.out]; rfl
                · have hL : labelsL s = [] := by unfold labelsL; rw [HO.out]; rfl
                  rw [hL]
                  exact Buf.nil _ _ _ hb.below hb.2.2
            · obtain rfl : j = n := by omega
              have hjn' : ¬ (j : Int) < j := by omega
              have ha := hall.out
              rw [List.take_of_length_le (by omega)] at ha
              have hof2 := HOF.out
              rw [if_pos ha] at hof2
              have hnext := hr.out.next (by omega) hof2
              have e1 : s.data.toList.extract (p + 1) (p + (j + 1)) = t.data.toList := by rw [show p + (j + 1) = p + 1 + j by omega]; exact HTL.out
              rw [e1] at hnext
              have HX := Lib.hid hnext
              clear ha hof2 hnext e1
              go_wp2_with (at_builtin; go_loud (refine wpList_append_one rfl _ _ 22 rfl w.heap.size 9 i0 _ 16 Tryd.underlying22 hi hz0 hz1 hz2 rfl hb rfl rfl rfl ?c1 ?c2 ?_))
              case c1 => unfold maxLen; omega
              case c2 => omega
              intro v' w2 hb2
              go_wp2
              go_roundw
              case rel => exact ⟨p + (j + 1), pre ++ [t.data.toList], by go_num, HX, by simpa [sv_bytes] using hb2⟩
              case measure => simp [intOf]; omega
        · have he := hbad (by omega)
          have HO := Lib.hid (hnone he)
          have hc3 : n < 1 ∨ (1 ≤ n ∧ 63 < n) ∨ (1 ≤ n ∧ n ≤ 63 ∧ s.size ≤ p + n) := by omega
          have hb' := hb.below
          have hbs := hb.2.2
          clear hbad hof hnone he hA
          rcases hc3 with h | ⟨h, h'⟩ | ⟨h, h', h''⟩
          · obtain rfl : n = 0 := by omega
            go_wp2_with fail
            go_ret2
            refine ⟨.slice none 0 0, ?_, ?_⟩
            · rw [HO.out]; rfl
            · have hL : labelsL s = [] := by unfold labelsL; rw [HO.out]; rfl
              rw [hL]
              exact Buf.nil _ _ _ hb' hbs
          · have a1 : ¬ (n : Int) < 1 := by omega
            have a2 : (63 : Int) < n := by omega
            go_wp2_with fail
            go_ret2
            refine ⟨.slice none 0 0, ?_, ?_⟩
            · rw [HO.out]; rfl
            · have hL : labelsL s = [] := by unfold labelsL; rw [HO.out]; rfl
              rw [hL]
              exact Buf.nil _ _ _ hb' hbs
          · have a1 : ¬ (n : Int) < 1 := by omega
            have a2 : ¬ (63 : Int) < n := by omega
            have a3 : (s.size : Int) ≤ (p : Int) + n := by omega
            go_wp2_with fail
            go_ret2
            refine ⟨.slice none 0 0, ?_, ?_⟩
            · rw [HO.out]; rfl
            · have hL : labelsL s = [] := by unfold labelsL; rw [HO.out]; rfl
              rw [hL]
              exact Buf.nil _ _ _ hb' hbs
      · have hdone := hr.out.done (by omega)
        have HO := Lib.hid hdone
        have hlt' : ¬ (p : Int) < s.size := by omega
        clear hdone
        go_wp2
        go_ret2
        have hL : labelsL s = pre := by unfold labelsL; rw [HN.out, HO.out]; rfl
        rw [hL, HN.out, HO.out]
        exact ⟨_, rfl, hb⟩
  · have hbig' : (254 : Int) < s.size := by omega
    have HO : labelsOf s = none := by unfold labelsOf nameLabels; rw [if_neg (by omega)]
    have hL : labelsL s = [] := by unfold labelsL; rw [HO]; rfl
    rw [hL, HO]
    clear hL HO
    go_enter Tryd.func7, Tryd.ntmps7
    go_wp2
    go_ret2
    exact ⟨_, rfl, Buf.start _ _⟩
end Go.Proofs.YtfabnfcbldjadaaDoor
