/- plain of a label's signs is the label. -/
import Derived.Test.YtfabnfcbldjadaaDoorNameP
import Derived.Test.YtfabnfcbldjadaaDoorNameS
namespace Go.Proofs.YtfabnfcbldjadaaDoor
open Go.RowKit
set_option linter.unusedVariables false
set_option linter.unusedSimpArgs false
set_option maxRecDepth 20000
theorem ba_get (L : List UInt8) (S : ByteArray) (hS : S = ⟨L.toArray⟩) (i : Nat) (x : UInt8) (h : L[i]? = some x) (hi : i < S.size) : S[i] = x := by
  subst hS
  obtain ⟨h1, h2⟩ := List.getElem?_eq_some_iff.1 h
  rw [← h2]; rfl
theorem signs_at {l : List UInt8} {j : Nat} (hj : j < l.length) (t : Nat) (x : UInt8) (h : (signL l[j])[t]? = some x) : (signs l)[(signs (l.take j)).length + t]? = some x := by
  have e : signs l = signs (l.take j) ++ (signL l[j] ++ signs (l.drop (j + 1))) := by
    have h1 : l = l.take j ++ l[j] :: l.drop (j + 1) := by rw [← List.drop_eq_getElem_cons hj, List.take_append_drop]
    have h2 := congrArg signs h1
    rw [h2]; unfold signs; rw [List.flatMap_append, List.flatMap_cons]
  rw [e, List.getElem?_append_right (by omega), Nat.add_sub_cancel_left, List.getElem?_append_left (List.getElem?_eq_some_iff.1 h).1]
  exact h
theorem signs_next {l : List UInt8} {j : Nat} (hj : j < l.length) : (signs (l.take (j + 1))).length = (signs (l.take j)).length + (signL l[j]).length := by
  rw [List.take_succ_eq_append_getElem hj]; unfold signs; rw [List.flatMap_append, List.length_append, List.flatMap_cons, List.flatMap_nil, List.append_nil]
theorem signs_le (l : List UInt8) (j : Nat) : (signs (l.take j)).length ≤ (signs l).length := by
  have h1 : l = l.take j ++ l.drop j := (List.take_append_drop j l).symm
  have h2 : (signs l).length = (signs (l.take j ++ l.drop j)).length := by rw [← h1]
  rw [h2]; unfold signs; rw [List.flatMap_append, List.length_append]; omega
attribute [local simp] putsF isV wordOf Deps Region.binds Region.wanted Act.put wantedX isB
set_option maxHeartbeats 3200000 in
theorem plain_signs (l : List UInt8) (w : World) (hs : (signs l).length ≤ 1048576) :
    Calls Tryd.prog 20 #[.string ⟨(signs l).toArray⟩] w fun e w' => e = .returned (sv l) ∧ Below w.heap.size w w' := by
  obtain ⟨i0, hi, hz0, hz1, hz2⟩ := info_parts byte_info
  obtain ⟨s, hS⟩ : ∃ s : ByteArray, s = ⟨(signs l).toArray⟩ := ⟨_, rfl⟩
  have hsz : s.size = (signs l).length := by rw [hS, mk_size]
  have hs1 : s.size ≤ 1048576 := by omega
  rw [← hS]
  have hlen0 : l.length ≤ s.size := by
    rw [hsz]
    have : ∀ l : List UInt8, l.length ≤ (signs l).length := by
      intro l
      induction l with
      | nil => exact Nat.le_refl _
      | cons c r ih =>
        have h1 : 1 ≤ (signL c).length := by unfold signL; split <;> simp
        simp only [signs, List.flatMap_cons, List.length_append, List.length_cons] at ih ⊢
        omega
    exact this l
  have HS := Lib.hid hS
  have HSZ := Lib.hid hsz
  have o0 : Hid (OB w.heap.size w (.slice none 0 0) 0 ((l.take 0).map bv) w) := Lib.hid (OB.start w)
  clear hS hsz hs
  go_enter Tryd.func20, Tryd.ntmps20
  go_wp2_with fail
  go_loopw [3, 4] (fun v i wr => ∃ j : Nat, j ≤ l.length ∧ i = .int .i64 ((signs (l.take j)).length : Nat) ∧ Hid (OB w.heap.size w v j ((l.take j).map bv) wr)) (fun _ i _ => s.size - (intOf i).toNat)
  case atStart => exact ⟨0, Nat.zero_le _, rfl, o0⟩
  case round =>
    obtain ⟨j, hj, rfl, how⟩ := hrel
    have hple := signs_le l j
    rw [← HSZ.out] at hple
    by_cases hlt : j < l.length
    · have hnx := signs_next hlt
      have hat := fun t x h => signs_at hlt t x h
      have hle1 := signs_le l (j + 1)
      rw [← HSZ.out] at hle1
      obtain ⟨c, hc⟩ : ∃ c, l[j] = c := ⟨_, rfl⟩
      rw [hc] at hnx hat
      have htk : (l.take (j + 1)).map bv = (l.take j).map bv ++ [.int .u8 (c.toNat : Nat)] := by rw [List.take_succ_eq_append_getElem hlt, List.map_append, hc]; rfl
      obtain ⟨k, hk⟩ : ∃ k, k = (signs (l.take j)).length := ⟨_, rfl⟩
      rw [← hk] at hnx hat hple ⊢
      rw [hnx] at hle1
      obtain ⟨m, hm⟩ : ∃ m, c.toNat = m := ⟨_, rfl⟩
      have hm8 : m < 256 := by have := UInt8.toNat_lt c; omega
      rw [hm] at htk
      have HTK := Lib.hid htk
      have HNX := Lib.hid hnx
      obtain ⟨A3, c3, rfl, hlc, hc3, hA3⟩ := how.out.slice
      have hll : l.length ≤ 1048576 := by omega
      by_cases hp : plainC c = true
      · have hsg : signL c = [c] := by unfold signL; rw [if_pos hp]
        rw [hsg] at hnx hat hle1
        have hks : k < s.size := by simp at hle1; omega
        have hlti : (k : Int) < s.size := by omega
        have hge : ¬ (s.size : Int) ≤ k := by omega
        have hx := ba_get _ s HS.out k c (hat 0 c rfl) hks
        have b1 : ((m : Int) == 92) = false := by
          unfold plainC at hp
          have := of_decide_eq_true hp
          rw [beq_eq_false_iff_ne]; omega
        have w1 : IntKind.i64.wrap ((k : Int) + 1) = (k : Int) + 1 := IntWalk.i64_in _ (by omega)
        have HNL : Hid ((signs (l.take (j + 1))).length = k + 1) := Lib.hid hnx
        have hob := how.out
        clear hnx hat htk hc hp hsg hk hle1
        obtain ⟨WC, hWC⟩ : ∃ WC, WC = wr := ⟨_, rfl⟩
        have hnew := (hob).alloc (.cells #[.int .u8 (m : Nat)] 5)
        have hsrc := Src.ofSlice (P := Tryd.prog) (size := 1) (wr.alloc (.cells #[.int .u8 (m : Nat)] 5)) Tryd.underlying36 ⟨(wr).heap.size, 0, none⟩ 1 1 [.int .u8 (m : Nat)] rfl (news_at wr #[.int .u8 (m : Nat)] 5) (by intro u hu; simp at hu; subst hu; rfl)
        clear hWC hob
        go_wp2_with (at_builtin; go_loud (refine wpList_append_ob rfl _ _ 36 36 rfl 5 i0 _ 1 Tryd.underlying36 hi hz0 hz1 hz2 rfl hnew rfl rfl hsrc (by unfold maxLen; omega) (by omega) ?_))
        intro v' w' o1 o2 o3 o4
        have o1' : Hid (OB w.heap.size w v' (j + 1) ((l.take (j + 1)).map bv) w') := Lib.hid (by
          rw [HTK.out, List.map_take]
          exact o1)
        clear o1 o2 o3 o4 hnew hsrc
        go_wp2_with fail
        go_roundw
        case rel => exact ⟨j + 1, by omega, by rw [HNL.out]; go_num, o1'⟩
        case measure => simp [intOf]; omega
      · have hsg : signL c = [92, 48 + c / 100, 48 + c / 10 % 10, 48 + c % 10] := by unfold signL; rw [if_neg hp]
        rw [hsg] at hnx hat hle1
        simp only [List.length_cons, List.length_nil] at hle1 hnx
        have hks : k < s.size := by omega
        have h1n : k + 1 < s.size := by omega
        have h2n : k + 2 < s.size := by omega
        have h3 : k + 3 < s.size := by omega
        have hlti : (k : Int) < s.size := by omega
        have hge : ¬ (s.size : Int) ≤ k := by omega
        have h1i : (k : Int) + 1 < s.size := by omega
        have h2i : (k : Int) + 2 < s.size := by omega
        have h3i : (k : Int) + 3 < s.size := by omega
        have hx0 := ba_get _ s HS.out k 92 (hat 0 92 rfl) hks
        have hx1 := ba_get _ s HS.out (k + 1) _ (hat 1 (48 + c / 100) rfl) h1n
        have hx2 := ba_get _ s HS.out (k + 2) _ (hat 2 (48 + c / 10 % 10) rfl) h2n
        have hx3 := ba_get _ s HS.out (k + 3) _ (hat 3 (48 + c % 10) rfl) h3
        obtain ⟨a, ha⟩ : ∃ a, a = 48 + c / 100 := ⟨_, rfl⟩
        obtain ⟨b, hb⟩ : ∃ b, b = 48 + c / 10 % 10 := ⟨_, rfl⟩
        obtain ⟨d, hd⟩ : ∃ d, d = 48 + c % 10 := ⟨_, rfl⟩
        rw [← ha] at hx1
        rw [← hb] at hx2
        rw [← hd] at hx3
        have han : a.toNat = 48 + m / 100 := by rw [ha, UInt8.toNat_add, UInt8.toNat_div, hm]; simp; omega
        have hbn : b.toNat = 48 + m / 10 % 10 := by rw [hb, UInt8.toNat_add, UInt8.toNat_mod, UInt8.toNat_div, hm]; simp; omega
        have hdn : d.toNat = 48 + m % 10 := by rw [hd, UInt8.toNat_add, UInt8.toNat_mod, hm]; simp; omega
        obtain ⟨an, han'⟩ : ∃ x, x = 48 + m / 100 := ⟨_, rfl⟩
        obtain ⟨bn, hbn'⟩ : ∃ x, x = 48 + m / 10 % 10 := ⟨_, rfl⟩
        obtain ⟨dn, hdn'⟩ : ∃ x, x = 48 + m % 10 := ⟨_, rfl⟩
        rw [← han'] at han
        rw [← hbn'] at hbn
        rw [← hdn'] at hdn
        obtain ⟨p1, g1'⟩ : ∃ p, p = m / 100 := ⟨_, rfl⟩
        obtain ⟨p2, g2'⟩ : ∃ p, p = 100 * p1 := ⟨_, rfl⟩
        obtain ⟨p3, g3'⟩ : ∃ p, p = m / 10 % 10 := ⟨_, rfl⟩
        obtain ⟨p4, g4'⟩ : ∃ p, p = 10 * p3 := ⟨_, rfl⟩
        obtain ⟨p5, g5'⟩ : ∃ p, p = p2 + p4 := ⟨_, rfl⟩
        obtain ⟨p6, g6'⟩ : ∃ p, p = (p5 + dn) % 256 := ⟨_, rfl⟩
        have hdiv : m / 100 = m / 10 / 10 := by rw [Nat.div_div_eq_div_mul]
        have hsum : p5 + dn = m + 48 := by omega
        have f1 : IntKind.u8.wrap ((an : Int) - 48) = (p1 : Int) := by rw [IntKind.wrap_u8]; omega
        have f2 : IntKind.u8.wrap (100 * (p1 : Int)) = (p2 : Int) := by rw [IntKind.wrap_u8]; omega
        have f3 : IntKind.u8.wrap ((bn : Int) - 48) = (p3 : Int) := by rw [IntKind.wrap_u8]; omega
        have f4 : IntKind.u8.wrap (10 * (p3 : Int)) = (p4 : Int) := by rw [IntKind.wrap_u8]; omega
        have f5 : IntKind.u8.wrap ((p2 : Int) + p4) = (p5 : Int) := by rw [IntKind.wrap_u8]; omega
        have f6 : IntKind.u8.wrap ((p5 : Int) + dn) = (p6 : Int) := by rw [IntKind.wrap_u8]; omega
        have f7 : IntKind.u8.wrap ((p6 : Int) - 48) = (m : Int) := by rw [IntKind.wrap_u8]; rw [hsum] at g6'; omega
        have t2 : ((k : Int) + 2).toNat = k + 2 := by omega
        have t3 : ((k : Int) + 3).toNat = k + 3 := by omega
        have g1 : (0 : Int) ≤ (k : Int) + 1 := by omega
        have g2 : (0 : Int) ≤ (k : Int) + 2 := by omega
        have g3 : (0 : Int) ≤ (k : Int) + 3 := by omega
        have w1 : IntKind.i64.wrap ((k : Int) + 1) = (k : Int) + 1 := IntWalk.i64_in _ (by omega)
        have w2 : IntKind.i64.wrap ((k : Int) + 2) = (k : Int) + 2 := IntWalk.i64_in _ (by omega)
        have w3 : IntKind.i64.wrap ((k : Int) + 3) = (k : Int) + 3 := IntWalk.i64_in _ (by omega)
        have w4 : IntKind.i64.wrap ((k : Int) + 3 + 1) = (k : Int) + 3 + 1 := IntWalk.i64_in _ (by omega)
        have HNL : Hid ((signs (l.take (j + 1))).length = k + 4) := Lib.hid hnx
        clear hnx hat htk hc hp hsg hk hle1 ha hb hd han' hbn' hdn' g1' g2' g3' g4' g5' g6' hdiv hsum
        go_upto_region 7 with fail
        go_still (by kernel_rfl)
        have hod := how.out.drewN 1
        obtain ⟨WR, hWR⟩ : ∃ WR, WR = wr.drewN 1 := ⟨_, rfl⟩
        rw [← hWR] at hod
        have hWR' : wr.drew = WR := hWR.symm
        change Exit.then _ _ _ _ wr.drew
        rw [hWR']
        clear hWR hWR'
        obtain ⟨WC, hWC⟩ : ∃ WC, WC = WR := ⟨_, rfl⟩
        have hnew := (hod).alloc (.cells #[.int .u8 (m : Nat)] 5)
        have hsrc := Src.ofSlice (P := Tryd.prog) (size := 1) (WR.alloc (.cells #[.int .u8 (m : Nat)] 5)) Tryd.underlying36 ⟨(WR).heap.size, 0, none⟩ 1 1 [.int .u8 (m : Nat)] rfl (news_at WR #[.int .u8 (m : Nat)] 5) (by intro u hu; simp at hu; subst hu; rfl)
        clear hWC hod hx0 hx1 hx2 hx3 han hbn hdn f1 f2 f3 f4 f5 f6 f7 t2 t3 hm
        go_wp2_with (at_builtin; go_loud (refine wpList_append_ob rfl _ _ 36 36 rfl 5 i0 _ 1 Tryd.underlying36 hi hz0 hz1 hz2 rfl hnew rfl rfl hsrc (by unfold maxLen; omega) (by omega) ?_))
        intro v' w' o1 o2 o3 o4
        have o1' : Hid (OB w.heap.size w v' (j + 1) ((l.take (j + 1)).map bv) w') := Lib.hid (by
          rw [HTK.out, List.map_take]
          exact o1)
        clear o1 o2 o3 o4 hnew hsrc
        go_wp2_with fail
        go_roundw
        case rel => exact ⟨j + 1, by omega, by rw [HNL.out]; go_num, o1'⟩
        case measure => simp [intOf]; omega
    · obtain rfl : j = l.length := by omega
      obtain ⟨A3, c3, rfl, hlc, hc3, hA3⟩ := how.out.slice
      rw [List.take_length] at how ⊢
      have hk : (signs l).length = s.size := HSZ.out.symm
      rw [hk]
      have hge : ¬ (s.size : Int) < s.size := by omega
      have hcv := run_string_of (P := Tryd.prog) wr 36 9 5 _ A3 l.length l Tryd.underlying36 Tryd.underlying5 Tryd.underlying9 how.out.sl (fun h => (hA3 h).1) c3
      have hbel := Lib.hid how.out.bel
      clear hk
      go_wp2_with fail
      go_ret
      exact ⟨rfl, hbel.out⟩
end Go.Proofs.YtfabnfcbldjadaaDoor
