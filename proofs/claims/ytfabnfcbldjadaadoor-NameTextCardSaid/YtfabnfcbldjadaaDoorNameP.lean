/- The contracts of plain and Parse: what a text that is read is, if it is one. -/
import Derived.Test.YtfabnfcbldjadaaDoorNameD
import Derived.Test.YtfabnfcbldjadaaDoorOb
import Derived.Test.YtfabnfcbldjadaaDoorShelf
import Derived.Test.YtfabnfcbldjadaaDoorReg2
import Derived.StillTailTactics
import Derived.Outline
namespace Go.Proofs.YtfabnfcbldjadaaDoor
open Go.RowKit
set_option linter.unusedVariables false
set_option linter.unusedSimpArgs false
set_option maxRecDepth 20000
theorem u8w (x : Int) : ∃ p : Nat, IntKind.u8.wrap x = (p : Int) ∧ p < 256 := ⟨(x % 256).toNat, by
  have : IntKind.u8.wrap x = x % 256 := by simp [IntKind.wrap, IntKind.bits, IntKind.signed]
  rw [this]; omega, by omega⟩
theorem plain_follows : Tryd.prog.follows .mixedOrders = true := by kernel_rfl
attribute [local simp] putsF isV wordOf Deps Region.binds Region.wanted Act.put wantedX isB
set_option maxHeartbeats 3200000 in
theorem plain_any (s : ByteArray) (w : World) (hs : s.size ≤ 1048576) :
    Calls Tryd.prog 20 #[.string s] w fun e w' => ∃ l : List UInt8, e = .returned (sv l) ∧ l.length ≤ s.size ∧ Below w.heap.size w w' := by
  obtain ⟨i0, hi, hz0, hz1, hz2⟩ := info_parts byte_info
  obtain ⟨n, hn⟩ : ∃ n, n = s.size := ⟨_, rfl⟩
  have hn1 : n ≤ 1048576 := by omega
  have o0 : Hid (OB w.heap.size w (.slice none 0 0) ([] : List UInt8).length (([] : List UInt8).map bv) w) := Lib.hid (OB.start w)
  go_enter Tryd.func20, Tryd.ntmps20
  go_wp2_with fail
  go_loopw [3, 4] (fun v i wr => ∃ (k : Nat) (l : List UInt8), i = .int .i64 k ∧ l.length ≤ k ∧ k ≤ n ∧ Hid (OB w.heap.size w v l.length (l.map bv) wr)) (fun _ i _ => n - (intOf i).toNat)
  case atStart => exact ⟨0, [], rfl, Nat.le_refl _, Nat.zero_le _, o0⟩
  case round =>
    obtain ⟨k, l, rfl, hl, hk, how⟩ := hrel
    by_cases hlt : k < n
    · have hks : k < s.size := by omega
      have hlti : (k : Int) < s.size := by omega
      obtain ⟨c, hc⟩ : ∃ c, s[k] = c := ⟨_, rfl⟩
      obtain ⟨cn, hcn⟩ : ∃ cn, c.toNat = cn := ⟨_, rfl⟩
      have hcb : cn < 256 := by have := UInt8.toNat_lt c; omega
      have hlen : ¬ (s.size : Int) ≤ k := by omega
      obtain ⟨A3, c3, rfl, hlc, hc3, hA3⟩ := how.out.slice
      have w1 : IntKind.i64.wrap ((k : Int) + 1) = (k : Int) + 1 := IntWalk.i64_in _ (by omega)
      have w3 : IntKind.i64.wrap ((k : Int) + 3) = (k : Int) + 3 := IntWalk.i64_in _ (by omega)
      have w2 : IntKind.i64.wrap ((k : Int) + 2) = (k : Int) + 2 := IntWalk.i64_in _ (by omega)
      have w4 : IntKind.i64.wrap ((k : Int) + 3 + 1) = (k : Int) + 3 + 1 := IntWalk.i64_in _ (by omega)
      by_cases hesc : cn = 92 ∧ k + 3 < s.size
      · obtain ⟨he, h3⟩ := hesc
        have h3i : (k : Int) + 3 < s.size := by omega
        have b0 : ((cn : Int) == 92) = true := by simp; omega
        clear he
        obtain ⟨a, ha⟩ : ∃ a, s[k + 1] = a := ⟨_, rfl⟩
        obtain ⟨b, hb⟩ : ∃ b, s[k + 2] = b := ⟨_, rfl⟩
        obtain ⟨d, hd⟩ : ∃ d, s[k + 3] = d := ⟨_, rfl⟩
        obtain ⟨an, han⟩ : ∃ x, a.toNat = x := ⟨_, rfl⟩
        obtain ⟨bn, hbn⟩ : ∃ x, b.toNat = x := ⟨_, rfl⟩
        obtain ⟨dn, hdn⟩ : ∃ x, d.toNat = x := ⟨_, rfl⟩
        have h1i : (k : Int) + 1 < s.size := by omega
        have h2i : (k : Int) + 2 < s.size := by omega
        have h1n : k + 1 < s.size := by omega
        have h2n : k + 2 < s.size := by omega
        obtain ⟨p1, f1, -⟩ := u8w ((an : Int) - 48)
        obtain ⟨p2, f2, -⟩ := u8w (100 * (p1 : Int))
        obtain ⟨p3, f3, -⟩ := u8w ((bn : Int) - 48)
        obtain ⟨p4, f4, -⟩ := u8w (10 * (p3 : Int))
        obtain ⟨p5, f5, -⟩ := u8w ((p2 : Int) + p4)
        obtain ⟨p6, f6, -⟩ := u8w ((p5 : Int) + dn)
        obtain ⟨p7, f7, hp7⟩ := u8w ((p6 : Int) - 48)
        have t2 : ((k : Int) + 2).toNat = k + 2 := by omega
        have t3 : ((k : Int) + 3).toNat = k + 3 := by omega
        have g1 : (0 : Int) ≤ (k : Int) + 1 := by omega
        have g2 : (0 : Int) ≤ (k : Int) + 2 := by omega
        have g3 : (0 : Int) ≤ (k : Int) + 3 := by omega
        go_upto_region 7 with fail
        go_still (by kernel_rfl)
        have hod := how.out.drewN 1
        obtain ⟨WR, hWR⟩ : ∃ WR, WR = wr.drewN 1 := ⟨_, rfl⟩
        rw [← hWR] at hod
        have hWR' : wr.drew = WR := hWR.symm
        change Exit.then _ _ _ _ wr.drew
        rw [hWR']
        clear hWR hWR'
        obtain ⟨WC, hWC⟩ : ∃ WC, WC = WR := ⟨_, rfl⟩
        have hnew := (hod).alloc (.cells #[.int .u8 (p7 : Nat)] 5)
        have hsrc := Src.ofSlice (P := Tryd.prog) (size := 1) (WR.alloc (.cells #[.int .u8 (p7 : Nat)] 5)) Tryd.underlying36 ⟨(WR).heap.size, 0, none⟩ 1 1 [.int .u8 (p7 : Nat)] rfl (news_at WR #[.int .u8 (p7 : Nat)] 5) (by intro u hu; simp at hu; subst hu; rfl)
        clear hWC f1 f2 f3 f4 f5 f6 f7 ha hb hd han hbn hdn hc hcn t2 t3
        go_wp2_with (at_builtin; go_loud (refine wpList_append_ob rfl _ _ 36 36 rfl 5 i0 _ 1 Tryd.underlying36 hi hz0 hz1 hz2 rfl hnew rfl rfl hsrc (by unfold maxLen; omega) (by omega) ?_))
        intro v' w' o1 o2 o3 o4
        have o1' : Hid (OB w.heap.size w v' (l ++ [UInt8.ofNat p7]).length ((l ++ [UInt8.ofNat p7]).map bv) w') := Lib.hid (by
          rw [List.length_append, List.map_append, show [UInt8.ofNat p7].map bv = [.int .u8 (p7 : Nat)] by simp only [List.map_cons, List.map_nil]; rw [← byte_val p7 (by omega)]]
          exact o1)
        clear o1 o2 o3 o4 hnew hsrc
        go_wp2_with fail
        go_roundw
        case rel => exact ⟨k + 4, l ++ [UInt8.ofNat p7], by go_num, by simp; omega, by omega, o1'⟩
        case measure => simp [intOf]; omega
      · have b0 : ¬ (cn = 92 ∧ k + 3 < s.size) := hesc
        by_cases he : cn = 92
        · have b1 : ((cn : Int) == 92) = true := by simp; omega
          have h3i : ¬ (k : Int) + 3 < s.size := by omega
          clear he hesc b0
          have hob := how.out
          obtain ⟨WC, hWC⟩ : ∃ WC, WC = wr := ⟨_, rfl⟩
          have hnew := (hob).alloc (.cells #[.int .u8 (cn : Nat)] 5)
          have hsrc := Src.ofSlice (P := Tryd.prog) (size := 1) (wr.alloc (.cells #[.int .u8 (cn : Nat)] 5)) Tryd.underlying36 ⟨(wr).heap.size, 0, none⟩ 1 1 [.int .u8 (cn : Nat)] rfl (news_at wr #[.int .u8 (cn : Nat)] 5) (by intro u hu; simp at hu; subst hu; rfl)
          clear hob hWC
          go_wp2_with (at_builtin; go_loud (refine wpList_append_ob rfl _ _ 36 36 rfl 5 i0 _ 1 Tryd.underlying36 hi hz0 hz1 hz2 rfl hnew rfl rfl hsrc (by unfold maxLen; omega) (by omega) ?_))
          intro v' w' o1 o2 o3 o4
          have o1' : Hid (OB w.heap.size w v' (l ++ [UInt8.ofNat cn]).length ((l ++ [UInt8.ofNat cn]).map bv) w') := Lib.hid (by
            rw [List.length_append, List.map_append, show [UInt8.ofNat cn].map bv = [.int .u8 (cn : Nat)] by simp only [List.map_cons, List.map_nil]; rw [← byte_val cn (by omega)]]
            exact o1)
          clear o1 o2 o3 o4 hnew hsrc
          go_wp2_with fail
          go_roundw
          case rel => exact ⟨k + 1, l ++ [UInt8.ofNat cn], by go_num, by simp; omega, by omega, o1'⟩
          case measure => simp [intOf]; omega
        · have b1 : ((cn : Int) == 92) = false := by simp; omega
          clear he hesc b0
          have hob := how.out
          obtain ⟨WC, hWC⟩ : ∃ WC, WC = wr := ⟨_, rfl⟩
          have hnew := (hob).alloc (.cells #[.int .u8 (cn : Nat)] 5)
          have hsrc := Src.ofSlice (P := Tryd.prog) (size := 1) (wr.alloc (.cells #[.int .u8 (cn : Nat)] 5)) Tryd.underlying36 ⟨(wr).heap.size, 0, none⟩ 1 1 [.int .u8 (cn : Nat)] rfl (news_at wr #[.int .u8 (cn : Nat)] 5) (by intro u hu; simp at hu; subst hu; rfl)
          clear hob hWC
          go_wp2_with (at_builtin; go_loud (refine wpList_append_ob rfl _ _ 36 36 rfl 5 i0 _ 1 Tryd.underlying36 hi hz0 hz1 hz2 rfl hnew rfl rfl hsrc (by unfold maxLen; omega) (by omega) ?_))
          intro v' w' o1 o2 o3 o4
          have o1' : Hid (OB w.heap.size w v' (l ++ [UInt8.ofNat cn]).length ((l ++ [UInt8.ofNat cn]).map bv) w') := Lib.hid (by
            rw [List.length_append, List.map_append, show [UInt8.ofNat cn].map bv = [.int .u8 (cn : Nat)] by simp only [List.map_cons, List.map_nil]; rw [← byte_val cn (by omega)]]
            exact o1)
          clear o1 o2 o3 o4 hnew hsrc
          go_wp2_with fail
          go_roundw
          case rel => exact ⟨k + 1, l ++ [UInt8.ofNat cn], by go_num, by simp; omega, by omega, o1'⟩
          case measure => simp [intOf]; omega
    · obtain ⟨A3, c3, rfl, hlc, hc3, hA3⟩ := how.out.slice
      have hge : ¬ (k : Int) < s.size := by omega
      have hcv := run_string_of (P := Tryd.prog) wr 36 9 5 _ A3 l.length l Tryd.underlying36 Tryd.underlying5 Tryd.underlying9 how.out.sl (fun h => (hA3 h).1) c3
      have hbel := Lib.hid how.out.bel
      have hll : l.length ≤ s.size := by omega
      have HLL := Lib.hid hll
      clear hll
      go_wp2_with fail
      go_ret
      exact ⟨l, rfl, HLL.out, hbel.out⟩
end Go.Proofs.YtfabnfcbldjadaaDoor
