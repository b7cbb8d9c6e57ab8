/- The walks of layer 22's helpers: check, made, the document's examples. -/
import Derived.Test.YtdekaaclheoapaaFrameB
import Derived.Test.YtdekaaclheoapaaOb
import Derived.Deep.DeepCutAuto
import Derived.Lib.SlBytesConst
namespace Go.Proofs.Ytdekaaclheoapaa
open Go.RowKit
set_option linter.unusedVariables false
set_option maxRecDepth 20000

theorem check22_any (A : Option Addr) (n c : Nat) (l : List UInt8) (w : World) (hA : Sl w w.heap.size 1 A n (l.map bv)) (hn : n ≤ maxLen) :
    Calls Try.prog 63 #[.slice A n c] w fun e w' => e = .returned (.int .u16 (chkN l)) ∧ w = w' := by
  unfold maxLen at hn
  have hl : l.length = n := by simpa using hA.1
  go_enter Try.func63, Try.ntmps63
  go_wp2
  go_loop [3, 4, 9] (fun s t i => ∃ k : Nat, k ≤ n ∧ i = .int .i64 k ∧ s = .int .i64 ((chkP (l.take k)).1 : Nat) ∧ t = .int .i64 ((chkP (l.take k)).2 : Nat)) (fun _ _ i => n - (intOf i).toNat)
  case atStart => exact ⟨0, Nat.zero_le _, rfl, rfl, rfl⟩
  case round =>
    obtain ⟨k, hk, rfl, rfl, rfl⟩ := hrel
    have hb := chkP_lt (l.take k)
    by_cases hlt : k < n
    · obtain ⟨b, off, u, rfl, hbb, hu, hc⟩ := hA.at_ hlt
      have hkl : k < l.length := by omega
      have ht := chkP_take hkl
      simp only [List.getElem?_map, List.getElem?_eq_getElem hkl, Option.map_some, Option.some.injEq] at hu
      have h8 := UInt8.toNat_lt l[k]
      subst hu
      simp only [bv] at hc
      generalize (l[k]).toNat = y at *
      generalize (chkP (l.take k)).1 = s at *
      generalize (chkP (l.take k)).2 = t at *
      have HT := Lib.hid ht
      clear ht hl
      go_wp2
      go_round
      case rel => exact ⟨k + 1, by omega, by go_num, by rw [HT.out]; simp, by rw [HT.out]; simp⟩
      case measure => simp [intOf]; omega
    · rw [List.take_of_length_le (by omega)] at hb ⊢
      have hq : chkN l = 256 * (chkP l).2 + (chkP l).1 := rfl
      have HQ := Lib.hid hq
      clear hl hq
      generalize (chkP l).1 = s at *
      generalize (chkP l).2 = t at *
      go_wp2
      go_ret
      exact ⟨by rw [HQ.out]; simp; omega, rfl⟩
set_option maxHeartbeats 800000 in
theorem made_any (A : Option Addr) (n c : Nat) (l : List UInt8) (w : World) (hS : Sl w w.heap.size 1 A n (l.map bv)) (hA0 : A = none → n = 0) (hn : n ≤ 600) :
    Calls Try.prog 38 #[.slice A n c] w fun e w' => e = .returned (.string ⟨(frameL l).toArray⟩) ∧ Below w.heap.size w w' := by
  have hl : l.length = n := by simpa using hS.1
  obtain ⟨i0, hi, hz0, hz1, hz2⟩ := info_parts num_info
  have hff := frame_flat l
  rw [hl] at hff
  obtain ⟨m0, e0⟩ : ∃ x, x = 65535 - n := ⟨_, rfl⟩
  have hm0 : m0 < 65536 := by omega
  have hm1 : (65535 : Int) - n = m0 := by omega
  rw [← e0] at hff
  have HFF := Lib.hid hff
  have HL := Lib.hid hl
  have HA := Lib.hid hA0
  clear hff e0 hl hA0
  go_enter Try.func38, Try.ntmps38
  go_wp2_with fail
  refine (put16_any none 0 0 [] _ 2 2 [n, m0] _ (Sl.nil _ _ _ _) (fun _ => ⟨rfl, rfl⟩) (Sl.fresh _ _ _ _ _ rfl rfl) (by intro x hx; simp at hx; omega) (by omega)).mono ?_
  rintro e w1 ⟨g, rfl, hown, hb⟩
  have hbuf := Buf.out (C := w.heap.size) (W0 := w) ⟨hown, hb, hb.size⟩ (by simp) ((Below.refl _ _).alloc (Nat.le_refl _) _)
  simp only [List.nil_append, Nat.zero_add, show 2 * 2 = 4 by rfl] at hbuf
  have hs1 := hb.size
  simp at hs1
  have hA1 := hS.below hbuf.below
  clear hown hb
  go_wp2_with (first
    | (at_builtin; refine wpList_append_ob rfl (.tmp 11) (.tmp 12) 22 22 rfl 5 i0 (.int .u8 0) 1 Try.underlying22 hi hz0 hz1 hz2 rfl (OB.of_buf hbuf) rfl rfl (hA1.src Try.underlying22 HA.out (one_bytes _)) (by unfold maxLen; omega) (by omega) ?_; intro v2 w2 hb2 _ _ _))
  obtain ⟨D, d, rfl, hd1, hd2, hd3⟩ := hb2.slice
  have hA2 := hS.below hb2.below
  have hs2 := hb2.base
  have hsl := hb2.sl
  clear hbuf hA1
  have hchk := chkN_lt l
  go_wp2_with fail
  refine (check22_any _ _ _ l _ (hA2.more hs2) (by unfold maxLen; omega)).mono ?_
  rintro e w3 ⟨rfl, rfl⟩
  generalize chkN l = q at *
  go_wp2_with fail
  have hfr := Sl.fresh w2 #[.int .u16 (q : Nat)] 35 1 ([q].map v16) rfl rfl
  have hD := ((hsl.alloc (Nat.le_refl _) (.cells #[.int .u16 (q : Nat)] 35)).more (B' := (w2.alloc (.cells #[.int .u16 (q : Nat)] 35)).heap.size) (by simp))
  rw [← List.map_append] at hD
  refine (put16_any D (4 + n) d _ _ 1 1 [q] _ hD hd3 hfr (by intro x hx; simp at hx; omega) (by omega)).mono ?_
  rintro e w3 ⟨g3, rfl, hown, hb3⟩
  rw [HFF.out, show 4 + n + 2 * 1 = n + 6 by omega] at hown
  have hbuf := Buf.out (C := w.heap.size) (W0 := w) ⟨hown, hb3, hb3.size⟩ (by simp; omega) (hb2.below.alloc hs2 _)
  have hcv := (Txt.of_own hown).conv (P := Try.prog) 22 9 5 Try.underlying22 Try.underlying5 Try.underlying9 (n + 6)
  rw [show 4 + n + 2 * 1 = n + 6 by omega]
  obtain ⟨fl, efl⟩ : ∃ fl, fl = frameL l := ⟨_, rfl⟩
  rw [← efl] at hcv
  have EFL := Lib.hid efl
  clear efl
  clear hown hb3 hD hfr hsl hb2
  go_wp2_with fail
  go_ret
  exact ⟨by rw [← EFL.out]; rfl, hbuf.below⟩
theorem awake22_any (w : World) : Calls Try.prog 37 #[] w fun e w' => e = .returned (.bool true) ∧ Below w.heap.size w w' := by
  have kc := fun (w : World) (C : Array Value) (n c : Nat) => Lib.run_convert_bytes_const (P := Try.prog) w 22 5 C n c Try.underlying22 Try.underlying5
  go_enter Try.func37, Try.ntmps37
  go_wp2_with fail
  refine (make_yes _ 1 1 [97] _ (Sl.freshM _ _ _ _ _ _ _ rfl rfl) (by intro h; cases h) (by omega)).mono ?_
  rintro e w1 ⟨g, rfl, hown, hb⟩
  have hbuf := Buf.out (C := w.heap.size) (W0 := w) ⟨hown, hb, hb.size⟩ (by simp) ((Below.refl _ _).alloc (Nat.le_refl _) _)
  have hcv := (Txt.of_own hown).conv (P := Try.prog) 22 9 5 Try.underlying22 Try.underlying5 Try.underlying9 7
  rw [show frameL [97] = [0, 1, 255, 254, 97, 97, 97] by decide] at hcv
  clear hown hb
  go_wp2_with fail
  go_ret
  exact ⟨rfl, hbuf.below⟩
end Go.Proofs.Ytdekaaclheoapaa
