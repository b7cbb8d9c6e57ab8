/- The contract of frame.Make. -/
import Derived.Test.YtidpffgdndjgpaaDoorFrameA
import Derived.Test.YtidpffgdndjgpaaDoorOb
namespace Go.Proofs.YtidpffgdndjgpaaDoor
open Go.RowKit
set_option linter.unusedVariables false
set_option maxRecDepth 20000
theorem make_no (A : Option Addr) (n c : Nat) (w : World) (h : 600 < n) (hn : n ≤ maxLen) :
    Calls Tryd.prog 14 #[.slice A n c] w fun e w' => e = .returned (.tuple #[.slice none 0 0, .bool false]) ∧ w = w' := by
  unfold maxLen at hn
  go_enter Tryd.func14, Tryd.ntmps14
  go_wp2_with fail
  go_ret2
  exact ⟨rfl, rfl⟩
theorem frame_flat (l : List UInt8) : [l.length, 65535 - l.length].flatMap b16 ++ l ++ [chkN l].flatMap b16 = frameL l := by
  simp [frameL, w16, b16]
set_option maxHeartbeats 800000 in
theorem make_yes (A : Option Addr) (n c : Nat) (l : List UInt8) (w : World) (hS : Sl w w.heap.size 1 A n (l.map bv)) (hA0 : A = none → n = 0) (hn : n ≤ 600) :
    Calls Tryd.prog 14 #[.slice A n c] w fun e w' => ∃ g, e = .returned (.tuple #[.slice (some ⟨g, 0, none⟩) (n + 6) (n + 6), .bool true]) ∧
      w'.ownsRow w.heap.size 5 1 (.slice (some ⟨g, 0, none⟩) (n + 6) (n + 6)) (n + 6) ((frameL l).map bv) ∧ Below w.heap.size w w' := by
  have hl : l.length = n := by simpa using hS.1
  obtain ⟨i0, hi, hz0, hz1, hz2⟩ := info_parts num_info
  have hfl := flip16 n (by omega)
  have hff := frame_flat l
  rw [hl] at hff
  obtain ⟨m0, e0⟩ : ∃ x, x = 65535 - n := ⟨_, rfl⟩
  have hm0 : m0 < 65536 := by omega
  rw [← e0] at hfl hff
  have HFF := Lib.hid hff
  have HL := Lib.hid hl
  have HA := Lib.hid hA0
  clear hff e0 hl hA0
  go_enter Tryd.func14, Tryd.ntmps14
  go_wp2_with fail
  refine (put16_any none 0 0 [] _ 2 2 [n, m0] _ (Sl.nil _ _ _ _) (fun _ => ⟨rfl, rfl⟩) (Sl.fresh _ _ _ _ _ rfl rfl) (by intro x hx; simp at hx; omega) (by omega)).mono ?_
  rintro e w1 ⟨g, rfl, hown, hb⟩
  have hbuf := Buf.out (C := w.heap.size) (W0 := w) ⟨hown, hb, hb.size⟩ (by simp) ((Below.refl _ _).alloc (Nat.le_refl _) _)
  simp only [List.nil_append, Nat.zero_add, show 2 * 2 = 4 by rfl] at hbuf
  have hs1 := hb.size
  simp at hs1
  have hA1 := hS.below hbuf.below
  clear hown hb
  go_wp2_with (first
    | (at_builtin; refine wpList_append_ob rfl (.tmp 16) (.tmp 17) 32 32 rfl 5 i0 (.int .u8 0) 1 Tryd.underlying32 hi hz0 hz1 hz2 rfl (OB.of_buf hbuf) rfl rfl (hA1.src Tryd.underlying32 HA.out (one_bytes _)) (by unfold maxLen; omega) (by omega) ?_; intro v2 w2 hb2 _ _ _))
  obtain ⟨D, d, rfl, hd1, hd2, hd3⟩ := hb2.slice
  have hA2 := hS.below hb2.below
  have hs2 := hb2.base
  have hsl := hb2.sl
  clear hbuf hA1
  have hchk := chkN_lt l
  go_wp2_with fail
  refine (check_any _ _ _ l _ (hA2.more hs2) (by unfold maxLen; omega)).mono ?_
  rintro e w3 ⟨rfl, rfl⟩
  generalize chkN l = q at *
  go_wp2_with fail
  have hfr := Sl.fresh w2 #[.int .u16 (q : Nat)] 58 1 ([q].map v16) rfl rfl
  have hD := ((hsl.alloc (Nat.le_refl _) (.cells #[.int .u16 (q : Nat)] 58)).more (B' := (w2.alloc (.cells #[.int .u16 (q : Nat)] 58)).heap.size) (by simp))
  rw [← List.map_append] at hD
  refine (put16_any D (4 + n) d _ _ 1 1 [q] _ hD hd3 hfr (by intro x hx; simp at hx; omega) (by omega)).mono ?_
  rintro e w3 ⟨g3, rfl, hown, hb3⟩
  rw [HFF.out, show 4 + n + 2 * 1 = n + 6 by omega] at hown
  have hbuf := Buf.out (C := w.heap.size) (W0 := w) ⟨hown, hb3, hb3.size⟩ (by simp; omega) (hb2.below.alloc hs2 _)
  rw [show 4 + n + 2 * 1 = n + 6 by omega]
  clear hown hb3 hD hfr hsl hb2
  go_wp2_with fail
  go_ret2
  exact ⟨g3, rfl, hbuf.1, hbuf.below⟩
end Go.Proofs.YtidpffgdndjgpaaDoor
