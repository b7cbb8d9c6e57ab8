/- point.Read at the document's example. -/
import Derived.Test.YtliofipccicnfaaGoto
import Derived.Test.YtliofipccicnfaaNameC
import Derived.Test.YtliofipccicnfaaNum
import Derived.Test.YtliofipccicnfaaNameB
import Derived.WalkSmall
import Derived.Outline
namespace Go.Proofs.Ytliofipccicnfaa
open Go.RowKit
set_option linter.unusedVariables false
set_option maxRecDepth 20000
theorem get16_ex (w : World) : Calls Try.prog 12 #[.string ⟨#[1, 97, 1, 98, 0, 192, 2]⟩, .int .i64 5] w fun e w' => e = .returned (.tuple #[.int .u16 49154, .bool true]) ∧ ∃ n, w.drewN n = w' := by
  refine (get16_yes ⟨#[1, 97, 1, 98, 0, 192, 2]⟩ 5 w (by decide) (by decide)).mono ?_
  rintro e w' ⟨rfl, h⟩
  exact ⟨by rw [show n16 ⟨#[1, 97, 1, 98, 0, 192, 2]⟩ 5 = 49154 by decide]; rfl, h⟩
set_option maxHeartbeats 800000 in
theorem read03 (w : World) : Calls Try.prog 7 #[.string ⟨#[1, 97, 1, 98, 0, 192, 2]⟩, .int .i64 5] w fun e w' => e = .returned (.tuple #[.string ⟨#[1, 98]⟩, .int .i64 7, .bool true]) ∧ Below w.heap.size w w' := by
  have HG := fun w => get16_ex w
  obtain ⟨i0, hi, hz0, hz1, hz2⟩ := info_parts str_info
  have hmk := fun w A c hA => make_any A 1 c [⟨#[98]⟩] w hA (by decide) (by decide)
  rw [show nameOf [⟨#[98]⟩] = [1, 98] by decide, show (makeOf [⟨#[98]⟩]).isSome = true by decide] at hmk
  obtain ⟨s, hs⟩ : ∃ s : ByteArray, (⟨#[1, 97, 1, 98, 0, 192, 2]⟩ : ByteArray) = s := ⟨_, rfl⟩
  rw [hs] at HG ⊢
  have hz : s.size = 7 := by rw [← hs]; rfl
  have b5 : (s[5]'(by omega)).toNat = 192 := by subst hs; rfl
  have b2 : (s[2]'(by omega)).toNat = 1 := by subst hs; rfl
  have b4 : (s[4]'(by omega)).toNat = 0 := by subst hs; rfl
  have bx : s.extract 3 4 = ⟨#[98]⟩ := by subst hs; rfl
  have HG' := Lib.hid HG
  have hs' := Lib.hid hs
  clear HG hs
  go_enter Try.func7, Try.ntmps7
  go_wp2
  refine wp_scope_unroll 2 0 rfl ?_
  generalize hJ : Jn _ _ _ _ _ = J
  have HJ := Lib.hid hJ
  clear hJ
  go_wp2
  go_step3
  go_wp2_with fail
  refine (HG'.out _).mono ?_
  rintro e w1 ⟨rfl, q1, rfl⟩
  go_wp2_with fail
  go_step3
  refine ⟨rfl, ?_⟩
  rw [← HJ.out]
  clear HJ
  unfold Jn
  generalize hJ : Jn _ _ _ _ _ = J2
  have HJ := Lib.hid hJ
  clear hJ
  have hbuf : Buf w.heap.size 9 w (.slice none 0 0) 0 [] (w.drewN q1) := Buf.nil _ _ _ (below_drewN (Below.refl _ _) _) (Nat.le_refl _)
  have HM := Lib.hid hmk
  clear hmk
  go_wp2_with (at_builtin; go_loud (refine wpList_append_one rfl _ _ 38 rfl w.heap.size 9 i0 _ 16 Try.underlying38 hi hz0 hz1 hz2 rfl hbuf rfl rfl rfl ?c1 ?c2 ?_))
  case c1 => unfold maxLen; omega
  intro v' w2 hb2
  obtain ⟨A, c, rfl, hc1, hc2, _⟩ := hb2.slice
  go_wp2_with fail
  have hS := hb2.sl
  have hbl := hb2.below
  have hbz := hbl.size
  clear hb2
  go_step3
  refine ⟨rfl, ?_⟩
  rw [← HJ.out]
  clear HJ
  unfold Jn
  go_wp2_with fail
  refine (HM.out _ A c (by simpa using hS)).mono ?_
  rintro e w3 ⟨rfl, hb3⟩
  go_wp2_with fail
  rw [jump_ret]
  refine bodyPost_ret (v := .tuple #[.string ⟨#[1, 98]⟩, .int .i64 7, .bool true]) (by simp [results, Try.results7, go_sem, sv]) rfl ?_
  exact ⟨rfl, hbl.trans (hb3.mono (by simpa using hbz))⟩
end Go.Proofs.Ytliofipccicnfaa
