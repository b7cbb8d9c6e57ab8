/- The contracts of a device's methods. -/
import Derived.Test.YtidpffgdndjgpaaDev
import Derived.Test.YtidpffgdndjgpaaNum
import Derived.Test.YtidpffgdndjgpaaReg2
import Derived.Outline
import Derived.StillTailTactics
import Derived.WalkSmall
namespace Go.Proofs.Ytidpffgdndjgpaa
open Go.RowKit
set_option linter.unusedVariables false
set_option maxRecDepth 20000
theorem seg_info : (Try.prog.info? 23).map (fun i => (i.zero, i.size, i.bytes)) = some (some (.slice none 0 0), 1, 24) := by kernel_rfl
section
variable {F : Nat → Prop} {B : Nat} {W : World} {d : Nat} {segs : List (List UInt8)} {safe writes : Nat} {w : World}
set_option maxHeartbeats 800000 in
theorem last_any (h : DevE F B W d segs safe writes w) :
    Calls Try.prog 13 #[.pointer (some ⟨d, 0, none⟩)] w fun e w' => e = .returned (.int .i64 (lastN segs)) ∧ ∃ k, w.drewN k = w' := by
  obtain ⟨SV, vals, h⟩ := h
  have c0 := h.cs.get 0 _
  have q0 := h.cs.lt
  rcases segs_cases segs with rfl | ⟨init, s, rfl⟩
  · rcases h.none with rfl | ⟨g, cap, rfl⟩
    all_goals
      clear h
      go_enter Try.func13, Try.ntmps13
      go_wp2_with fail
      go_ret
      exact ⟨rfl, 0, rfl⟩
  · obtain ⟨g, cap, A, c, rfl, hv, c1, f1, h1, h2, h3, h4, h5⟩ := h.last
    rw [lastN_snoc]
    have hi1 : IntKind.i64.wrap ((init.length : Int) + 1 - 1) = init.length := by rw [IntWalk.i64_in _ (by unfold maxLen at h5; omega)]; omega
    have hlt : init.length < init.length + 1 := by omega
    unfold maxLen at h2 h5
    clear h hv h3
    go_enter Try.func13, Try.ntmps13
    go_wp2_with fail
    go_quiet (fail)
    go_wp2_with fail
    go_ret
    exact ⟨rfl, _, rfl⟩
theorem writes_any (h : DevE F B W d segs safe writes w) :
    Calls Try.prog 24 #[.pointer (some ⟨d, 0, none⟩)] w fun e w' => e = .returned (.int .i64 writes) ∧ w = w' := by
  obtain ⟨SV, vals, h⟩ := h
  have c0 := h.cs.get 2 _
  have q0 := h.cs.lt
  clear h
  go_enter Try.func24, Try.ntmps24
  go_wp2_with fail
  go_ret
  exact ⟨rfl, rfl⟩
set_option maxHeartbeats 800000 in
theorem begin_any (h : DevE F B W d segs safe writes w) (hn : segs.length ≤ 5864062014634) :
    Calls Try.prog 20 #[.pointer (some ⟨d, 0, none⟩)] w fun e w' => e = .returned (.tuple #[]) ∧ DevE F B W d (segs ++ [[]]) 0 writes w' ∧ Keep F w w' := by
  obtain ⟨SV, vals, h⟩ := h
  have c0 := h.cs.get 0 _
  have q0 := h.cs.lt
  obtain ⟨i0, hi, hz0, hz1, hz2⟩ := info_parts seg_info
  obtain ⟨A, c, rfl, -⟩ := h.ob.slice
  have hob := h.ob.alloc (.cells #[.slice none 0 0] 23)
  have hsrc := Src.ofSlice (P := Try.prog) (size := 1) (w.alloc (.cells #[.slice none 0 0] 23)) Try.underlying22 ⟨w.heap.size, 0, none⟩ 1 1 [.slice none 0 0] rfl (news_at w #[.slice none 0 0] 23) (by intro u hu; simp at hu; subst hu; rfl)
  have H := Lib.hid h
  clear h
  go_enter Try.func20, Try.ntmps20
  go_wp2_with (at_builtin; go_loud (refine wpList_append_ob rfl _ _ 22 22 rfl 23 i0 _ 24 Try.underlying22 hi hz0 hz1 hz2 rfl hob rfl rfl hsrc (by unfold maxLen; omega) (by omega) ?_))
  intro v' w' h1 h2 h3 h4
  have hd1 := H.out.keep ((Below.refl w.heap.size w).alloc (Nat.le_refl _) (.cells #[.slice none 0 0] 23))
  have hk1 : Keep F w (w.alloc (.cells #[.slice none 0 0] 23)) := Keep.below H.out.fl ((Below.refl w.heap.size w).alloc (Nat.le_refl _) _)
  have hz : (w.alloc (.cells #[.slice none 0 0] 23)).heap.size = w.heap.size + 1 := by simp
  generalize w.alloc (.cells #[.slice none 0 0] 23) = W1 at *
  rw [← hz] at h2 h3 h4
  obtain ⟨A1, c1, rfl, -⟩ := h1.slice
  have hcs := hd1.cs.block (h3 d hd1.cs.lt (fun e => hd1.sd e.symm)) h2
  have k0 := hcs.get 0 _
  have j0 := hcs.froz 0 (by simp)
  have q1 := hcs.lt
  obtain ⟨hd2, hk2⟩ := hd1.snoc h1 h2 h3 (fun k e => by
    rcases h4 with q | q
    · exact .inl (by rw [← q]; exact e)
    · rw [q] at e; injection e with e; exact .inr (by omega))
  obtain ⟨hd3, hk3⟩ := hd2.setSafe 0
  have m0 := hd2.cs.get 1 _
  have n0 := hd2.cs.froz 1 (by simp)
  have HD := Lib.hid hd3
  have HK := Lib.hid ((hk1.trans hk2).trans hk3)
  clear hd1 hd2 hd3 hk1 hk2 hk3 h1 h2 h3 h4 hcs H hob hsrc c0 q0
  go_wp2
  go_end0
  exact ⟨rfl, ⟨_, _, HD.out⟩, HK.out⟩
end
end Go.Proofs.Ytidpffgdndjgpaa
