/- The table of the document's example: Put, Get, Len. -/
import Derived.Test.YtikbekchddinfaaTabB
namespace Go.Proofs.Ytikbekchddinfaa
open Go.RowKit
set_option linter.unusedVariables false
set_option maxRecDepth 20000
theorem makeS (w : World) : (Instr.makeSlice 25 (.int .i64 8) (.int .i64 8)).run Try.prog w = .ok (.slice (some ⟨w.heap.size, 0, none⟩) 8 8) (w.alloc (.cells (slotsV 0 ⟨#[]⟩ 0).toArray 47)) := by kernel_rfl
/-- renew of a table that has no slots. -/
theorem renew_none (w : World) (b B : Nat) (hBb : B ≤ b) (hC : Cs w b [.slice none 0 0, .int .i64 0, .int .i64 0]) :
    Calls Try.prog 16 #[.pointer (some ⟨b, 0, none⟩)] w fun e w' => e = .returned (.tuple #[]) ∧
      ∃ g, b ≠ g ∧ B ≤ g ∧ Cs w' b [.slice (some ⟨g, 0, none⟩) 8 8, .int .i64 0, .int .i64 0] ∧ Cs w' g (slotsV 0 ⟨#[]⟩ 0) ∧ Below B w w' := by
  have c0 := hC.get 0 _
  have c1 := hC.get 1 _
  have c2 := hC.get 2 _
  have f0 := hC.froz 0 (by simp)
  have f1 := hC.froz 1 (by simp)
  have f2 := hC.froz 2 (by simp)
  have g1 := hC.lt
  go_enter Try.func16, Try.ntmps16
  go_wp2_with fail
  have hmk := fun w => makeS w
  generalize hAr : (slotsV 0 ⟨#[]⟩ 0).toArray = Ar at hmk
  have hAr2 := Lib.hid hAr
  clear hAr
  go_loopw [2] (fun v wr => v = .int .i64 8 ∧ wr = w) (fun _ _ => 0)
  case atStart => exact ⟨rfl, rfl⟩
  case round =>
    obtain ⟨rfl, rfl⟩ := hrel
    go_wp2
    go_loopw [27] (fun v w2 => v = .int .i64 0 ∧ Cs w2 b [.slice (some ⟨wr.heap.size, 0, none⟩) 8 8, .int .i64 0, .int .i64 0] ∧ Cs w2 wr.heap.size (slotsV 0 ⟨#[]⟩ 0) ∧ Below B wr w2) (fun _ _ => 0)
    case atStart =>
      obtain ⟨W3, hW3⟩ : ∃ W3, (((wr.setCell ⟨b, 0, none⟩ (.slice (some ⟨wr.heap.size, 0, none⟩) 8 8)).setCell ⟨b, 1, none⟩ (.int .i64 0)).setCell ⟨b, 2, none⟩ (.int .i64 0)) = W3 := ⟨_, rfl⟩
      have hz : W3.heap.size = wr.heap.size := by rw [← hW3]; simp
      have hA : Cs W3 b [.slice (some ⟨wr.heap.size, 0, none⟩) 8 8, .int .i64 0, .int .i64 0] := by
        rw [← hW3]
        exact ((hC.set 0 (.slice (some ⟨wr.heap.size, 0, none⟩) 8 8) (by simp)).set 1 (.int .i64 0) (by simp)).set 2 (.int .i64 0) (by simp)
      have hB3 : Below B wr W3 := by
        rw [← hW3]
        exact (((Below.refl B wr).setCell (p := ⟨b, 0, none⟩) hBb _).setCell (p := ⟨b, 1, none⟩) hBb _).setCell (p := ⟨b, 2, none⟩) hBb _
      rw [hW3]
      have hn : Cs (W3.alloc (.cells Ar 47)) W3.heap.size (slotsV 0 ⟨#[]⟩ 0) := Cs.new W3 Ar _ _ (by rw [← hAr2.out])
      exact ⟨rfl, hA.alloc _, hn.at_ _ hz, hB3.alloc (by omega) _⟩
    case round =>
      obtain ⟨rfl, hA, hS, hle⟩ := hrel
      go_wp2
      go_end0
      exact ⟨rfl, _, by omega, by omega, hA, hS, hle⟩
/-- Len. -/
theorem len_any (w : World) (b : Nat) (x : Value) (lv us : Int) (hC : Cs w b [x, .int .i64 lv, .int .i64 us]) :
    Calls Try.prog 12 #[.pointer (some ⟨b, 0, none⟩)] w fun e w' => e = .returned (.int .i64 lv) ∧ w = w' := by
  have c1 := hC.get 1 _
  have g1 := hC.lt
  go_enter Try.func12, Try.ntmps12
  go_wp2
  go_ret
  exact ⟨rfl, rfl⟩
/-- Get of "a". -/
theorem get_live (w : World) (b g : Nat) (lv us v : Int) (hC : Cs w b [.slice (some ⟨g, 0, none⟩) 8 8, .int .i64 lv, .int .i64 us]) (hS : Cs w g (slotsV 1 ⟨#[97]⟩ v)) :
    Calls Try.prog 11 #[.pointer (some ⟨b, 0, none⟩), .string ⟨#[97]⟩] w fun e w' => e = .returned (.tuple #[.int .i64 v, .bool true]) ∧ Below w.heap.size w w' := by
  have c0 := hC.get 0 _
  have g1 := hC.lt
  go_enter Try.func11, Try.ntmps11
  go_wp2_with fail
  refine (find_live _ b g lv us v hC hS).mono ?_
  rintro e w1 ⟨rfl, hb⟩
  have hC1 := hC.below hb
  have hS1 := hS.below hb
  have d0 := hC1.get 0 _
  have s2 := hS1.get 2 _
  have g2 := hS1.lt
  go_wp2
  refine bodyPost_ret (v := .tuple #[.int .i64 v, .bool true]) (by simp [results, Try.results11, go_sem]) rfl ?_
  exact ⟨rfl, hb⟩
/-- Put of "a" again. -/
theorem put_again (w : World) (b g B : Nat) (lv us v u : Int) (hbg : b ≠ g) (hBb : B ≤ b) (hBg : B ≤ g) (hC : Cs w b [.slice (some ⟨g, 0, none⟩) 8 8, .int .i64 lv, .int .i64 us]) (hS : Cs w g (slotsV 1 ⟨#[97]⟩ v)) :
    Calls Try.prog 9 #[.pointer (some ⟨b, 0, none⟩), .string ⟨#[97]⟩, .int .i64 u] w fun e w' => e = .returned (.bool false) ∧
      Cs w' b [.slice (some ⟨g, 0, none⟩) 8 8, .int .i64 lv, .int .i64 us] ∧ Cs w' g (slotsV 1 ⟨#[97]⟩ u) ∧ Below B w w' := by
  have c0 := hC.get 0 _
  have g1 := hC.lt
  have hbg' := hbg.symm
  go_enter Try.func9, Try.ntmps9
  go_wp2_with fail
  refine (find_live _ b g lv us v hC hS).mono ?_
  rintro e w1 ⟨rfl, hb⟩
  have hC1 := hC.below hb
  have hS1 := hS.below hb
  have d0 := hC1.get 0 _
  have s2 := hS1.get 2 _
  have t2 := hS1.froz 2 (by simp [slotsV, slotV])
  have g2 := hS1.lt
  go_wp2
  go_ret
  exact ⟨rfl, hC1.other g 2 _ hbg', hS1.set 2 (.int .i64 u) (by simp [slotsV, slotV]), (hb.mono (by omega)).setCell (p := ⟨g, 2, none⟩) hBg _⟩
/-- Put of "a" into a table without slots. -/
theorem put_first (w : World) (b B : Nat) (u : Int) (hBb : B ≤ b) (hC : Cs w b [.slice none 0 0, .int .i64 0, .int .i64 0]) :
    Calls Try.prog 9 #[.pointer (some ⟨b, 0, none⟩), .string ⟨#[97]⟩, .int .i64 u] w fun e w' => e = .returned (.bool true) ∧
      ∃ g, b ≠ g ∧ B ≤ g ∧ Cs w' b [.slice (some ⟨g, 0, none⟩) 8 8, .int .i64 1, .int .i64 1] ∧ Cs w' g (slotsV 1 ⟨#[97]⟩ u) ∧ Below B w w' := by
  have c0 := hC.get 0 _
  have c2 := hC.get 2 _
  have g1 := hC.lt
  go_enter Try.func9, Try.ntmps9
  go_wp2_with fail
  go_quiet (fail)
  generalize hwd : w.drewN _ = wd
  have hC1 : Cs wd b [.slice none 0 0, .int .i64 0, .int .i64 0] := by rw [← hwd]; exact hC.drewN _
  have hBd : Below B w wd := by rw [← hwd]; exact below_drewN (Below.refl B w) _
  go_wp2_with fail
  refine (renew_none _ b B hBb hC1).mono ?_
  rintro e w1 ⟨rfl, g, hbg, hBg, hC2, hS2, hle⟩
  go_wp2_with fail
  refine (lay_empty _ b g B u hbg hBb hBg hC2 hS2).mono ?_
  rintro e w2 ⟨rfl, hC3, hS3, hle2⟩
  go_wp2
  go_ret
  exact ⟨rfl, g, hbg, hBg, hC3, hS3, (hBd.trans hle).trans hle2⟩
end Go.Proofs.Ytikbekchddinfaa
