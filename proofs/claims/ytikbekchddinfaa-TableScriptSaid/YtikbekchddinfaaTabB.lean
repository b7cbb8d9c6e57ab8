/- The table of the document's example: one word, two puts. -/
import Derived.Test.YtikbekchddinfaaTabA
import Derived.BigQuiet
import Derived.WalkMore
namespace Go.Proofs.Ytikbekchddinfaa
open Go.RowKit
set_option linter.unusedVariables false
set_option maxRecDepth 20000
def wordA : ByteArray := ⟨#[97]⟩
/-- A slot's cells. -/
def slotV (st : Int) (key : ByteArray) (v : Int) : List Value := [.int .i64 st, .string key, .int .i64 v]
def slotsV (st : Int) (key : ByteArray) (v : Int) : List Value := slotV st key v ++ (List.replicate 7 (slotV 0 ⟨#[]⟩ 0)).flatten
theorem hashA (w : World) : Calls Try.prog 18 #[.string ⟨#[97]⟩, .int .i64 8] w fun e w' => e = .returned (.int .i64 0) ∧ w = w' := by
  refine (hash_any ⟨#[97]⟩ 8 w (by decide) (by decide)).mono ?_
  rintro e w' ⟨rfl, rfl⟩
  exact ⟨by rw [show hashL (⟨#[97]⟩ : ByteArray).data.toList % slotsN 8 = 0 by decide]; rfl, rfl⟩
/-- find of "a" where the first slot is live with it. -/
theorem find_live (w : World) (b g : Nat) (lv us v : Int) (hC : Cs w b [.slice (some ⟨g, 0, none⟩) 8 8, .int .i64 lv, .int .i64 us]) (hS : Cs w g (slotsV 1 ⟨#[97]⟩ v)) :
    Calls Try.prog 15 #[.pointer (some ⟨b, 0, none⟩), .string ⟨#[97]⟩] w fun e w' => e = .returned (.tuple #[.int .i64 0, .bool true]) ∧ Below w.heap.size w w' := by
  have c0 := hC.get 0 _
  have c1 := hC.get 1 _
  have c2 := hC.get 2 _
  have s0 := hS.get 0 _
  have s1 := hS.get 1 _
  have s2 := hS.get 2 _
  have g1 := hC.lt
  have g2 := hS.lt
  go_enter Try.func15, Try.ntmps15
  go_wp2
  go_step3
  go_wp2_with fail
  refine (hashA _).mono ?_
  rintro e w1 ⟨rfl, rfl⟩
  go_wp2_with fail
  go_step3
  go_wp2
  rw [Exit.noGoto_ret]
  refine bodyPost_ret (v := .tuple #[.int .i64 0, .bool true]) (by simp [results, Try.results15, go_sem]) rfl ?_
  exact ⟨rfl, (Below.refl _ _).alloc (Nat.le_refl _) _⟩
/-- find of "a" where the first slot is empty. -/
theorem find_empty (w : World) (b g : Nat) (lv us : Int) (hC : Cs w b [.slice (some ⟨g, 0, none⟩) 8 8, .int .i64 lv, .int .i64 us]) (hS : Cs w g (slotsV 0 ⟨#[]⟩ 0)) :
    Calls Try.prog 15 #[.pointer (some ⟨b, 0, none⟩), .string ⟨#[97]⟩] w fun e w' => e = .returned (.tuple #[.int .i64 0, .bool false]) ∧ Below w.heap.size w w' := by
  have c0 := hC.get 0 _
  have c1 := hC.get 1 _
  have c2 := hC.get 2 _
  have s0 := hS.get 0 _
  have s1 := hS.get 1 _
  have s2 := hS.get 2 _
  have g1 := hC.lt
  have g2 := hS.lt
  go_enter Try.func15, Try.ntmps15
  go_wp2
  go_step3
  go_wp2_with fail
  refine (hashA _).mono ?_
  rintro e w1 ⟨rfl, rfl⟩
  go_wp2_with fail
  go_step3
  go_wp2
  rw [Exit.noGoto_ret]
  refine bodyPost_ret (v := .tuple #[.int .i64 0, .bool false]) (by simp [results, Try.results15, go_sem]) rfl ?_
  exact ⟨rfl, (Below.refl _ _).alloc (Nat.le_refl _) _⟩
/-- A store into a block that the call laid. -/
theorem Cs.set {w : World} {b : Nat} {vs : List Value} (h : Cs w b vs) (j : Nat) (u : Value) (hj : j < vs.length) : Cs (w.setCell ⟨b, j, none⟩ u) b (vs.set j u) := by
  refine ⟨by simpa using h.1, fun i hi => ?_⟩
  simp only [List.length_set] at hi
  obtain ⟨q1, q2⟩ := h.2 i hi
  refine ⟨?_, (World.frozen?_setCell _ _ _ _).trans q2⟩
  by_cases e : j = i
  · subst e
    rw [World.cell?_setCell_same _ _ _ q1]; simp
  · rw [World.cell?_setCell_other _ _ _ _ (by intro h; injection h with _ h2; exact e h2), q1]; simp [e]
/-- lay of "a" into empty slots. -/
theorem lay_empty (w : World) (b g B : Nat) (v : Int) (hbg : b ≠ g) (hBb : B ≤ b) (hBg : B ≤ g) (hC : Cs w b [.slice (some ⟨g, 0, none⟩) 8 8, .int .i64 0, .int .i64 0]) (hS : Cs w g (slotsV 0 ⟨#[]⟩ 0)) :
    Calls Try.prog 17 #[.pointer (some ⟨b, 0, none⟩), .string ⟨#[97]⟩, .int .i64 v] w fun e w' => e = .returned (.tuple #[]) ∧
      Cs w' b [.slice (some ⟨g, 0, none⟩) 8 8, .int .i64 1, .int .i64 1] ∧ Cs w' g (slotsV 1 ⟨#[97]⟩ v) ∧ Below B w w' := by
  go_enter Try.func17, Try.ntmps17
  go_wp2_with fail
  refine (find_empty _ b g 0 0 hC hS).mono ?_
  rintro e w1 ⟨rfl, hb⟩
  have hC1 := hC.below hb
  have hS1 := hS.below hb
  have c0 := hC1.get 0 _
  have c1 := hC1.get 1 _
  have c2 := hC1.get 2 _
  have f0 := hC1.froz 0 (by simp)
  have f1 := hC1.froz 1 (by simp)
  have f2 := hC1.froz 2 (by simp)
  have s0 := hS1.get 0 _
  have s1 := hS1.get 1 _
  have s2 := hS1.get 2 _
  have t0 := hS1.froz 0 (by simp [slotsV, slotV])
  have t1 := hS1.froz 1 (by simp [slotsV, slotV])
  have t2 := hS1.froz 2 (by simp [slotsV, slotV])
  have g1 := hC1.lt
  have g2 := hS1.lt
  have hbg' := hbg.symm
  go_wp2
  go_end0
  refine ⟨rfl, ?_, ?_, ?_⟩
  · exact (((((hC1.other g 0 _ hbg').other g 1 _ hbg').other g 2 _ hbg').set 1 (.int .i64 1) (by simp)).set 2 (.int .i64 1) (by simp))
  · exact (((((hS1.set 0 (.int .i64 1) (by simp [slotsV, slotV])).set 1 (.string ⟨#[97]⟩) (by simp [slotsV, slotV])).set 2 (.int .i64 v) (by simp [slotsV, slotV])).other b 1 _ hbg).other b 2 _ hbg)
  · have q := hC.lt
    exact (((((hb.mono (by omega)).setCell (p := ⟨g, 0, none⟩) hBg _).setCell (p := ⟨g, 1, none⟩) hBg _).setCell (p := ⟨g, 2, none⟩) hBg _).setCell (p := ⟨b, 1, none⟩) hBb _).setCell (p := ⟨b, 2, none⟩) hBb _
end Go.Proofs.Ytikbekchddinfaa
