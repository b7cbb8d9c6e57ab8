/- pending's entries that share nothing: the contract of own. -/
import Derived.Test.YtpopnlbpeboiiaaDoorPendB
import Derived.Lib.SliceRun
import Derived.Outline
namespace Go.Proofs.YtpopnlbpeboiiaaDoor
open Go.RowKit
set_option linter.unusedVariables false
set_option linter.unusedSimpArgs false
set_option maxRecDepth 20000
theorem clone_recs_none (w : World) : Calls Tryd.prog 23 #[.slice none 0 0] w fun e w' => e = .returned (.slice none 0 0) ∧ w = w' := by
  have hq := fun w => Lib.run_eql_slice_nil (P := Tryd.prog) w 37 _ none 0 0 0 0 Tryd.underlying37
  go_enter Tryd.func23, Tryd.ntmps23
  go_wp2_with fail
  go_ret
  exact ⟨rfl, rfl⟩
set_option maxHeartbeats 6400000 in
theorem own_any (e : EntT) (w : World) : Calls Tryd.prog 16 #[entA e] w fun r w' => r = .returned (entA e) ∧ Below w.heap.size w w' := by
  obtain ⟨e0, e1, e2, e3, e4, e5⟩ := e
  unfold entA entCells
  simp only
  have hb0 : Below w.heap.size w ((w.alloc (.cells #[.int .u16 e0, .int .u16 0, .bool false, .int .i64 0, .bool false, .bool false, .bool false, .bool false, .int .i64 0, .string e1, .int .u16 e2, .slice none 0 0, .slice none 0 0, .slice none 0 0, .int .i64 0, .string e3, .int .i64 e4, .bool false, .int .i64 e5] 41)).alloc (.cells #[.int .u16 0, .int .u16 0, .bool false, .int .i64 0, .bool false, .bool false, .bool false, .bool false, .int .i64 0, .string ⟨#[]⟩, .int .u16 0, .slice none 0 0, .slice none 0 0, .slice none 0 0, .int .i64 0, .string ⟨#[]⟩, .int .i64 0, .bool false, .int .i64 0] 41)) := ((Below.refl _ _).alloc (Nat.le_refl _) _).alloc (by simp) _
  have hC : Cs ((w.alloc (.cells #[.int .u16 e0, .int .u16 0, .bool false, .int .i64 0, .bool false, .bool false, .bool false, .bool false, .int .i64 0, .string e1, .int .u16 e2, .slice none 0 0, .slice none 0 0, .slice none 0 0, .int .i64 0, .string e3, .int .i64 e4, .bool false, .int .i64 e5] 41)).alloc (.cells #[.int .u16 0, .int .u16 0, .bool false, .int .i64 0, .bool false, .bool false, .bool false, .bool false, .int .i64 0, .string ⟨#[]⟩, .int .u16 0, .slice none 0 0, .slice none 0 0, .slice none 0 0, .int .i64 0, .string ⟨#[]⟩, .int .i64 0, .bool false, .int .i64 0] 41)) w.heap.size [.int .u16 e0, .int .u16 0, .bool false, .int .i64 0, .bool false, .bool false, .bool false, .bool false, .int .i64 0, .string e1, .int .u16 e2, .slice none 0 0, .slice none 0 0, .slice none 0 0, .int .i64 0, .string e3, .int .i64 e4, .bool false, .int .i64 e5] := (Cs.new w _ _ _).alloc _
  have hG : Cs ((w.alloc (.cells #[.int .u16 e0, .int .u16 0, .bool false, .int .i64 0, .bool false, .bool false, .bool false, .bool false, .int .i64 0, .string e1, .int .u16 e2, .slice none 0 0, .slice none 0 0, .slice none 0 0, .int .i64 0, .string e3, .int .i64 e4, .bool false, .int .i64 e5] 41)).alloc (.cells #[.int .u16 0, .int .u16 0, .bool false, .int .i64 0, .bool false, .bool false, .bool false, .bool false, .int .i64 0, .string ⟨#[]⟩, .int .u16 0, .slice none 0 0, .slice none 0 0, .slice none 0 0, .int .i64 0, .string ⟨#[]⟩, .int .i64 0, .bool false, .int .i64 0] 41)) (w.heap.size + 1) [.int .u16 0, .int .u16 0, .bool false, .int .i64 0, .bool false, .bool false, .bool false, .bool false, .int .i64 0, .string ⟨#[]⟩, .int .u16 0, .slice none 0 0, .slice none 0 0, .slice none 0 0, .int .i64 0, .string ⟨#[]⟩, .int .i64 0, .bool false, .int .i64 0] := (Cs.new _ _ _ _).at_ _ (by simp)
  have H0 := Lib.hid (And.intro hb0 (And.intro hC hG))
  clear hb0 hC hG
  go_enter Tryd.func16, Tryd.ntmps16
  go_upto_region 1 with fail
  obtain ⟨hb0, hC, hG⟩ := H0.out
  clear H0
  generalize (w.alloc (.cells #[.int .u16 e0, .int .u16 0, .bool false, .int .i64 0, .bool false, .bool false, .bool false, .bool false, .int .i64 0, .string e1, .int .u16 e2, .slice none 0 0, .slice none 0 0, .slice none 0 0, .int .i64 0, .string e3, .int .i64 e4, .bool false, .int .i64 e5] 41)).alloc (.cells #[.int .u16 0, .int .u16 0, .bool false, .int .i64 0, .bool false, .bool false, .bool false, .bool false, .int .i64 0, .string ⟨#[]⟩, .int .u16 0, .slice none 0 0, .slice none 0 0, .slice none 0 0, .int .i64 0, .string ⟨#[]⟩, .int .i64 0, .bool false, .int .i64 0] 41) = w0 at *
  obtain ⟨b, hb⟩ : ∃ b, b = w.heap.size := ⟨_, rfl⟩
  obtain ⟨g, hg⟩ : ∃ g, g = w.heap.size + 1 := ⟨_, rfl⟩
  rw [← hg] at hG ⊢
  rw [← hb] at hC ⊢
  have hbg : g ≠ b := by omega
  have hgb : b ≠ g := by omega
  have HG := Lib.hid hg
  have HB := Lib.hid hb
  clear hb hg
  have c0 := hC.get 11 _
  have f0 := hC.froz 11 (by simp)
  have HX := Lib.hid (And.intro (hb0.setCell (p := ⟨b, 11, none⟩) (by show _ ≤ b; have := HB.out; omega) (.slice none 0 0)) (And.intro (hC.set' 11 (.slice none 0 0) (by simp)) (hG.other b 11 (.slice none 0 0) hgb)))
  go_wp2_with fail
  refine (clone_recs_none _).mono ?_
  rintro e w' ⟨rfl, rfl⟩
  go_upto_region 2 with fail
  clear hb0 hC hG c0 f0
  obtain ⟨hb0, hC, hG⟩ := HX.out
  clear HX
  generalize w0.setCell ⟨b, 11, none⟩ (.slice none 0 0) = w1 at *
  have hC : Cs w1 b [.int .u16 e0, .int .u16 0, .bool false, .int .i64 0, .bool false, .bool false, .bool false, .bool false, .int .i64 0, .string e1, .int .u16 e2, .slice none 0 0, .slice none 0 0, .slice none 0 0, .int .i64 0, .string e3, .int .i64 e4, .bool false, .int .i64 e5] := hC
  have c0 := hC.get 12 _
  have f0 := hC.froz 12 (by simp)
  have HX := Lib.hid (And.intro (hb0.setCell (p := ⟨b, 12, none⟩) (by show _ ≤ b; have := HB.out; omega) (.slice none 0 0)) (And.intro (hC.set' 12 (.slice none 0 0) (by simp)) (hG.other b 12 (.slice none 0 0) hgb)))
  go_wp2_with fail
  refine (clone_recs_none _).mono ?_
  rintro e w' ⟨rfl, rfl⟩
  go_upto_region 3 with fail
  clear hb0 hC hG c0 f0
  obtain ⟨hb0, hC, hG⟩ := HX.out
  clear HX
  generalize w1.setCell ⟨b, 12, none⟩ (.slice none 0 0) = w2 at *
  have hC : Cs w2 b [.int .u16 e0, .int .u16 0, .bool false, .int .i64 0, .bool false, .bool false, .bool false, .bool false, .int .i64 0, .string e1, .int .u16 e2, .slice none 0 0, .slice none 0 0, .slice none 0 0, .int .i64 0, .string e3, .int .i64 e4, .bool false, .int .i64 e5] := hC
  have c0 := hC.get 13 _
  have f0 := hC.froz 13 (by simp)
  have HX := Lib.hid (And.intro (hb0.setCell (p := ⟨b, 13, none⟩) (by show _ ≤ b; have := HB.out; omega) (.slice none 0 0)) (And.intro (hC.set' 13 (.slice none 0 0) (by simp)) (hG.other b 13 (.slice none 0 0) hgb)))
  go_wp2_with fail
  refine (clone_recs_none _).mono ?_
  rintro e w' ⟨rfl, rfl⟩
  go_upto_region 4 with fail
  clear hb0 hC hG c0 f0
  obtain ⟨hb0, hC, hG⟩ := HX.out
  clear HX
  generalize w2.setCell ⟨b, 13, none⟩ (.slice none 0 0) = w3 at *
  have hC : Cs w3 b [.int .u16 e0, .int .u16 0, .bool false, .int .i64 0, .bool false, .bool false, .bool false, .bool false, .int .i64 0, .string e1, .int .u16 e2, .slice none 0 0, .slice none 0 0, .slice none 0 0, .int .i64 0, .string e3, .int .i64 e4, .bool false, .int .i64 e5] := hC
  have HTH := Lib.hid (hG.there 19 rfl)
  have HRG := Lib.hid hC.range
  have HM := Lib.hid (hG.mid [.int .u16 e0, .int .u16 0, .bool false, .int .i64 0, .bool false, .bool false, .bool false, .bool false, .int .i64 0, .string e1, .int .u16 e2, .slice none 0 0, .slice none 0 0, .slice none 0 0, .int .i64 0, .string e3, .int .i64 e4, .bool false, .int .i64 e5] rfl)
  have HBM := Lib.hid (below_setCells' (B := w.heap.size) (g := g) (by have := HG.out; omega) [.int .u16 e0, .int .u16 0, .bool false, .int .i64 0, .bool false, .bool false, .bool false, .bool false, .int .i64 0, .string e1, .int .u16 e2, .slice none 0 0, .slice none 0 0, .slice none 0 0, .int .i64 0, .string e3, .int .i64 e4, .bool false, .int .i64 e5] 0 hb0)
  clear hC hG hb0
  go_wp2_with (first | refine wpList_store_mid rfl 41 _ _ rfl g 0 #[.int .u16 e0, .int .u16 0, .bool false, .int .i64 0, .bool false, .bool false, .bool false, .bool false, .int .i64 0, .string e1, .int .u16 e2, .slice none 0 0, .slice none 0 0, .slice none 0 0, .int .i64 0, .string e3, .int .i64 e4, .bool false, .int .i64 e5] rfl rfl HTH.out (by kernel_rfl) (by simp [Value.oneCell']) ?_ | refine wpList_load_mid rfl 41 _ rfl b 0 rfl _ _ HRG.out Tryd.underlying41 rfl (by kernel_rfl) ?_)
  exact bodyPost_ret (v := .agg #[.int .u16 e0, .int .u16 0, .bool false, .int .i64 0, .bool false, .bool false, .bool false, .bool false, .int .i64 0, .string e1, .int .u16 e2, .slice none 0 0, .slice none 0 0, .slice none 0 0, .int .i64 0, .string e3, .int .i64 e4, .bool false, .int .i64 e5]) (results_cell1 Tryd.results16 _ _ _ g 0 _ _ rfl HM.out.range Tryd.underlying41 rfl (by kernel_rfl)) rfl ⟨rfl, HBM.out⟩
end Go.Proofs.YtpopnlbpeboiiaaDoor
