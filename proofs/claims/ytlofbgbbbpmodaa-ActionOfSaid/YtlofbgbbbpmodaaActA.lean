/- The contracts of layer 14: specials, ofTarget, Of of a CNAME alone. -/
import Derived.Test.YtlofbgbbbpmodaaSm
import Derived.Test.YtlofbgbbbpmodaaCs
import Derived.Test.YtlofbgbbbpmodaaNameE
import Derived.Test.YtlofbgbbbpmodaaNameC
import Derived.Outline
namespace Go.Proofs.Ytlofbgbbbpmodaa
open Go.RowKit
set_option linter.unusedVariables false
set_option maxRecDepth 20000

theorem mk_toList' (l : List UInt8) : (ByteArray.mk l.toArray).data.toList = l := by simp
def specL : List (ByteArray × Value) := [(⟨#[]⟩, .int .i64 4), (⟨#[1, 42]⟩, .int .i64 5), (⟨#[12, 114, 112, 122, 45, 112, 97, 115, 115, 116, 104, 114, 117]⟩, .int .i64 2), (⟨#[8, 114, 112, 122, 45, 100, 114, 111, 112]⟩, .int .i64 3), (⟨#[12, 114, 112, 122, 45, 116, 99, 112, 45, 111, 110, 108, 121]⟩, .int .i64 6)]
theorem specials_any (w : World) : Calls Try.prog 25 #[] w fun e w' => ∃ b, e = .returned (.map (some b)) ∧ SM w' b specL ∧ Below w.heap.size w w' := by
  have hmk : (Instr.makeMap 64 none).run Try.prog w = .ok (.map (some w.heap.size)) (w.alloc (.map #[] 0)) := rfl
  have ut := Try.underlying64
  have uk := Try.underlying26
  have h0 := SM.new w
  have b0 := (Below.refl w.heap.size w).alloc (Nat.le_refl _) (.map #[] 0)
  obtain ⟨w1, e1, h1, g1⟩ := h0.insert ut uk ⟨#[]⟩ (.int .i64 4) (by decide)
  have b1 := below_grown b0 g1 b0.size (Nat.le_refl _)
  obtain ⟨w2, e2, h2, g2⟩ := h1.insert ut uk ⟨#[1, 42]⟩ (.int .i64 5) (by decide)
  have b2 := below_grown b1 g2 b1.size (Nat.le_refl _)
  obtain ⟨w3, e3, h3, g3⟩ := h2.insert ut uk ⟨#[12, 114, 112, 122, 45, 112, 97, 115, 115, 116, 104, 114, 117]⟩ (.int .i64 2) (by decide)
  have b3 := below_grown b2 g3 b2.size (Nat.le_refl _)
  obtain ⟨w4, e4, h4, g4⟩ := h3.insert ut uk ⟨#[8, 114, 112, 122, 45, 100, 114, 111, 112]⟩ (.int .i64 3) (by decide)
  have b4 := below_grown b3 g4 b3.size (Nat.le_refl _)
  obtain ⟨w5, e5, h5, g5⟩ := h4.insert ut uk ⟨#[12, 114, 112, 122, 45, 116, 99, 112, 45, 111, 110, 108, 121]⟩ (.int .i64 6) (by decide)
  have b5 := below_grown b4 g5 b4.size (Nat.le_refl _)
  clear ut uk h0 h1 h2 h3 h4 g1 g2 g3 g4 g5 b0 b1 b2 b3 b4
  go_enter Try.func25, Try.ntmps25
  go_wp2_with fail
  go_ret
  exact ⟨_, rfl, h5, b5⟩
/-- What a target means: the kind, the target, wild or not. -/
def tgtOf (s : ByteArray) : Int × ByteArray × Bool :=
  match smGet specL s with
  | some (.int .i64 k) => (k, ⟨#[]⟩, false)
  | _ => match labelsOf s with
    | some (l :: m :: ls) => if l = [42] then (7, ⟨(wire (m :: ls)).toArray⟩, true) else (7, s, false)
    | _ => (7, s, false)
def actV (a : Int × ByteArray × Bool) : Value := .agg #[.int .i64 a.1, .string a.2.1, .bool a.2.2, .slice none 0 0]
theorem specL_get (s : ByteArray) : (smHas specL s = false ∧ smGet specL s = none) ∨ ∃ k : Int, smHas specL s = true ∧ smGet specL s = some (.int .i64 k) := by
  unfold smHas smGet specL
  cases h1 : (s.data.toList == (ByteArray.mk #[]).data.toList)
  · cases h2 : (s.data.toList == (ByteArray.mk #[1, 42]).data.toList)
    · cases h3 : (s.data.toList == (ByteArray.mk #[12, 114, 112, 122, 45, 112, 97, 115, 115, 116, 104, 114, 117]).data.toList)
      · cases h4 : (s.data.toList == (ByteArray.mk #[8, 114, 112, 122, 45, 100, 114, 111, 112]).data.toList)
        · cases h5 : (s.data.toList == (ByteArray.mk #[12, 114, 112, 122, 45, 116, 99, 112, 45, 111, 110, 108, 121]).data.toList)
          · left; simp only [List.any_cons, List.any_nil, List.find?_cons, List.find?_nil, h1, h2, h3, h4, h5, Bool.or_false, Option.map_none, and_self]
          · right; exact ⟨6, by simp only [List.any_cons, h1, h2, h3, h4, h5, Bool.false_or, Bool.true_or], by simp only [List.find?_cons, h1, h2, h3, h4, h5, Option.map_some]⟩
        · right; exact ⟨3, by simp only [List.any_cons, h1, h2, h3, h4, Bool.false_or, Bool.true_or], by simp only [List.find?_cons, h1, h2, h3, h4, Option.map_some]⟩
      · right; exact ⟨2, by simp only [List.any_cons, h1, h2, h3, Bool.false_or, Bool.true_or], by simp only [List.find?_cons, h1, h2, h3, Option.map_some]⟩
    · right; exact ⟨5, by simp only [List.any_cons, h1, h2, Bool.false_or, Bool.true_or], by simp only [List.find?_cons, h1, h2, Option.map_some]⟩
  · right; exact ⟨4, by simp only [List.any_cons, h1, Bool.true_or], by simp only [List.find?_cons, h1, Option.map_some]⟩
set_option maxHeartbeats 1600000 in
theorem ofTarget_any (s : ByteArray) (w : World) (hs : s.size ≤ 140737488355328) :
    Calls Try.prog 16 #[.string s] w fun e w' => e = .returned (actV (tgtOf s)) ∧ Below w.heap.size w w' := by
  obtain ⟨W, hW⟩ : ∃ W, W = w.alloc (.cells #[.int .i64 0, .string ⟨#[]⟩, .bool false, .slice none 0 0] 34) := ⟨_, rfl⟩
  have hC : Cs W w.heap.size [.int .i64 0, .string ⟨#[]⟩, .bool false, .slice none 0 0] := by rw [hW]; exact Cs.new w _ _ _
  have hbW : Below w.heap.size w W := by rw [hW]; exact (Below.refl _ _).alloc (Nat.le_refl _) _
  have SP := Lib.hid (specials_any W)
  have LB := Lib.hid (fun w => labels_any s w (by unfold maxLen; omega))
  have PR := Lib.hid (fun w => parent_any s w (by unfold maxLen; omega))
  go_enter Try.func16, Try.ntmps16
  go_wp2_with fail
  rw [← hW]
  clear hW
  refine SP.out.mono ?_
  rintro e w1 ⟨b, rfl, hsm, hb1'⟩
  have hC1 := hC.below hb1'
  have hb1 := below_trans hbW hbW.size hb1'
  have hlk := hsm.lookup (P := Try.prog) Try.underlying64 Try.underlying26 (z := .int .i64 0) (by rfl) s
  rcases specL_get s with ⟨hh, hg⟩ | ⟨k, hh, hg⟩
  · rw [hh, hg] at hlk
    simp only [Option.getD_none] at hlk
    have htg : tgtOf s = match labelsOf s with
      | some (l :: m :: ls) => if l = [42] then (7, ⟨(wire (m :: ls)).toArray⟩, true) else (7, s, false)
      | _ => (7, s, false) := by unfold tgtOf; rw [hg]
    have HG := Lib.hid htg
    clear hh hg hsm hC hbW hb1' SP htg
    go_wp2_with fail
    refine (LB.out _).mono ?_
    rintro e w2 ⟨v, rfl, hbuf⟩
    have hC2 := hC1.below hbuf.below
    have hb2 := below_trans hb1 hb1.size hbuf.below
    have hlen := hbuf.len
    obtain ⟨A', c', rfl, hv1, hv2, hv3⟩ := hbuf.slice
    have hSl := hbuf.sl
    clear hC1 hb1 hv3 hbuf LB
    cases hlo : labelsOf s with
    | none =>
      have hL : labelsL s = [] := by unfold labelsL; rw [hlo]; rfl
      have HT : Hid (tgtOf s = (7, s, false)) := Lib.hid (by rw [HG.out, hlo])
      rw [hL]
      clear hlo hL HG hSl hlen hv1 PR
      have c0 := hC2.get 0 _
      have c1 := hC2.get 1 _
      have c2 := hC2.get 2 _
      have c3 := hC2.get 3 _
      have f0 := hC2.froz 0
      have f1 := hC2.froz 1
      have f2 := hC2.froz 2
      have f3 := hC2.froz 3
      clear hC2
      go_wp2_with fail
      refine bodyPost_ret (v := .agg #[.int .i64 7, .string s, .bool false, .slice none 0 0]) (by simp [results, Try.results16, go_sem, c0, c1, c2, c3]) rfl ⟨by rw [HT.out]; rfl, ?_⟩
      iterate 4 (refine Below.setCell ?_ (by simp) _)
      exact hb2
    | some LS =>
      match LS with
      | [] =>
        have hL : labelsL s = [] := by unfold labelsL; rw [hlo]; rfl
        have HT : Hid (tgtOf s = (7, s, false)) := Lib.hid (by rw [HG.out, hlo])
        rw [hL]
        clear hlo hL HG hSl hlen hv1 PR
        have c0 := hC2.get 0 _
        have c1 := hC2.get 1 _
        have c2 := hC2.get 2 _
        have c3 := hC2.get 3 _
        have f0 := hC2.froz 0
        have f1 := hC2.froz 1
        have f2 := hC2.froz 2
        have f3 := hC2.froz 3
        clear hC2
        go_wp2_with fail
        refine bodyPost_ret (v := .agg #[.int .i64 7, .string s, .bool false, .slice none 0 0]) (by simp [results, Try.results16, go_sem, c0, c1, c2, c3]) rfl ⟨by rw [HT.out]; rfl, ?_⟩
        iterate 4 (refine Below.setCell ?_ (by simp) _)
        exact hb2
      | [l] =>
        have hL : labelsL s = [l] := by unfold labelsL; rw [hlo]; rfl
        have HT : Hid (tgtOf s = (7, s, false)) := Lib.hid (by rw [HG.out, hlo])
        rw [hL]
        clear hlo hL HG hSl hlen hv1 PR
        have c0 := hC2.get 0 _
        have c1 := hC2.get 1 _
        have c2 := hC2.get 2 _
        have c3 := hC2.get 3 _
        have f0 := hC2.froz 0
        have f1 := hC2.froz 1
        have f2 := hC2.froz 2
        have f3 := hC2.froz 3
        clear hC2
        go_wp2_with fail
        refine bodyPost_ret (v := .agg #[.int .i64 7, .string s, .bool false, .slice none 0 0]) (by simp [results, Try.results16, go_sem, c0, c1, c2, c3]) rfl ⟨by rw [HT.out]; rfl, ?_⟩
        iterate 4 (refine Below.setCell ?_ (by simp) _)
        exact hb2
      | l :: m :: ls =>
        have hL : labelsL s = l :: m :: ls := by unfold labelsL; rw [hlo]; rfl
        have hPO : parentOf s = some (wire (m :: ls)) := by unfold parentOf; rw [hlo]
        have hn : (1 : Int) < ((labelsL s).length : Int) := by rw [hL]; simp; omega
        obtain ⟨g, off, u, rfl, hg', hu, hcell⟩ := hSl.at_ (show 0 < (labelsL s).length by rw [hL]; simp)
        rw [hL] at hu
        simp only [List.map_cons, List.getElem?_cons_zero, Option.some.injEq] at hu
        subst hu
        have hn2 : (0 : Int) < ((labelsL s).length : Int) := by omega
        rw [hPO] at PR
        unfold sv at hcell PR
        simp only [Option.getD_some, Option.isSome_some] at PR
        obtain ⟨N, hN⟩ : ∃ N, (labelsL s).length = N := ⟨_, rfl⟩
        rw [hN] at hn hn2 ⊢
        rw [Nat.add_zero] at hcell
        by_cases hst : l = [42]
        · have HT : Hid (tgtOf s = (7, ⟨(wire (m :: ls)).toArray⟩, true)) := Lib.hid (by rw [HG.out, hlo]; simp only [hst, if_true])
          subst hst
          generalize ByteArray.mk (wire (m :: ls)).toArray = PT at *
          clear hlo hL HG hSl hlen hv1 hPO hN
          go_wp2_with fail
          refine (PR.out _).mono ?_
          rintro e w3 ⟨rfl, hb3'⟩
          have hC3 := hC2.below hb3'
          have hb3 := below_trans hb2 hb2.size hb3'
          have c0 := hC3.get 0 _
          have c1 := hC3.get 1 _
          have c2 := hC3.get 2 _
          have c3 := hC3.get 3 _
          have f0 := hC3.froz 0
          have f1 := hC3.froz 1
          have f2 := hC3.froz 2
          have f3 := hC3.froz 3
          clear hC3 hC2 hcell hb3'
          go_wp2_with fail
          refine bodyPost_ret (v := .agg #[.int .i64 7, .string PT, .bool true, .slice none 0 0]) (by simp [results, Try.results16, go_sem, c0, c1, c2, c3]) rfl ⟨by rw [HT.out]; rfl, ?_⟩
          iterate 4 (refine Below.setCell ?_ (by simp) _)
          exact hb3
        · have HT : Hid (tgtOf s = (7, s, false)) := Lib.hid (by rw [HG.out, hlo]; simp only [hst, if_false])
          obtain ⟨LB, hLB⟩ : ∃ x, x = ByteArray.mk l.toArray := ⟨_, rfl⟩
          have hne : (LB.toList == [42]) = false := by rw [str_is, hLB, mk_toList']; simpa using hst
          rw [← hLB] at hcell
          clear hLB
          clear hlo hL HG hSl hlen hv1 hPO hN hst PR
          have c0 := hC2.get 0 _
          have c1 := hC2.get 1 _
          have c2 := hC2.get 2 _
          have c3 := hC2.get 3 _
          have f0 := hC2.froz 0
          have f1 := hC2.froz 1
          have f2 := hC2.froz 2
          have f3 := hC2.froz 3
          clear hC2
          go_wp2_with fail
          refine bodyPost_ret (v := .agg #[.int .i64 7, .string s, .bool false, .slice none 0 0]) (by simp [results, Try.results16, go_sem, c0, c1, c2, c3]) rfl ⟨by rw [HT.out]; rfl, ?_⟩
          iterate 4 (refine Below.setCell ?_ (by simp) _)
          exact hb2
  · rw [hh, hg] at hlk
    have ht : tgtOf s = (k, ⟨#[]⟩, false) := by unfold tgtOf; rw [hg]
    simp only [Option.getD_some] at hlk
    have HT := Lib.hid ht
    have c0 := hC1.get 0 _
    have c1 := hC1.get 1 _
    have c2 := hC1.get 2 _
    have c3 := hC1.get 3 _
    have f0 := hC1.froz 0
    have f1 := hC1.froz 1
    have f2 := hC1.froz 2
    have f3 := hC1.froz 3
    clear ht hh hg hsm hC hC1 hbW hb1' SP LB PR
    go_wp2_with fail
    refine bodyPost_ret (v := .agg #[.int .i64 k, .string ⟨#[]⟩, .bool false, .slice none 0 0]) (by simp [results, Try.results16, go_sem, c0, c1, c2, c3]) rfl ⟨by rw [HT.out]; rfl, ?_⟩
    iterate 4 (refine Below.setCell ?_ (by simp) _)
    exact hb1
end Go.Proofs.Ytlofbgbbbpmodaa
