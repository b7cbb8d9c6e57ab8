/- Texts that walks stand on, one behind the other. -/
import Derived.Test.YtkdknfedieeenaaDoorMgSA
import Derived.Test.YtkdknfedieeenaaDoorCs
import Derived.Test.YtkdknfedieeenaaDoorNameE
import Derived.Test.YtkdknfedieeenaaDoorNameC
import Derived.Outline
import Derived.Test.YtkdknfedieeenaaDoorNameB
import Derived.Test.YtkdknfedieeenaaDoorNameW
import Derived.Lib.SliceRun
import Derived.Test.YtkdknfedieeenaaDoorView
import Derived.Test.YtkdknfedieeenaaDoorBuf2
import Derived.Test.YtkdknfedieeenaaDoorSrM
import Derived.LoopN
namespace Go.Proofs.YtkdknfedieeenaaDoor
open Go.RowKit
set_option linter.unusedVariables false
set_option linter.unusedSimpArgs false
set_option maxRecDepth 20000
/-- How many bytes records take. -/
def sizeR (rs : List RecT) : Nat := (rs.map fun r => 10 + r.1.size + r.2.2.2.size).sum
theorem sizeR_next {rs : List RecT} {k : Nat} {r : RecT} (h : rs[k]? = some r) : sizeR (rs.take (k + 1)) = sizeR (rs.take k) + (10 + r.1.size + r.2.2.2.size) := by
  unfold sizeR; rw [List.take_add_one, h]; simp
theorem sizeR_le (rs : List RecT) (k : Nat) : sizeR (rs.take k) ≤ sizeR rs := by
  have h : sizeR rs = sizeR (rs.take k) + sizeR (rs.drop k) := by
    unfold sizeR; rw [← List.sum_append, ← List.map_append, List.take_append_drop]
  omega
def nameB (s : ByteArray) (r : RecT) : Bool := r.1.toList == s.toList
def atR (rs : List RecT) (s : ByteArray) : List RecT := rs.filter (nameB s)
theorem atR_yes {rs : List RecT} {s : ByteArray} {k : Nat} {r : RecT} (hr : rs[k]? = some r) (hb : nameB s r = true) : atR (rs.take (k + 1)) s = atR (rs.take k) s ++ [r] := by
  unfold atR; rw [List.take_add_one, hr]; simp [List.filter_append, hb]
theorem atR_no {rs : List RecT} {s : ByteArray} {k : Nat} {r : RecT} (hr : rs[k]? = some r) (hb : nameB s r = false) : atR (rs.take (k + 1)) s = atR (rs.take k) s := by
  unfold atR; rw [List.take_add_one, hr]; simp [List.filter_append, hb]
theorem atR_le (rs : List RecT) (s : ByteArray) (k : Nat) : (atR (rs.take k) s).length ≤ rs.length := by
  unfold atR
  have h1 := List.length_filter_le (nameB s) (rs.take k)
  have h2 := List.length_take_le k rs
  simp at h1
  omega
theorem src_one' {w : World} {ts : TypeId} (hts : Tryd.prog.underlying ts = some (.slice 59)) (r : RecT) :
    Src Tryd.prog 4 ts (.slice (some ⟨w.heap.size, 0, none⟩) 1 1) 1 (recCells r) (w.alloc (.cells #[.string r.1, .int .u16 r.2.1, .int .u32 r.2.2.1, .string r.2.2.2] 59)) := by
  refine Src.ofSlice _ hts _ 1 1 _ rfl ?_ ?_
  · exact news_at w #[.string r.1, .int .u16 r.2.1, .int .u32 r.2.2.1, .string r.2.2.2] _
  · intro u hu
    unfold recCells at hu
    simp at hu
    rcases hu with rfl | rfl | rfl | rfl <;> rfl
set_option maxHeartbeats 1600000 in
theorem at_any (A : Option Addr) (n c : Nat) (rs : List RecT) (s : ByteArray) (w : World) (h : Recs w A rs) (hl : rs.length = n) (hn : n ≤ 1000000) :
    Calls Tryd.prog 33 #[.slice A n c, .string s] w fun e w' => ∃ v, e = .returned v ∧ OBM 4 w.heap.size w v (atR rs s).length (flatR (atR rs s)) w' := by
  obtain ⟨i0, hi, hz0, hz1, hz2⟩ := info_parts4 rec_info
  have H := Lib.hid h
  have HL := Lib.hid hl
  clear h hl
  go_enter Tryd.func33, Tryd.ntmps33
  go_wp2_with fail
  go_loopw [5, 10] (fun v i wr => ∃ k : Nat, k ≤ n ∧ i = .int .i64 k ∧ Hid (OBM 4 w.heap.size w v (atR (rs.take k) s).length (flatR (atR (rs.take k) s)) wr)) (fun _ i _ => n - (intOf i).toNat)
  case atStart => exact ⟨0, Nat.zero_le _, rfl, Lib.hid (by simpa [atR, flatR] using OBM.start (sz := 4) w)⟩
  case round =>
    obtain ⟨k, hk, rfl, HB⟩ := hrel
    by_cases hlt : k < n
    · have hlt' : (k : Int) < n := by omega
      obtain ⟨r, hr⟩ : ∃ q, rs[k]? = some q := ⟨_, List.getElem?_eq_getElem (by rw [HL.out]; exact hlt)⟩
      obtain ⟨b, off, rfl, hb, z0, z1, z2, z3⟩ := (H.out.below HB.out.bel) k _ hr
      have HR := Lib.hid hr
      clear hr
      cases en : (r.1.toList == s.toList) with
      | false =>
        have HN : Hid (nameB s r = false) := Lib.hid en
        go_wp2_with fail
        go_round
        case rel => exact ⟨k + 1, by omega, by go_num, Lib.hid (by rw [atR_no HR.out HN.out]; exact HB.out.alloc _)⟩
        case measure => simp [intOf]; omega
      | true =>
        have HN : Hid (nameB s r = true) := Lib.hid en
        have HLE := Lib.hid (atR_le rs s k)
        have ho := Lib.hid ((HB.out.alloc (.cells #[.string r.1, .int .u16 r.2.1, .int .u32 r.2.2.1, .string r.2.2.2] 59)).alloc (.cells #[.string r.1, .int .u16 r.2.1, .int .u32 r.2.2.1, .string r.2.2.2] 59))
        have hS := Lib.hid (src_one' (w := wr.alloc (.cells #[.string r.1, .int .u16 r.2.1, .int .u32 r.2.2.1, .string r.2.2.2] 59)) Tryd.underlying48 r)
        have hz : (wr.alloc (.cells #[.string r.1, .int .u16 r.2.1, .int .u32 r.2.2.1, .string r.2.2.2] 59)).heap.size = wr.heap.size + 1 := by simp
        rw [hz] at hS
        clear hz
        go_wp2_with (at_builtin; go_loud (refine wpList_append_obm rfl _ _ 48 48 rfl 59 i0 _ 40 Tryd.underlying48 hi hz0 hz1 hz2 rfl ho.out rfl rfl hS.out rfl (by have := HLE.out; have := HL.out; unfold maxLen; omega) (by have := HLE.out; have := HL.out; omega) ?_))
        intro v' w' q1 q2 q3 q4
        clear q2 q3 q4
        have Q1 := Lib.hid q1
        clear q1
        go_wp2_with fail
        go_round
        case rel => exact ⟨k + 1, by omega, by go_num, Lib.hid (by rw [atR_yes HR.out HN.out, flatR_snoc, List.length_append]; exact Q1.out)⟩
        case measure => simp [intOf]; omega
    · have hlt' : ¬ (k : Int) < n := by omega
      go_wp2_with fail
      go_ret
      have := HB.out
      rw [List.take_of_length_le (by rw [HL.out]; omega)] at this
      exact ⟨_, rfl, this⟩
end Go.Proofs.YtkdknfedieeenaaDoor
namespace Go.Proofs.YtkdknfedieeenaaDoor
open Go.RowKit
set_option linter.unusedVariables false
set_option maxRecDepth 20000

theorem mk_toList' (l : List UInt8) : (ByteArray.mk l.toArray).data.toList = l := by simp
def specL : List (ByteArray × Value) := [(⟨#[]⟩, .int .i64 4), (⟨#[1, 42]⟩, .int .i64 5), (⟨#[12, 114, 112, 122, 45, 112, 97, 115, 115, 116, 104, 114, 117]⟩, .int .i64 2), (⟨#[8, 114, 112, 122, 45, 100, 114, 111, 112]⟩, .int .i64 3), (⟨#[12, 114, 112, 122, 45, 116, 99, 112, 45, 111, 110, 108, 121]⟩, .int .i64 6)]
theorem specials_any (w : World) : Calls Tryd.prog 55 #[] w fun e w' => ∃ b, e = .returned (.map (some b)) ∧ SM w' b specL ∧ Below w.heap.size w w' := by
  have hmk : (Instr.makeMap 115 none).run Tryd.prog w = .ok (.map (some w.heap.size)) (w.alloc (.map #[] 0)) := rfl
  have ut := Tryd.underlying115
  have uk := Tryd.underlying29
  have h0 := SM.new w
  have b0 := (Below.refl w.heap.size w).alloc (Nat.le_refl _) (.map #[] 0)
  obtain ⟨w1, e1, h1, g1⟩ := h0.insert ut uk ⟨#[]⟩ (.int .i64 4) (by decide)
  have b1 := below_grown b0 g1 b0.size (Nat.le_refl _)
  obtain ⟨w2, e2, h2, g2⟩ := h1.insert ut uk ⟨#[1, 42]⟩ (.int .i64 5) (by decide)
  have b2 := below_grown b1 g2 b1.size (Nat.le_refl _)
  obtain ⟨w3, e3, h3, g3⟩ := h2.insert ut uk ⟨#[12, 114, 112, 122, 45, 112, 97, 115, 115, 116, 104, 114, 117]⟩ (.int .i64 2) (by decide)
  have b3 := below_grown b2 g3 b2.size (Nat.le_refl _)
  obtain ⟨w4, e4, h4, g4⟩ := h3.insert ut uk ⟨#[8, 114, 112, 122, 45, 100, 114, 111, 112]⟩ (.int .i64 3) (by decide)
  have b4 := below_grown b3 g4 b3.size (Nat.le_refl _)
  obtain ⟨w5, e5, h5, g5⟩ := h4.insert ut uk ⟨#[12, 114, 112, 122, 45, 116, 99, 112, 45, 111, 110, 108, 121]⟩ (.int .i64 6) (by decide)
  have b5 := below_grown b4 g5 b4.size (Nat.le_refl _)
  clear ut uk h0 h1 h2 h3 h4 g1 g2 g3 g4 g5 b0 b1 b2 b3 b4
  go_enter Tryd.func55, Tryd.ntmps55
  go_wp2_with fail
  go_ret
  exact ⟨_, rfl, h5, b5⟩
/-- What a target means: the kind, the target, wild or not. -/
def tgtOf (s : ByteArray) : Int × ByteArray × Bool :=
  match smGet specL s with
  | some (.int .i64 k) => (k, ⟨#[]⟩, false)
  | _ => match labelsOf s with
    | some (l :: m :: ls) => if l = [42] then (7, ⟨(wire (m :: ls)).toArray⟩, true) else (7, s, false)
    | _ => (7, s, false)
def actV (a : Int × ByteArray × Bool) : Value := .agg #[.int .i64 a.1, .string a.2.1, .bool a.2.2, .slice none 0 0]
theorem specL_get (s : ByteArray) : (smHas specL s = false ∧ smGet specL s = none) ∨ ∃ k : Int, smHas specL s = true ∧ smGet specL s = some (.int .i64 k) := by
  unfold smHas smGet specL
  cases h1 : (s.data.toList == (ByteArray.mk #[]).data.toList)
  · cases h2 : (s.data.toList == (ByteArray.mk #[1, 42]).data.toList)
    · cases h3 : (s.data.toList == (ByteArray.mk #[12, 114, 112, 122, 45, 112, 97, 115, 115, 116, 104, 114, 117]).data.toList)
      · cases h4 : (s.data.toList == (ByteArray.mk #[8, 114, 112, 122, 45, 100, 114, 111, 112]).data.toList)
        · cases h5 : (s.data.toList == (ByteArray.mk #[12, 114, 112, 122, 45, 116, 99, 112, 45, 111, 110, 108, 121]).data.toList)
          · left; simp only [List.any_cons, List.any_nil, List.find?_cons, List.find?_nil, h1, h2, h3, h4, h5, Bool.or_false, Option.map_none, and_self]
          · right; exact ⟨6, by simp only [List.any_cons, h1, h2, h3, h4, h5, Bool.false_or, Bool.true_or], by simp only [List.find?_cons, h1, h2, h3, h4, h5, Option.map_some]⟩
        · right; exact ⟨3, by simp only [List.any_cons, h1, h2, h3, h4, Bool.false_or, Bool.true_or], by simp only [List.find?_cons, h1, h2, h3, h4, Option.map_some]⟩
      · right; exact ⟨2, by simp only [List.any_cons, h1, h2, h3, Bool.false_or, Bool.true_or], by simp only [List.find?_cons, h1, h2, h3, Option.map_some]⟩
    · right; exact ⟨5, by simp only [List.any_cons, h1, h2, Bool.false_or, Bool.true_or], by simp only [List.find?_cons, h1, h2, Option.map_some]⟩
  · right; exact ⟨4, by simp only [List.any_cons, h1, Bool.true_or], by simp only [List.find?_cons, h1, Option.map_some]⟩
set_option maxHeartbeats 1600000 in
theorem ofTarget_any (s : ByteArray) (w : World) (hs : s.size ≤ 140737488355328) :
    Calls Tryd.prog 42 #[.string s] w fun e w' => e = .returned (actV (tgtOf s)) ∧ Below w.heap.size w w' := by
  obtain ⟨W, hW⟩ : ∃ W, W = w.alloc (.cells #[.int .i64 0, .string ⟨#[]⟩, .bool false, .slice none 0 0] 50) := ⟨_, rfl⟩
  have hC : Cs W w.heap.size [.int .i64 0, .string ⟨#[]⟩, .bool false, .slice none 0 0] := by rw [hW]; exact Cs.new w _ _ _
  have hbW : Below w.heap.size w W := by rw [hW]; exact (Below.refl _ _).alloc (Nat.le_refl _) _
  have SP := Lib.hid (specials_any W)
  have LB := Lib.hid (fun w => labels_any s w (by unfold maxLen; omega))
  have PR := Lib.hid (fun w => parent_any s w (by unfold maxLen; omega))
  go_enter Tryd.func42, Tryd.ntmps42
  go_wp2_with fail
  rw [← hW]
  clear hW
  refine SP.out.mono ?_
  rintro e w1 ⟨b, rfl, hsm, hb1'⟩
  have hC1 := hC.below hb1'
  have hb1 := below_trans hbW hbW.size hb1'
  have hlk := hsm.lookup (P := Tryd.prog) Tryd.underlying115 Tryd.underlying29 (z := .int .i64 0) (by rfl) s
  rcases specL_get s with ⟨hh, hg⟩ | ⟨k, hh, hg⟩
  · rw [hh, hg] at hlk
    simp only [Option.getD_none] at hlk
    have htg : tgtOf s = match labelsOf s with
      | some (l :: m :: ls) => if l = [42] then (7, ⟨(wire (m :: ls)).toArray⟩, true) else (7, s, false)
      | _ => (7, s, false) := by unfold tgtOf; rw [hg]
    have HG := Lib.hid htg
    clear hh hg hsm hC hbW hb1' SP htg
    go_wp2_with fail
    refine (LB.out _).mono ?_
    rintro e w2 ⟨v, rfl, hbuf⟩
    have hC2 := hC1.below hbuf.below
    have hb2 := below_trans hb1 hb1.size hbuf.below
    have hlen := hbuf.len
    obtain ⟨A', c', rfl, hv1, hv2, hv3⟩ := hbuf.slice
    have hSl := hbuf.sl
    clear hC1 hb1 hv3 hbuf LB
    cases hlo : labelsOf s with
    | none =>
      have hL : labelsL s = [] := by unfold labelsL; rw [hlo]; rfl
      have HT : Hid (tgtOf s = (7, s, false)) := Lib.hid (by rw [HG.out, hlo])
      rw [hL]
      clear hlo hL HG hSl hlen hv1 PR
      have c0 := hC2.get 0 _
      have c1 := hC2.get 1 _
      have c2 := hC2.get 2 _
      have c3 := hC2.get 3 _
      have f0 := hC2.froz 0
      have f1 := hC2.froz 1
      have f2 := hC2.froz 2
      have f3 := hC2.froz 3
      clear hC2
      go_wp2_with fail
      refine bodyPost_ret (v := .agg #[.int .i64 7, .string s, .bool false, .slice none 0 0]) (by simp [results, Tryd.results42, go_sem, c0, c1, c2, c3]) rfl ⟨by rw [HT.out]; rfl, ?_⟩
      iterate 4 (refine Below.setCell ?_ (by simp) _)
      exact hb2
    | some LS =>
      match LS with
      | [] =>
        have hL : labelsL s = [] := by unfold labelsL; rw [hlo]; rfl
        have HT : Hid (tgtOf s = (7, s, false)) := Lib.hid (by rw [HG.out, hlo])
        rw [hL]
        clear hlo hL HG hSl hlen hv1 PR
        have c0 := hC2.get 0 _
        have c1 := hC2.get 1 _
        have c2 := hC2.get 2 _
        have c3 := hC2.get 3 _
        have f0 := hC2.froz 0
        have f1 := hC2.froz 1
        have f2 := hC2.froz 2
        have f3 := hC2.froz 3
        clear hC2
        go_wp2_with fail
        refine bodyPost_ret (v := .agg #[.int .i64 7, .string s, .bool false, .slice none 0 0]) (by simp [results, Tryd.results42, go_sem, c0, c1, c2, c3]) rfl ⟨by rw [HT.out]; rfl, ?_⟩
        iterate 4 (refine Below.setCell ?_ (by simp) _)
        exact hb2
      | [l] =>
        have hL : labelsL s = [l] := by unfold labelsL; rw [hlo]; rfl
        have HT : Hid (tgtOf s = (7, s, false)) := Lib.hid (by rw [HG.out, hlo])
        rw [hL]
        clear hlo hL HG hSl hlen hv1 PR
        have c0 := hC2.get 0 _
        have c1 := hC2.get 1 _
        have c2 := hC2.get 2 _
        have c3 := hC2.get 3 _
        have f0 := hC2.froz 0
        have f1 := hC2.froz 1
        have f2 := hC2.froz 2
        have f3 := hC2.froz 3
        clear hC2
        go_wp2_with fail
        refine bodyPost_ret (v := .agg #[.int .i64 7, .string s, .bool false, .slice none 0 0]) (by simp [results, Tryd.results42, go_sem, c0, c1, c2, c3]) rfl ⟨by rw [HT.out]; rfl, ?_⟩
        iterate 4 (refine Below.setCell ?_ (by simp) _)
        exact hb2
      | l :: m :: ls =>
        have hL : labelsL s = l :: m :: ls := by unfold labelsL; rw [hlo]; rfl
        have hPO : parentOf s = some (wire (m :: ls)) := by unfold parentOf; rw [hlo]
        have hn : (1 : Int) < ((labelsL s).length : Int) := by rw [hL]; simp; omega
        obtain ⟨g, off, u, rfl, hg', hu, hcell⟩ := hSl.at_ (show 0 < (labelsL s).length by rw [hL]; simp)
        rw [hL] at hu
        simp only [List.map_cons, List.getElem?_cons_zero, Option.some.injEq] at hu
        subst hu
        have hn2 : (0 : Int) < ((labelsL s).length : Int) := by omega
        rw [hPO] at PR
        unfold sv at hcell PR
        simp only [Option.getD_some, Option.isSome_some] at PR
        obtain ⟨N, hN⟩ : ∃ N, (labelsL s).length = N := ⟨_, rfl⟩
        rw [hN] at hn hn2 ⊢
        rw [Nat.add_zero] at hcell
        by_cases hst : l = [42]
        · have HT : Hid (tgtOf s = (7, ⟨(wire (m :: ls)).toArray⟩, true)) := Lib.hid (by rw [HG.out, hlo]; simp only [hst, if_true])
          subst hst
          generalize ByteArray.mk (wire (m :: ls)).toArray = PT at *
          clear hlo hL HG hSl hlen hv1 hPO hN
          go_wp2_with fail
          refine (PR.out _).mono ?_
          rintro e w3 ⟨rfl, hb3'⟩
          have hC3 := hC2.below hb3'
          have hb3 := below_trans hb2 hb2.size hb3'
          have c0 := hC3.get 0 _
          have c1 := hC3.get 1 _
          have c2 := hC3.get 2 _
          have c3 := hC3.get 3 _
          have f0 := hC3.froz 0
          have f1 := hC3.froz 1
          have f2 := hC3.froz 2
          have f3 := hC3.froz 3
          clear hC3 hC2 hcell hb3'
          go_wp2_with fail
          refine bodyPost_ret (v := .agg #[.int .i64 7, .string PT, .bool true, .slice none 0 0]) (by simp [results, Tryd.results42, go_sem, c0, c1, c2, c3]) rfl ⟨by rw [HT.out]; rfl, ?_⟩
          iterate 4 (refine Below.setCell ?_ (by simp) _)
          exact hb3
        · have HT : Hid (tgtOf s = (7, s, false)) := Lib.hid (by rw [HG.out, hlo]; simp only [hst, if_false])
          obtain ⟨LB, hLB⟩ : ∃ x, x = ByteArray.mk l.toArray := ⟨_, rfl⟩
          have hne : (LB.toList == [42]) = false := by rw [str_is, hLB, mk_toList']; simpa using hst
          rw [← hLB] at hcell
          clear hLB
          clear hlo hL HG hSl hlen hv1 hPO hN hst PR
          have c0 := hC2.get 0 _
          have c1 := hC2.get 1 _
          have c2 := hC2.get 2 _
          have c3 := hC2.get 3 _
          have f0 := hC2.froz 0
          have f1 := hC2.froz 1
          have f2 := hC2.froz 2
          have f3 := hC2.froz 3
          clear hC2
          go_wp2_with fail
          refine bodyPost_ret (v := .agg #[.int .i64 7, .string s, .bool false, .slice none 0 0]) (by simp [results, Tryd.results42, go_sem, c0, c1, c2, c3]) rfl ⟨by rw [HT.out]; rfl, ?_⟩
          iterate 4 (refine Below.setCell ?_ (by simp) _)
          exact hb2
  · rw [hh, hg] at hlk
    have ht : tgtOf s = (k, ⟨#[]⟩, false) := by unfold tgtOf; rw [hg]
    simp only [Option.getD_some] at hlk
    have HT := Lib.hid ht
    have c0 := hC1.get 0 _
    have c1 := hC1.get 1 _
    have c2 := hC1.get 2 _
    have c3 := hC1.get 3 _
    have f0 := hC1.froz 0
    have f1 := hC1.froz 1
    have f2 := hC1.froz 2
    have f3 := hC1.froz 3
    clear ht hh hg hsm hC hC1 hbW hb1' SP LB PR
    go_wp2_with fail
    refine bodyPost_ret (v := .agg #[.int .i64 k, .string ⟨#[]⟩, .bool false, .slice none 0 0]) (by simp [results, Tryd.results42, go_sem, c0, c1, c2, c3]) rfl ⟨by rw [HT.out]; rfl, ?_⟩
    iterate 4 (refine Below.setCell ?_ (by simp) _)
    exact hb1
end Go.Proofs.YtkdknfedieeenaaDoor
namespace Go.Proofs.YtkdknfedieeenaaDoor
open Go.RowKit
set_option linter.unusedVariables false

/-- The bytes are a name's. -/
def mayL (l : List UInt8) : Prop := (nameLabels l).isSome = true
/-- A name, a byte 0, and what stands behind it. -/
def IsCut (l n t : List UInt8) : Prop := mayL n ∧ l = n ++ 0 :: t
theorem mayL_wire {n : List UInt8} (h : mayL n) : ∃ ls, n = wire ls ∧ (∀ x ∈ ls, okLabel x = true) ∧ n.length ≤ 254 := by
  unfold mayL at h
  obtain ⟨ls, hl⟩ := Option.isSome_iff_exists.1 h
  have := (nameLabels_iff _ _).1 hl
  exact ⟨ls, this.2.1, this.2.2, this.1⟩
/-- A place at which labels begin, or the name ends, if the bytes begin with one. -/
def At (l : List UInt8) (p : Nat) : Prop := ∀ ls t, (∀ x ∈ ls, okLabel x = true) → l = wire ls ++ 0 :: t → ∃ k, k ≤ ls.length ∧ p = (wire (ls.take k)).length
theorem At.start (l : List UInt8) : At l 0 := fun ls t _ _ => ⟨0, Nat.zero_le _, by simp [wire]⟩
theorem at_head {l : List UInt8} {ls : List (List UInt8)} {t : List UInt8} (hl : l = wire ls ++ 0 :: t) (k : Nat) (hk : k ≤ ls.length) {p : Nat} (hp : p = (wire (ls.take k)).length) :
    l[p]? = (wire (ls.drop k) ++ 0 :: t)[0]? := by
  have h1 : l = wire (ls.take k) ++ (wire (ls.drop k) ++ 0 :: t) := by
    rw [← List.append_assoc, ← wire_append, List.take_append_drop]; exact hl
  rw [h1, hp, List.getElem?_append_right (Nat.le_refl _), Nat.sub_self]
theorem okLabel_len {x : List UInt8} (h : okLabel x = true) : 1 ≤ x.length ∧ x.length ≤ 63 := by
  simp only [okLabel, Bool.and_eq_true, decide_eq_true_eq] at h
  exact h.1
theorem ofNat_small (n : Nat) (h : n < 256) : (UInt8.ofNat n).toNat = n := by simp; omega
theorem at_more {l : List UInt8} {ls : List (List UInt8)} {t : List UInt8} (hok : ∀ x ∈ ls, okLabel x = true) (hl : l = wire ls ++ 0 :: t) (k : Nat) (hk : k ≤ ls.length) {p : Nat} (hp : p = (wire (ls.take k)).length) (c : UInt8) (hc : l[p]? = some c) :
    (k = ls.length ∧ c = 0) ∨ ∃ x, ls[k]? = some x ∧ c.toNat = x.length ∧ 1 ≤ x.length := by
  rw [at_head hl k hk hp] at hc
  rcases Nat.lt_or_ge k ls.length with h | h
  · right
    refine ⟨ls[k], List.getElem?_eq_getElem h, ?_⟩
    rw [List.drop_eq_getElem_cons h, wire_cons] at hc
    simp only [List.cons_append, List.getElem?_cons_zero, Option.some.injEq] at hc
    have h2 := okLabel_len (hok _ (List.getElem_mem h))
    rw [← hc, ofNat_small _ (by omega)]
    exact ⟨rfl, h2.1⟩
  · left
    rw [List.drop_eq_nil_of_le h] at hc
    simp [wire] at hc
    exact ⟨by omega, hc.symm⟩
theorem At.next {l : List UInt8} {p : Nat} (h : At l p) (c : UInt8) (hc : l[p]? = some c) (h0 : c ≠ 0) : At l (p + 1 + c.toNat) := by
  intro ls t hok hl
  obtain ⟨k, hk, hp⟩ := h ls t hok hl
  rcases at_more hok hl k hk hp c hc with ⟨_, h1⟩ | ⟨x, hx, hcx, _⟩
  · exact absurd h1 h0
  · have hlt := (List.getElem?_eq_some_iff.1 hx).1
    refine ⟨k + 1, by omega, ?_⟩
    have hx2 : ls[k] = x := (List.getElem?_eq_some_iff.1 hx).2
    rw [List.take_succ_eq_append_getElem hlt, wire_append, hx2, List.length_append, ← hp, hcx]
    simp [wire]; omega
theorem At.stop {l : List UInt8} {p : Nat} (h : At l p) (hc : l[p]? = some 0) (n t : List UInt8) (hn : IsCut l n t) : n = l.take p ∧ t = l.drop (p + 1) := by
  obtain ⟨ls, rfl, hok, _⟩ := mayL_wire hn.1
  obtain ⟨k, hk, hp⟩ := h ls t hok hn.2
  rcases at_more hok hn.2 k hk hp 0 hc with ⟨h1, _⟩ | ⟨x, hx, hcx, h1⟩
  · have h2 : ls.take k = ls := by rw [h1, List.take_length]
    rw [h2] at hp
    rw [hn.2, hp]
    constructor
    · simp
    · rw [List.drop_append, List.drop_eq_nil_of_le (by omega)]; simp
  · simp at hcx; omega
theorem At.over {l : List UInt8} {p : Nat} (h : At l p) (hp : l.length ≤ p) (n t : List UInt8) (hn : IsCut l n t) : False := by
  obtain ⟨ls, rfl, hok, _⟩ := mayL_wire hn.1
  obtain ⟨k, hk, hpk⟩ := h ls t hok hn.2
  have h1 : (wire ls).length = (wire (ls.take k)).length + (wire (ls.drop k)).length := by rw [← List.length_append, ← wire_append, List.take_append_drop]
  have h2 : l.length = (wire ls).length + (t.length + 1) := by rw [hn.2]; simp
  omega
theorem cut_here {l : List UInt8} {p : Nat} (hc : l[p]? = some 0) (hm : mayL (l.take p)) : IsCut l (l.take p) (l.drop (p + 1)) := by
  refine ⟨hm, ?_⟩
  obtain ⟨hp, hz⟩ := List.getElem?_eq_some_iff.1 hc
  conv => lhs; rw [← List.take_append_drop p l, List.drop_eq_getElem_cons hp, hz]
theorem At.one {l n t n' t' : List UInt8} (h : IsCut l n t) (h' : IsCut l n' t') : n = n' ∧ t = t' := by
  obtain ⟨ls, rfl, hok, _⟩ := mayL_wire h.1
  obtain ⟨ls', rfl, hok', _⟩ := mayL_wire h'.1
  suffices ∀ (a b : List (List UInt8)), (∀ x ∈ a, okLabel x = true) → (∀ x ∈ b, okLabel x = true) → wire a ++ 0 :: t = wire b ++ 0 :: t' → wire a = wire b ∧ t = t' from this _ _ hok hok' (h.2.symm.trans h'.2)
  intro a
  induction a with
  | nil =>
    intro b _ hb he
    cases b with
    | nil => simp [wire] at he; exact ⟨rfl, he⟩
    | cons y b =>
      have h1 := okLabel_len (hb y (by simp))
      rw [wire_cons] at he
      simp [wire] at he
      have h2 := congrArg UInt8.toNat he.1
      simp at h2; omega
  | cons x a ih =>
    intro b ha hb he
    have h1 := okLabel_len (ha x (by simp))
    cases b with
    | nil =>
      rw [wire_cons] at he
      simp [wire] at he
      have h2 := congrArg UInt8.toNat he.1
      simp at h2; omega
    | cons y b =>
      have h2 := okLabel_len (hb y (by simp))
      rw [wire_cons, wire_cons] at he
      simp only [List.cons_append, List.cons.injEq, List.append_assoc] at he
      have h3 := congrArg UInt8.toNat he.1
      rw [ofNat_small _ (by omega), ofNat_small _ (by omega)] at h3
      have h4 := List.append_inj he.2 h3
      obtain ⟨h5, h6⟩ := ih b (fun z hz => ha z (by simp [hz])) (fun z hz => hb z (by simp [hz])) h4.2
      rw [wire_cons, wire_cons, h5, h4.1]
      exact ⟨rfl, h6⟩
/-- The data of an SOA: two names, and twenty bytes. -/
def IsSoa (l a b t : List UInt8) : Prop := IsCut l a (b ++ 0 :: t) ∧ mayL b ∧ t.length = 20
theorem IsSoa.one {l a b t a' b' t' : List UInt8} (h : IsSoa l a b t) (h' : IsSoa l a' b' t') : a = a' ∧ b = b' ∧ t = t' := by
  obtain ⟨h1, h2⟩ := At.one h.1 h'.1
  obtain ⟨h3, h4⟩ := At.one (l := b ++ 0 :: t) ⟨h.2.1, rfl⟩ ⟨h'.2.1, h2⟩
  exact ⟨h1, h3, h4⟩
end Go.Proofs.YtkdknfedieeenaaDoor
namespace Go.Proofs.YtkdknfedieeenaaDoor
open Go.RowKit
set_option linter.unusedVariables false
theorem nameZ_may (zs : List Int) (hz : ∀ z ∈ zs, 0 ≤ z ∧ z < 256) : mayL (nameZ zs) := by
  have h := few_labels (wordsZ_ok zs hz) (wordsZ_len zs)
  unfold mayL
  unfold labelsOf at h
  rw [show (ByteArray.mk (wire (wordsZ zs)).toArray).data.toList = wire (wordsZ zs) by simp] at h
  unfold nameZ
  rw [h]; rfl
theorem nameZ_len (zs : List Int) (hz : ∀ z ∈ zs, 0 ≤ z ∧ z < 256) : (nameZ zs).length ≤ 84 := by
  have := few_wire (wordsZ zs) (fun x hx => (wordsZ_ok zs hz x hx).2.2)
  have h2 := wordsZ_len zs
  unfold nameZ; omega
end Go.Proofs.YtkdknfedieeenaaDoor
namespace Go.Proofs.YtkdknfedieeenaaDoor
open Go.RowKit
set_option linter.unusedVariables false
set_option maxRecDepth 20000

/-- An action without records. -/
def act3 (k : Int) (s : ByteArray) (b : Bool) : Value := .agg #[.int .i64 k, .string s, .bool b, .slice none 0 0]
theorem clone_recs_nil (w : World) : Calls Tryd.prog 43 #[.slice none 0 0] w fun e w' => e = .returned (.slice none 0 0) ∧ w = w' := by
  have hq := fun w => Lib.run_eql_slice_nil (P := Tryd.prog) w 48 _ none 0 0 0 0 Tryd.underlying48
  go_enter Tryd.func43, Tryd.ntmps43
  go_wp2_with fail
  go_ret
  exact ⟨rfl, rfl⟩
def overK (k : Int) : Bool := decide (1 ≤ k ∧ k ≤ 6)
set_option maxHeartbeats 1600000 in
theorem over_any (k0 : Int) (s : ByteArray) (b : Bool) (k : Int) (w : World) : Calls Tryd.prog 34 #[act3 k0 s b, .int .i64 k] w fun e w' => e = .returned (if overK k then act3 k ⟨#[]⟩ false else act3 k0 s b) ∧ Below w.heap.size w w' := by
  have CL := Lib.hid (fun w => clone_recs_nil w)
  have h : k = 1 ∨ k = 2 ∨ k = 3 ∨ k = 4 ∨ k = 5 ∨ k = 6 ∨ (k < 1 ∨ 6 < k) := by omega
  unfold act3
  rcases h with rfl | rfl | rfl | rfl | rfl | rfl | h
  iterate 6
    (· rw [show ∀ x y : Value, (if overK _ = true then x else y) = x from fun _ _ => rfl]
       go_enter Tryd.func34, Tryd.ntmps34
       go_wp2_with fail
       refine bodyPost_ret (v := .agg #[.int .i64 _, .string ⟨#[]⟩, .bool false, .slice none 0 0]) (by simp [results, Tryd.results34, go_sem]) rfl ⟨rfl, ?_⟩
       exact ((Below.refl _ _).alloc (Nat.le_refl _) _).alloc (by simp) _)
  · have ho : overK k = false := by unfold overK; simp; omega
    rw [ho]
    have h1 : (k == 1) = false := by simp; omega
    have h2 : (k == 2) = false := by simp; omega
    have h3 : (k == 3) = false := by simp; omega
    have h4 : (k == 4) = false := by simp; omega
    have h5 : (k == 5) = false := by simp; omega
    have h6 : (k == 6) = false := by simp; omega
    clear h ho
    go_enter Tryd.func34, Tryd.ntmps34
    go_wp2_with fail
    refine (CL.out _).mono ?_
    rintro e w1 ⟨rfl, rfl⟩
    go_wp2_with fail
    refine bodyPost_ret (v := .agg #[.int .i64 k0, .string s, .bool b, .slice none 0 0]) (by simp [results, Tryd.results34, go_sem]) rfl ⟨rfl, ?_⟩
    repeat (first | exact ((Below.refl _ _).alloc (Nat.le_refl _) _).alloc (by simp) _ | refine Below.setCell ?_ (by simp) _)
set_option maxHeartbeats 1600000 in
theorem of_cname (g c : Nat) (nm d : ByteArray) (ttl : Int) (w : World) (hC : Cs w g [.string nm, .int .u16 5, .int .u32 ttl, .string d]) (hd : d.size ≤ 140737488355328) :
    Calls Tryd.prog 32 #[.slice (some ⟨g, 0, none⟩) 1 c] w fun e w' => e = .returned (.tuple #[actV (tgtOf d), .bool true]) ∧ Below w.heap.size w w' := by
  have OT := Lib.hid (fun w => ofTarget_any d w hd)
  have hD := Cs.new w #[.int .i64 0, .string ⟨#[]⟩, .bool false, .slice none 0 0] 50 [.int .i64 0, .string ⟨#[]⟩, .bool false, .slice none 0 0]
  have hlt := hC.lt
  have c1 := hC.get 1 _
  have c3 := hC.get 3 _
  obtain ⟨k, s, b, hv⟩ : ∃ k s b, actV (tgtOf d) = .agg #[.int .i64 k, .string s, .bool b, .slice none 0 0] := ⟨_, _, _, rfl⟩
  rw [hv] at OT
  have HV := Lib.hid hv
  clear hv hC
  go_enter Tryd.func32, Tryd.ntmps32
  go_wp2_with fail
  refine (OT.out _).mono ?_
  rintro e w1 ⟨rfl, hb1'⟩
  have hD1 := hD.below hb1'
  have hb1 := below_alloc _ (Below.refl _ _) (Nat.le_refl _) hb1'
  have d0 := hD1.get 0 _
  have d1 := hD1.get 1 _
  have d2 := hD1.get 2 _
  have d3 := hD1.get 3 _
  have f0 := hD1.froz 0
  have f1 := hD1.froz 1
  have f2 := hD1.froz 2
  have f3 := hD1.froz 3
  clear hD hD1 hb1' c1 c3 hlt
  go_wp2_with fail
  refine bodyPost_ret (v := .tuple #[.agg #[.int .i64 k, .string s, .bool b, .slice none 0 0], .bool true]) (by simp [results, Tryd.results32, go_sem, d0, d1, d2, d3]) rfl ⟨by rw [HV.out], ?_⟩
  iterate 4 (refine Below.setCell ?_ (by simp) _)
  exact hb1
end Go.Proofs.YtkdknfedieeenaaDoor
namespace Go.Proofs.YtkdknfedieeenaaDoor
open Go.RowKit
set_option linter.unusedVariables false
set_option maxRecDepth 20000

theorem actV_act3 (k : Int) (s : ByteArray) (b : Bool) : actV (k, s, b) = act3 k s b := rfl
end Go.Proofs.YtkdknfedieeenaaDoor
namespace Go.Proofs.YtkdknfedieeenaaDoor
open Go.RowKit
set_option linter.unusedVariables false
set_option maxRecDepth 20000

/-- P14.1's reading of a CNAME's target. -/
def ofL (s : ByteArray) (ls : List (List UInt8)) : Int × ByteArray × Bool :=
  match ls with
  | [] => (4, ⟨#[]⟩, false)
  | [l] => if l = [42] then (5, ⟨#[]⟩, false) else if l = [114, 112, 122, 45, 112, 97, 115, 115, 116, 104, 114, 117] then (2, ⟨#[]⟩, false) else if l = [114, 112, 122, 45, 100, 114, 111, 112] then (3, ⟨#[]⟩, false)
    else if l = [114, 112, 122, 45, 116, 99, 112, 45, 111, 110, 108, 121] then (6, ⟨#[]⟩, false) else (7, s, false)
  | l :: m :: ls => if l = [42] then (7, ⟨(wire (m :: ls)).toArray⟩, true) else (7, s, false)
theorem lbl_other (l : List UInt8) (k : List UInt8) (h : l ≠ k) : ((ByteArray.mk l.toArray).toList == k) = false := by rw [str_is, mk_toList']; simpa using h
theorem lbl_same (l : List UInt8) : ((ByteArray.mk l.toArray).toList == l) = true := by rw [str_is, mk_toList']; simp
theorem okLabel_fold {x : List UInt8} (h : okLabel x = true) : x.map fold8 = x := by
  simp only [okLabel, Bool.and_eq_true, List.all_eq_true] at h
  have : x.map fold8 = x.map id := List.map_congr_left fun c hc => by
    have := h.2 c hc
    unfold fold8
    rw [if_neg (by simpa using this)]; rfl
  rw [this, List.map_id]
theorem ok_make {ls : List (List UInt8)} (h : ∀ x ∈ ls, okLabel x = true) (hl : (wire ls).length ≤ 254) : makeL ls = some (wire ls) := by
  have hlow : lowL ls = ls := by
    unfold lowL
    have : ls.map (·.map fold8) = ls.map id := List.map_congr_left fun x hx => okLabel_fold (h x hx)
    rw [this, List.map_id]
  unfold makeL
  rw [hlow, if_pos ⟨List.all_eq_true.2 fun x hx => by have := okLabel_len (h x hx); unfold okLen; simpa using this, hl⟩]
theorem ok_make_any {ls : List (List UInt8)} (h : ∀ x ∈ ls, okLabel x = true) (hl : (wire ls).length ≤ 254) (A : Option Addr) (n c : Nat) (w : World) (hA : Sl w w.heap.size 1 A n (ls.map sv)) (hn : n ≤ maxLen) :
    Calls Tryd.prog 11 #[.slice A n c] w fun e w' => e = .returned (.tuple #[sv (wire ls), .bool true]) ∧ Below w.heap.size w w' := by
  have hv : ls.map sv = (ls.map fun l => (⟨l.toArray⟩ : ByteArray)).map Value.string := by simp [sv, Function.comp_def]
  rw [hv] at hA
  have hb : bytesOf (ls.map fun l => (⟨l.toArray⟩ : ByteArray)) = ls := by unfold bytesOf; simp [Function.comp_def]
  have hm : makeOf (ls.map fun l => (⟨l.toArray⟩ : ByteArray)) = some (wire ls) := by unfold makeOf; rw [hb]; exact ok_make h hl
  refine (make_any A n c _ w hA (by
    intro t ht
    obtain ⟨l, hl', rfl⟩ := List.mem_map.1 ht
    have := okLabel_len (h l hl')
    rw [mk_size]; unfold maxLen; omega) hn).mono ?_
  rintro e w' ⟨rfl, hb'⟩
  refine ⟨?_, hb'⟩
  unfold nameOf
  rw [hm]; rfl
end Go.Proofs.YtkdknfedieeenaaDoor
namespace Go.Proofs.YtkdknfedieeenaaDoor
open Go.RowKit
set_option linter.unusedVariables false
set_option linter.unusedSimpArgs false
set_option maxRecDepth 20000
/-- An action: what it does, its target, wild or not, its records. -/
abbrev ActionT := Int × ByteArray × Bool × List RecT
def actEq (a a' : ActionT) : Bool := decide (a.1 = a'.1) && (decide (a.2.1 = a'.2.1) && (decide (a.2.2.1 = a'.2.2.1) && decide (a.2.2.2 = a'.2.2.2)))
theorem actEq_iff (a a' : ActionT) : actEq a a' = true ↔ a = a' := by
  obtain ⟨k, s, b, rs⟩ := a
  obtain ⟨k', s', b', rs'⟩ := a'
  unfold actEq
  simp [Prod.ext_iff]
theorem actEq_self (a : ActionT) : actEq a a = true := (actEq_iff a a).2 rfl
theorem actEq_ne {a a' : ActionT} (h : a ≠ a') : actEq a a' = false := by
  cases e : actEq a a' with
  | false => rfl
  | true => exact absurd ((actEq_iff _ _).1 e) h
def actionV (k : Int) (s : ByteArray) (b : Bool) (A : Option Addr) (n c : Nat) : Value := .agg #[.int .i64 k, .string s, .bool b, .slice A n c]
theorem str_eq_of {s t : ByteArray} (h : (s.toList == t.toList) = true) : s = t := by
  have := eq_of_beq h; rw [ByteArray.toList_eq, ByteArray.toList_eq] at this; exact ByteArray.ext (Array.ext' this)
theorem str_ne_of {s t : ByteArray} (h : (s.toList == t.toList) = false) : s ≠ t := by rintro rfl; simp at h
end Go.Proofs.YtkdknfedieeenaaDoor
namespace Go.Proofs.YtkdknfedieeenaaDoor
open Go.RowKit
set_option linter.unusedVariables false
set_option linter.unusedSimpArgs false
set_option maxRecDepth 20000
/-- A type that no local data have. -/
def badT (r : RecT) : Bool := r.2.1 == 6 || (r.2.1 == 2 || r.2.1 == 5)
def zeroA : Value := .agg #[.int .i64 0, .string ⟨#[]⟩, .bool false, .slice none 0 0]
/-- What is known of the records when Of is called. -/
structure Rows4 (w : World) (A : Option Addr) (c : Nat) (rs : List RecT) : Prop where
  sl : Sl w w.heap.size 4 A rs.length (flatR rs)
  none_ : A = none → rs.length = 0 ∧ c = 0
  few : rs.length ≤ 1000
theorem Rows4.recs {w : World} {A : Option Addr} {c : Nat} {rs : List RecT} (h : Rows4 w A c rs) : Recs w A rs := h.sl.recs (Nat.le_refl _) rfl
theorem Rows4.below {w w' : World} {A : Option Addr} {c : Nat} {rs : List RecT} (h : Rows4 w A c rs) (hb : Below w.heap.size w w') : Rows4 w' A c rs := ⟨(h.sl.below hb).more hb.size, h.none_, h.few⟩
theorem of_none (c : Nat) (A : Option Addr) (w : World) : Calls Tryd.prog 32 #[.slice A 0 c] w fun e w' => e = .returned (.tuple #[zeroA, .bool false]) ∧ Below w.heap.size w w' := by
  go_enter Tryd.func32, Tryd.ntmps32
  go_wp2_with fail
  refine bodyPost_ret (v := .tuple #[.agg #[.int .i64 0, .string ⟨#[]⟩, .bool false, .slice none 0 0], .bool false]) (by simp [results, Tryd.results32, go_sem]) rfl ⟨by unfold zeroA; rfl, ?_⟩
  exact (Below.refl _ _).alloc (Nat.le_refl _) _
/-- What Of tells of records that are some, and no CNAME alone. -/
def OfMore (w : World) (rs : List RecT) (e : Ending) (w' : World) : Prop := (rs.any badT = true ∧ e = .returned (.tuple #[zeroA, .bool false]) ∧ Below w.heap.size w w') ∨
      (rs.any badT = false ∧ ∃ v, e = .returned (.tuple #[.agg #[.int .i64 8, .string ⟨#[]⟩, .bool false, v], .bool true]) ∧ OBM 4 w.heap.size w v rs.length (flatR rs) w')
set_option maxHeartbeats 3200000 in
theorem of_more (A : Option Addr) (c : Nat) (rs : List RecT) (w : World) (h : Rows4 w A c rs) (hne : rs ≠ []) (h1 : ∀ r, rs = [r] → ¬ r.2.1 = 5) :
    Calls Tryd.prog 32 #[.slice A rs.length c] w (OfMore w rs) := by
  have hpos : 0 < rs.length := List.length_pos_iff.2 hne
  have hposi : (0 : Int) < rs.length := by omega
  have hfew := h.few
  have hfi : (rs.length : Int) ≤ 1000 := by omega
  obtain ⟨W, hW⟩ : ∃ W, W = w.alloc (.cells #[.int .i64 0, .string ⟨#[]⟩, .bool false, .slice none 0 0] 50) := ⟨_, rfl⟩
  have hD : Cs W w.heap.size [.int .i64 0, .string ⟨#[]⟩, .bool false, .slice none 0 0] := by rw [hW]; exact Cs.new w _ _ _
  have hbW : Below w.heap.size w W := by rw [hW]; exact (Below.refl _ _).alloc (Nat.le_refl _) _
  obtain ⟨g, hg⟩ : ∃ g, g = w.heap.size := ⟨_, rfl⟩
  have CL := Lib.hid (fun w (h : Rows4 w A c rs) => clone_recs A rs.length c (flatR rs) w w.heap.size h.sl (flatR_one rs) h.none_ (by omega))
  have H := Lib.hid h
  have H1 := Lib.hid h1
  have HW := Lib.hid hW
  have HD := Lib.hid hD
  have HBW := Lib.hid hbW
  have HG := Lib.hid hg
  clear h h1 hW hD hbW hg hne
  obtain ⟨r0, hr0⟩ : ∃ r, rs[0]? = some r := ⟨_, List.getElem?_eq_getElem hpos⟩
  obtain ⟨b, off, rfl, hb, z0, z1, z2, z3⟩ := (H.out).recs 0 _ hr0
  simp only [Nat.zero_mul, Nat.add_zero] at z0 z1 z2 z3
  have HR0 := Lib.hid hr0
  obtain ⟨N, hN⟩ : ∃ N, rs.length = N := ⟨_, rfl⟩
  have HT : Hid (N = 1 → ¬ r0.2.1 = 5) := Lib.hid (by
    intro h1
    have : rs = [r0] := by
      match rs, hr0, hN with
      | [a], h, _ => simp at h; rw [h]
      | [], h, _ => simp at h
      | a :: b :: l, h, h2 => simp at h2; omega
    exact H1.out r0 this)
  rw [hN] at CL hpos hposi hfew hfi ⊢
  have HN := Lib.hid hN
  clear hr0 hN H1
  have hl0 : ((N : Int) == 0) = false := by simp; omega
  go_enter Tryd.func32, Tryd.ntmps32
  by_cases hl1 : N = 1
  all_goals
    first
    | (subst hl1
       have ht := HT.out rfl
       have ht5 : (r0.2.1 == 5) = false := by simpa using ht
       clear ht
       obtain ⟨N, hNN⟩ : ∃ N : Nat, N = 1 := ⟨1, rfl⟩
       have HNN := Lib.hid hNN
       clear hNN
       go_wp2_with fail)
    | (have hli : ((N : Int) == 1) = false := (by simp; omega)
       have HNN : Hid (N = N) := Lib.hid rfl
       go_wp2_with fail)
  all_goals
    rw [← HW.out]
    have HZ := Lib.hid z1
    clear z0 z1 z2 z3 hb
    go_loopw [27] (fun i wr => ∃ k : Nat, k ≤ N ∧ i = .int .i64 k ∧ Hid (∀ r ∈ rs.take k, badT r = false) ∧ Hid (Below W.heap.size W wr)) (fun i _ => N - (intOf i).toNat)
    case atStart => exact ⟨0, Nat.zero_le _, rfl, Lib.hid (by simp), Lib.hid (Below.refl _ _)⟩
    case round =>
      obtain ⟨k, hk, rfl, HK, HB⟩ := hrel
      have HBw := Lib.hid (below_trans HBW.out HBW.out.size HB.out)
      by_cases hlt : k < N
      · have hlt' : (k : Int) < N := by omega
        try (have hlt1 : (k : Int) < 1 := by have := HNN.out; omega)
        obtain ⟨r, hr⟩ : ∃ r, rs[k]? = some r := ⟨_, List.getElem?_eq_getElem (by have a1 := HN.out; have a2 := HNN.out; omega)⟩
        obtain ⟨b', off', he, hb, z0, z1, z2, z3⟩ := (H.out.below HBw.out).recs k _ hr
        injection he with he
        injection he with he1 he2
        subst he1 he2
        have HR := Lib.hid hr
        clear hr
        have hD := HD.out.below HB.out
        have d0 := hD.get 0 _
        have d1 := hD.get 1 _
        have d2 := hD.get 2 _
        have d3 := hD.get 3 _
        have f0 := hD.froz 0
        have f1 := hD.froz 1
        have f2 := hD.froz 2
        have f3 := hD.froz 3
        have hg := hD.lt
        clear hD
        cases e6 : (r.2.1 == 6) with
        | true =>
          have HBad := Lib.hid (show badT r = true by unfold badT; rw [e6]; rfl)
          go_wp2_with fail
          refine bodyPost_ret (v := .tuple #[.agg #[.int .i64 0, .string ⟨#[]⟩, .bool false, .slice none 0 0], .bool false]) (by simp [results, Tryd.results32, go_sem, d0, d1, d2, d3, hg]) rfl (.inl ⟨List.any_eq_true.2 ⟨r, List.mem_of_getElem? HR.out, HBad.out⟩, by unfold zeroA; rfl, ?_⟩)
          refine Below.alloc ?_ (by simpa using HBw.out.size) _
          iterate 4 (refine Below.setCell ?_ (by simp) _)
          exact HBw.out
        | false =>
          cases e2 : (r.2.1 == 2) with
          | true =>
            have HBad := Lib.hid (show badT r = true by unfold badT; rw [e6, e2]; rfl)
            go_wp2_with fail
            refine bodyPost_ret (v := .tuple #[.agg #[.int .i64 0, .string ⟨#[]⟩, .bool false, .slice none 0 0], .bool false]) (by simp [results, Tryd.results32, go_sem, d0, d1, d2, d3, hg]) rfl (.inl ⟨List.any_eq_true.2 ⟨r, List.mem_of_getElem? HR.out, HBad.out⟩, by unfold zeroA; rfl, ?_⟩)
            refine Below.alloc ?_ (by simpa using HBw.out.size) _
            iterate 4 (refine Below.setCell ?_ (by simp) _)
            exact HBw.out
          | false =>
            cases e5 : (r.2.1 == 5) with
            | true =>
              have HBad := Lib.hid (show badT r = true by unfold badT; rw [e6, e2, e5]; rfl)
              go_wp2_with fail
              refine bodyPost_ret (v := .tuple #[.agg #[.int .i64 0, .string ⟨#[]⟩, .bool false, .slice none 0 0], .bool false]) (by simp [results, Tryd.results32, go_sem, d0, d1, d2, d3, hg]) rfl (.inl ⟨List.any_eq_true.2 ⟨r, List.mem_of_getElem? HR.out, HBad.out⟩, by unfold zeroA; rfl, ?_⟩)
              refine Below.alloc ?_ (by simpa using HBw.out.size) _
              iterate 4 (refine Below.setCell ?_ (by simp) _)
              exact HBw.out
            | false =>
              have HBad := Lib.hid (show badT r = false by unfold badT; rw [e6, e2, e5]; rfl)
              go_wp2_with fail
              go_round
              case rel => exact ⟨k + 1, by omega, by go_num, Lib.hid (by rw [List.take_add_one, HR.out]; intro q hq; exact (List.mem_append.1 hq).elim (fun hq => HK.out q hq) (fun hq => by simp at hq; rw [hq]; exact HBad.out)), Lib.hid (HB.out.alloc HB.out.size _)⟩
              case measure => simp [intOf]; omega
      · have hlt' : ¬ (k : Int) < N := by omega
        have hlt1 : ¬ (k : Int) < 1 := by have := HNN.out; omega
        go_wp2_with fail
        refine (CL.out _ (H.out.below HBw.out)).mono ?_
        rintro e w2 ⟨v, rfl, ho⟩
        have hbel := ho.bel
        have hno : Hid (rs.any badT = false) := Lib.hid (by
          have h := HK.out
          rw [List.take_of_length_le (by have a1 := HN.out; have a2 := HNN.out; omega)] at h
          cases e : rs.any badT with
          | false => rfl
          | true =>
            obtain ⟨q, hq, hqb⟩ := List.any_eq_true.1 e
            rw [h q hq] at hqb; cases hqb)
        have hD := (HD.out.below HB.out).below hbel
        have d0 := hD.get 0 _
        have d1 := hD.get 1 _
        have d2 := hD.get 2 _
        have d3 := hD.get 3 _
        have f0 := hD.froz 0
        have f1 := hD.froz 1
        have f2 := hD.froz 2
        have f3 := hD.froz 3
        have hg := hD.lt
        have HNE : Hid (∀ q, v.ownBlock = some q → q ≠ w.heap.size) := Lib.hid (by
          intro q hq
          have h1 := (ho.lt q hq).1
          have h2 := (HD.out.below HB.out).lt
          omega)
        obtain ⟨A', c', rfl, hA3⟩ := ho.slice3
        have HO := Lib.hid (ho.out HBw.out.size HBw.out)
        clear hD hbel hA3 ho
        go_wp2_with fail
        refine bodyPost_ret (v := .tuple #[.agg #[.int .i64 8, .string ⟨#[]⟩, .bool false, .slice A' N c'], .bool true]) (by simp [results, Tryd.results32, go_sem, d0, d1, d2, d3, hg, HNN.out]) rfl (.inr ⟨hno.out, _, rfl, ?_⟩)
        rw [HN.out]
        have hNN := HNN.out
        try rw [hNN]
        refine HO.out.block ?_ (by first | exact Nat.le_refl _ | simp) (fun q hq => ?_)
        · iterate 4 (refine Below.setCell ?_ (by simp) _)
          exact HO.out.bel
        · have hne : q ≠ w.heap.size := HNE.out q hq
          rw [Below.heap_setCell _ _ _ _ hne, Below.heap_setCell _ _ _ _ hne, Below.heap_setCell _ _ _ _ hne, Below.heap_setCell _ _ _ _ hne]

end Go.Proofs.YtkdknfedieeenaaDoor
namespace Go.Proofs.YtkdknfedieeenaaDoor
open Go.RowKit
set_option linter.unusedVariables false
set_option maxRecDepth 20000
theorem nmB_labels (l : List UInt8) : ∃ LS, labelsOf (nmB l) = some LS ∧ (nmB l).size ≤ 254 := by
  refine ⟨wordsZ (intsB l), ?_, ?_⟩
  · unfold nmB nameZ
    exact few_labels (wordsZ_ok _ (intsB_ok l)) (wordsZ_len _)
  · unfold nmB
    have := nameZ_le (intsB l) (intsB_ok l)
    simpa [ByteArray.size] using this
theorem dataOf_cname (q : Nat) (X s : ByteArray) (h : ((dataOf q X s).1 : Int) = 5) : (dataOf q X s).2 = X := by
  unfold dataOf at h ⊢
  by_cases c0 : q = 0 ∨ q = 1
  · rw [if_pos c0] at h; simp at h
  rw [if_neg c0] at h ⊢
  by_cases c2 : q = 2
  · rw [if_pos c2]
  rw [if_neg c2] at h ⊢
  by_cases c3 : q = 3
  · rw [if_pos c3]
  rw [if_neg c3] at h ⊢
  by_cases c4 : q = 4
  · rw [if_pos c4] at h; simp at h
  rw [if_neg c4] at h ⊢
  by_cases c5 : q = 5
  · rw [if_pos c5] at h; simp at h
  rw [if_neg c5] at h ⊢
  by_cases c6 : q = 6
  · rw [if_pos c6] at h; simp at h
  rw [if_neg c6] at h; simp at h
theorem dataOf_le (q : Nat) (X s : ByteArray) (hX : X.size ≤ 254) (hs : s.size ≤ 30) : (dataOf q X s).2.size ≤ 600 := by
  have k1 : (ByteArray.mk #[0]).size = 1 := rfl
  have k2 : (ByteArray.mk #[UInt8.ofNat s.size]).size = 1 := rfl
  unfold dataOf
  by_cases c0 : q = 0 ∨ q = 1
  · rw [if_pos c0]; simp only [ByteArray.size_extract]; omega
  rw [if_neg c0]
  by_cases c2 : q = 2
  · rw [if_pos c2]; simp only; omega
  rw [if_neg c2]
  by_cases c3 : q = 3
  · rw [if_pos c3]; simp only; omega
  rw [if_neg c3]
  by_cases c4 : q = 4
  · rw [if_pos c4]; simp only [ByteArray.size_append, ByteArray.size_extract, k1]; omega
  rw [if_neg c4]
  by_cases c5 : q = 5
  · rw [if_pos c5]; simp only [ByteArray.size_append, ByteArray.size_extract, k2]; omega
  rw [if_neg c5]
  by_cases c6 : q = 6
  · rw [if_pos c6]; simp only [ByteArray.size_extract]; omega
  rw [if_neg c6]; simp only [ByteArray.size_extract]; omega
theorem txtB_le (s : ByteArray) : (txtB s).size ≤ 30 := by unfold txtB; rw [ByteArray.size_extract]; omega
theorem recOf_data (a : ActT) : (recOf a).2.2.2.size ≤ 600 := by
  obtain ⟨_, -, h⟩ := nmB_labels a.2.2.2.1.2.2.2
  exact dataOf_le _ _ _ h (txtB_le _)
theorem rec_cname (a : ActT) (h : (recOf a).2.1 = 5) : ∃ LS, labelsOf (recOf a).2.2.2 = some LS ∧ (recOf a).2.2.2.size ≤ 254 := by
  have h1 := dataOf_cname _ _ _ h
  have : (recOf a).2.2.2 = nmB a.2.2.2.1.2.2.2 := h1
  rw [this]
  exact nmB_labels _
theorem recOf_name (a : ActT) : (recOf a).1.size ≤ 254 := (nmB_labels a.1.2.2.2).choose_spec.2
end Go.Proofs.YtkdknfedieeenaaDoor
namespace Go.Proofs.YtkdknfedieeenaaDoor
open Go.RowKit
set_option linter.unusedVariables false
set_option maxRecDepth 20000
theorem spec_label (s : ByteArray) (l : List UInt8) (h : s = ⟨(wire [l]).toArray⟩) (LS : List (List UInt8)) (hlo : labelsOf s = some LS) (hl : labelsOf ⟨(wire [l]).toArray⟩ = some [l]) : LS = [l] := by
  rw [h, hl] at hlo; injection hlo with hlo; exact hlo.symm
theorem tgt_ofL (s : ByteArray) (LS : List (List UInt8)) (hlo : labelsOf s = some LS) : tgtOf s = ofL s LS := by
  have hw := (nameLabels_iff _ _).1 hlo
  by_cases e1 : s = ⟨#[]⟩
  · have : LS = [] := by rw [e1] at hlo; have h0 : labelsOf ⟨#[]⟩ = some [] := by decide
                         rw [h0] at hlo; injection hlo with hlo; exact hlo.symm
    subst this e1; decide
  by_cases e2 : s = ⟨#[1, 42]⟩
  · have : LS = [[42]] := by rw [e2] at hlo; have h0 : labelsOf ⟨#[1, 42]⟩ = some [[42]] := by decide
                             rw [h0] at hlo; injection hlo with hlo; exact hlo.symm
    subst this e2; decide +kernel
  by_cases e3 : s = ⟨#[12, 114, 112, 122, 45, 112, 97, 115, 115, 116, 104, 114, 117]⟩
  · have : LS = [[114, 112, 122, 45, 112, 97, 115, 115, 116, 104, 114, 117]] := by
      rw [e3] at hlo
      have h0 : labelsOf ⟨#[12, 114, 112, 122, 45, 112, 97, 115, 115, 116, 104, 114, 117]⟩ = some [[114, 112, 122, 45, 112, 97, 115, 115, 116, 104, 114, 117]] := by decide +kernel
      rw [h0] at hlo; injection hlo with hlo; exact hlo.symm
    subst this e3; decide +kernel
  by_cases e4 : s = ⟨#[8, 114, 112, 122, 45, 100, 114, 111, 112]⟩
  · have : LS = [[114, 112, 122, 45, 100, 114, 111, 112]] := by
      rw [e4] at hlo
      have h0 : labelsOf ⟨#[8, 114, 112, 122, 45, 100, 114, 111, 112]⟩ = some [[114, 112, 122, 45, 100, 114, 111, 112]] := by decide +kernel
      rw [h0] at hlo; injection hlo with hlo; exact hlo.symm
    subst this e4; decide +kernel
  by_cases e5 : s = ⟨#[12, 114, 112, 122, 45, 116, 99, 112, 45, 111, 110, 108, 121]⟩
  · have : LS = [[114, 112, 122, 45, 116, 99, 112, 45, 111, 110, 108, 121]] := by
      rw [e5] at hlo
      have h0 : labelsOf ⟨#[12, 114, 112, 122, 45, 116, 99, 112, 45, 111, 110, 108, 121]⟩ = some [[114, 112, 122, 45, 116, 99, 112, 45, 111, 110, 108, 121]] := by decide +kernel
      rw [h0] at hlo; injection hlo with hlo; exact hlo.symm
    subst this e5; decide +kernel
  have ne : ∀ t : ByteArray, s ≠ t → (s.data.toList == t.data.toList) = false := by
    intro t h
    rw [beq_eq_false_iff_ne]
    intro e
    exact h (ByteArray.ext (Array.ext' e))
  have hg : smGet specL s = none := by
    unfold smGet specL
    simp only [List.find?_cons, List.find?_nil, ne _ e1, ne _ e2, ne _ e3, ne _ e4, ne _ e5, Option.map_none]
  have ws : ∀ l, LS = [l] → s = ⟨(wire [l]).toArray⟩ := by
    rintro l rfl
    exact ByteArray.ext (Array.ext' (by simpa using hw.2.1))
  unfold tgtOf
  rw [hg, hlo]
  match LS, ws, hw, hlo with
  | [], _, hw, _ =>
    exact absurd (ByteArray.ext (Array.ext' (by simpa [wire] using hw.2.1))) e1
  | [l], ws, _, _ =>
    have hs := ws l rfl
    have n1 : l ≠ [42] := by rintro rfl; exact e2 hs
    have n2 : l ≠ [114, 112, 122, 45, 112, 97, 115, 115, 116, 104, 114, 117] := by rintro rfl; exact e3 hs
    have n3 : l ≠ [114, 112, 122, 45, 100, 114, 111, 112] := by rintro rfl; exact e4 hs
    have n4 : l ≠ [114, 112, 122, 45, 116, 99, 112, 45, 111, 110, 108, 121] := by rintro rfl; exact e5 hs
    simp only [ofL, n1, n2, n3, n4, if_false]
  | l :: m :: ls, _, _, _ => simp only [ofL]
end Go.Proofs.YtkdknfedieeenaaDoor
namespace Go.Proofs.YtkdknfedieeenaaDoor
open Go.RowKit
set_option linter.unusedVariables false
set_option maxRecDepth 20000
set_option maxHeartbeats 1600000 in
theorem of_cname2 (g off c : Nat) (d : ByteArray) (w : World) (hlt : g < w.heap.size) (c1 : w.cell? ⟨g, off + 1, none⟩ = some (.int .u16 5)) (c3 : w.cell? ⟨g, off + 3, none⟩ = some (.string d)) (hd : d.size ≤ 140737488355328) :
    Calls Tryd.prog 32 #[.slice (some ⟨g, off, none⟩) 1 c] w fun e w' => e = .returned (.tuple #[actV (tgtOf d), .bool true]) ∧ Below w.heap.size w w' := by
  have OT := Lib.hid (fun w => ofTarget_any d w hd)
  have hD := Cs.new w #[.int .i64 0, .string ⟨#[]⟩, .bool false, .slice none 0 0] 50 [.int .i64 0, .string ⟨#[]⟩, .bool false, .slice none 0 0]
  obtain ⟨k, s, b, hv⟩ : ∃ k s b, actV (tgtOf d) = .agg #[.int .i64 k, .string s, .bool b, .slice none 0 0] := ⟨_, _, _, rfl⟩
  rw [hv] at OT
  have HV := Lib.hid hv
  clear hv
  go_enter Tryd.func32, Tryd.ntmps32
  go_wp2_with fail
  refine (OT.out _).mono ?_
  rintro e w1 ⟨rfl, hb1'⟩
  have hD1 := hD.below hb1'
  have hb1 := below_alloc _ (Below.refl _ _) (Nat.le_refl _) hb1'
  have d0 := hD1.get 0 _
  have d1 := hD1.get 1 _
  have d2 := hD1.get 2 _
  have d3 := hD1.get 3 _
  have f0 := hD1.froz 0
  have f1 := hD1.froz 1
  have f2 := hD1.froz 2
  have f3 := hD1.froz 3
  clear hD hD1 hb1' c1 c3 hlt
  go_wp2_with fail
  refine bodyPost_ret (v := .tuple #[.agg #[.int .i64 k, .string s, .bool b, .slice none 0 0], .bool true]) (by simp [results, Tryd.results32, go_sem, d0, d1, d2, d3]) rfl ⟨by rw [HV.out], ?_⟩
  iterate 4 (refine Below.setCell ?_ (by simp) _)
  exact hb1
/-- What Of tells. -/
def OfAll (w : World) (rs : List RecT) (e : Ending) (w' : World) : Prop :=
  ∃ (k : Int) (s : ByteArray) (b : Bool) (A : Option Addr) (n c : Nat) (is : Bool), e = .returned (.tuple #[.agg #[.int .i64 k, .string s, .bool b, .slice A n c], .bool is]) ∧ Below w.heap.size w w' ∧
    ((is = false ∧ k = 0 ∧ s = ⟨#[]⟩ ∧ b = false ∧ A = none ∧ n = 0 ∧ c = 0 ∧ (rs = [] ∨ (rs.any badT = true ∧ ∀ r, rs = [r] → ¬ r.2.1 = 5))) ∨
    (∃ r, rs = [r] ∧ r.2.1 = 5 ∧ is = true ∧ A = none ∧ n = 0 ∧ c = 0 ∧ tgtOf r.2.2.2 = (k, s, b)) ∨
    (rs ≠ [] ∧ rs.any badT = false ∧ is = true ∧ k = 8 ∧ s = ⟨#[]⟩ ∧ b = false ∧ n = rs.length ∧ Recs w' A rs))
theorem of_all (A : Option Addr) (c : Nat) (rs : List RecT) (w : World) (h : Rows4 w A c rs) (hd : ∀ r ∈ rs, r.2.2.2.size ≤ 140737488355328) :
    Calls Tryd.prog 32 #[.slice A rs.length c] w (OfAll w rs) := by
  by_cases h0 : rs = []
  · subst h0
    refine (of_none c A w).mono ?_
    unfold zeroA
    rintro e w' ⟨rfl, hb⟩
    exact ⟨0, ⟨#[]⟩, false, none, 0, 0, false, rfl, hb, .inl ⟨rfl, rfl, rfl, rfl, rfl, rfl, rfl, .inl rfl⟩⟩
  by_cases h5 : ∃ r, rs = [r] ∧ r.2.1 = 5
  · obtain ⟨r, rfl, hr⟩ := h5
    obtain ⟨b, off, rfl, hlt, -, c1, -, c3⟩ := h.recs 0 r rfl
    rw [hr] at c1
    simp only [Nat.zero_mul, Nat.add_zero] at c1 c3
    refine (of_cname2 b off c r.2.2.2 w hlt c1 c3 (hd r (by simp))).mono ?_
    rintro e w' ⟨rfl, hb⟩
    obtain ⟨k, s, b', hv⟩ : ∃ k s b, tgtOf r.2.2.2 = (k, s, b) := ⟨_, _, _, rfl⟩
    rw [hv]
    exact ⟨k, s, b', none, 0, 0, true, rfl, hb, .inr (.inl ⟨r, rfl, hr, rfl, rfl, rfl, rfl, hv⟩)⟩
  · have h1 : ∀ r, rs = [r] → ¬ r.2.1 = 5 := fun r e h => h5 ⟨r, e, h⟩
    refine (of_more A c rs w h h0 h1).mono ?_
    rintro e w' (⟨hb, rfl, hbel⟩ | ⟨hb, v, rfl, ho⟩)
    · unfold zeroA
      exact ⟨0, ⟨#[]⟩, false, none, 0, 0, false, rfl, hbel, .inl ⟨rfl, rfl, rfl, rfl, rfl, rfl, rfl, .inr ⟨hb, h1⟩⟩⟩
    · obtain ⟨A', c', rfl, -, -, -⟩ := ho.slice
      exact ⟨8, ⟨#[]⟩, false, A', _, c', true, rfl, ho.bel, .inr (.inr ⟨h0, hb, rfl, rfl, rfl, rfl, rfl, ho.recs rfl⟩)⟩
end Go.Proofs.YtkdknfedieeenaaDoor
namespace Go.Proofs.YtkdknfedieeenaaDoor
open Go.RowKit
set_option linter.unusedVariables false
section
variable {P : Program} {ops : Array Oper} {Q : Exit → Act → World → Prop}
/-- Operations one behind the other. -/
def tailWp (P : Program) (Q : Exit → Act → World → Prop) : List Oper → Act → World → Prop
  | [], a, w => Q .normal a w
  | o :: os, a, w => Oper.wp P o a w (fun a' w' => ∃ v, a' = a.put o.dst v ∧ tailWp P Q os a' w') Q
/-- From N on each operation waits for all ahead of it. -/
def tailOk (ops : Array Oper) (N : Nat) : Bool :=
  ((List.range N).all fun i => reachX ops 20 i N) && ((List.range ops.size).all fun j => decide (j ≤ N) || reachX ops 20 (j - 1) j) && ((ops.toList.drop N).all fun o => o.guard.isNone) && decide (N < ops.size)
/-- As Next; an operation that is named fresh gives a block that is new. -/
def NextL (A : Act) (d : Option Tmp) (p : Value → World → Prop) (R : World → Prop) (L : List Nat) (i : Nat) (w : World) (a' : Act) (w' : World) : Prop :=
  ∃ v, a' = A.put d v ∧ p v w' ∧ R w' ∧ Goes w w' ∧ (L.contains i = true → v = .pointer (some ⟨w.heap.size, 0, none⟩) ∧ w.heap.size < w'.heap.size)
theorem nextL {A a' : Act} {d : Option Tmp} {p : Value → World → Prop} {R : World → Prop} {L : List Nat} {i : Nat} {w w' : World} (v : Value) (ha : a' = A.put d v) (hp : p v w') (hR : R w') (he : Goes w w') (hL : L.contains i = false := by rfl) : NextL A d p R L i w a' w' :=
  ⟨v, ha, hp, hR, he, fun h => by rw [hL] at h; cases h⟩
theorem nextL_new {A a' : Act} {d : Option Tmp} {p : Value → World → Prop} {R : World → Prop} {L : List Nat} {i : Nat} {w : World} (o : Obj) (ha : a' = A.put d (.pointer (some ⟨w.heap.size, 0, none⟩))) (hp : p (.pointer (some ⟨w.heap.size, 0, none⟩)) (w.alloc o)) (hR : R (w.alloc o)) : NextL A d p R L i w a' (w.alloc o) :=
  ⟨_, ha, hp, hR, (Below.refl _ _).alloc (Nat.le_refl _) _, fun _ => ⟨rfl, by simp⟩⟩
def OpStepL (P : Program) (ops : Array Oper) (Q : Exit → Act → World → Prop) (Ws : List (Value → World → Prop)) (R : World → Prop) (L : List Nat) (FF : (Nat → Value) → Act) (i : Nat) (o : Oper) : Prop :=
  ∀ (x : Nat → Value) (w : World), R w → Deps (wordOf Ws) x w o.after.toList → (wantedX o x = true → Oper.wp P o (FF x) w (NextL (FF x) o.dst (wordOf Ws i) R L i w) Q) ∧ (wantedX o x = false → wordOf Ws i undef w ∧ L.contains i = false)
def OpStepsL (P : Program) (ops : Array Oper) (Q : Exit → Act → World → Prop) (Ws : List (Value → World → Prop)) (R : World → Prop) (L : List Nat) (FF : (Nat → Value) → Act) (skip : Nat → Bool) : Nat → List Oper → Prop
  | _, [] => True
  | i, o :: os => (skip i = false → OpStepL P ops Q Ws R L FF i o) ∧ OpStepsL P ops Q Ws R L FF skip (i + 1) os
theorem OpStepsL.get {Ws : List (Value → World → Prop)} {R : World → Prop} {L : List Nat} {FF : (Nat → Value) → Act} {skip : Nat → Bool} : ∀ {l : List Oper} {k : Nat}, OpStepsL P ops Q Ws R L FF skip k l → ∀ i o, l[i]? = some o → skip (k + i) = false → OpStepL P ops Q Ws R L FF (k + i) o
  | [], _, _, i, o, h, _ => by simp at h
  | p :: l, k, hs, 0, o, h, hk => by simp at h; subst h; exact hs.1 hk
  | p :: l, k, hs, i + 1, o, h, hk => by
    have := OpStepsL.get hs.2 i o (by simpa using h) (by rwa [show k + 1 + i = k + (i + 1) by omega])
    rwa [show k + 1 + i = k + (i + 1) by omega] at this
/-- The blocks that are named fresh are there, and no two of them the same. -/
def Apart (L : List Nat) (d : Nat → Bool) (x : Nat → Value) (w : World) : Prop :=
  (∀ i ∈ L, d i = true → ∃ g, x i = .pointer (some ⟨g, 0, none⟩) ∧ g < w.heap.size) ∧ ∀ i ∈ L, ∀ j ∈ L, i ≠ j → d i = true → d j = true → x i ≠ x j
theorem Apart.next {L : List Nat} {d : Nat → Bool} {x : Nat → Value} {w w' : World} {i : Nat} {v : Value} (h : Apart L d x w) (hd : d i = false) (hs : w.heap.size ≤ w'.heap.size) (hv : L.contains i = true → v = .pointer (some ⟨w.heap.size, 0, none⟩) ∧ w.heap.size < w'.heap.size) :
    Apart L (setD d i) (fun j => if j = i then v else x j) w' := by
  refine ⟨fun j hj hdj => ?_, fun j hj k hk hjk hdj hdk => ?_⟩
  · by_cases hji : j = i
    · subst hji
      obtain ⟨h1, h2⟩ := hv (by simpa using hj)
      exact ⟨_, by simpa using h1, h2⟩
    · rw [setD_ne d hji] at hdj
      obtain ⟨g, h1, h2⟩ := h.1 j hj hdj
      exact ⟨g, by simpa [hji] using h1, by omega⟩
  · by_cases hji : j = i
    · subst hji
      have hkj : k ≠ j := fun e => hjk e.symm
      rw [setD_ne d hkj] at hdk
      obtain ⟨h1, h2⟩ := hv (by simpa using hj)
      obtain ⟨g, h3, h4⟩ := h.1 k hk hdk
      simp only [if_true, hkj, if_false]
      rw [h1, h3]
      intro e
      injection e with e; injection e with e; injection e with e
      omega
    · by_cases hki : k = i
      · subst hki
        rw [setD_ne d hjk] at hdj
        obtain ⟨h1, h2⟩ := hv (by simpa using hk)
        obtain ⟨g, h3, h4⟩ := h.1 j hj hdj
        simp only [if_true, hjk, if_false]
        rw [h1, h3]
        intro e
        injection e with e; injection e with e; injection e with e
        omega
      · rw [setD_ne d hji] at hdj
        rw [setD_ne d hki] at hdk
        simp only [hji, hki, if_false]
        exact h.2 j hj k hk hjk hdj hdk
theorem wp_region_tail {id : Nat} {base : Act} {w0 : World} (hm : P.follows .mixedOrders = true) {FF : (Nat → Value) → Act} (hFF : ∀ x, putsF x 0 (ops.toList.map (·.dst)) base = FF x) (R : World → Prop) (Ws : List (Value → World → Prop)) (N : Nat) (L : List Nat)
    (hn : noTwice (ops.toList.map (·.dst)) = true) (hg : guardsIn ops base.tmps.size = true) (hwf : wellFormed ops = true) (hlen : Ws.length = N) (htl : tailOk ops N = true) (hLN : (L.all fun i => decide (i < N)) = true)
    (stays : AllStay Ws) (start : R w0.drew)
    (steps : OpStepsL P ops Q Ws R L FF (fun i => decide (N ≤ i)) 0 ops.toList)
    (fin : ∀ (x : Nat → Value) (w : World), R w → AllWords Ws x w 0 Ws → (∀ i ∈ L, ∀ j ∈ L, i ≠ j → x i ≠ x j) → tailWp P Q (ops.toList.drop N) (FF x) w) :
    (Code.region id ops true).wp P Q base w0 := by
  unfold tailOk at htl
  simp only [Bool.and_eq_true, List.all_eq_true, List.mem_range, Bool.or_eq_true, decide_eq_true_eq] at htl
  obtain ⟨⟨⟨t1, t2⟩, t3⟩, t4⟩ := htl
  have hword : ∀ (i : Nat), ∀ v w w', wordOf Ws i v w → Goes w w' → wordOf Ws i v w' := by
    intro i v w w' hw he
    unfold wordOf at hw ⊢
    cases hp : Ws[i]? with
    | none => trivial
    | some p =>
      rw [hp] at hw
      exact stays.mem p (List.mem_of_getElem? hp) _ _ _ hw he
  refine wp_region_joint hm (fun d x w => ClosedX ops d ∧ (((∀ j, N ≤ j → j < ops.size → d j = false) ∧ R w ∧ Apart L d x w ∧ ∀ i, i < N → d i = true → wordOf Ws i (x i) w) ∨
    (∃ m, N < m ∧ m ≤ ops.size ∧ (∀ i, i < m → d i = true) ∧ (∀ i, m ≤ i → i < ops.size → d i = false) ∧ tailWp P Q (ops.toList.drop m) (FF x) w))) hn hwf ?_ ?_ ?_
  · exact fun x => ⟨fun j o _ h => (by cases h), .inl ⟨fun _ _ _ => rfl, start, ⟨fun _ _ h => (by cases h), fun _ _ _ _ _ h => (by cases h)⟩, by simp⟩⟩
  · rintro i hi d x w ⟨hcl, hJ⟩ hd hdeps
    have hoi : ops[i]? = some ops[i] := Array.getElem?_eq_getElem hi
    have hmem : ops[i] ∈ ops.toList := by simp
    have hsrc : SrcX ops d ops[i] := hdeps
    have hwant : Region.wanted ops[i] (yielded ops (putsF x 0 (ops.toList.map (·.dst)) base).tmps) = wantedX ops[i] x := wanted_eq hn hg ops[i] hmem x
    have hset : (fun j => if j = i then true else d j) = setD d i := rfl
    have hcl2 : ClosedX ops (setD d i) := by
      intro j o hj hdj e he hb
      by_cases hji : j = i
      · subst hji
        rw [hoi] at hj
        obtain rfl := Option.some.inj hj
        exact setD_le d _ _ (hdeps e he hb)
      · rw [setD_ne d hji] at hdj
        exact setD_le d _ _ (hcl j o hj hdj e he hb)
    have hprev : N < i → d (i - 1) = true := by
      intro hNi
      rcases t2 i hi with h | h
      · omega
      · rcases Nat.eq_or_lt_of_le (Nat.sub_le i 1) with h1 | h1
        · omega
        · exact hsrc.reach (K := i) hcl hoi 19 (i - 1) (by omega) h
    have hput : ∀ v, FF (fun j => if j = i then v else x j) = (FF x).put (ops[i]).dst v := by
      intro v
      have := putsF_set x (ops.toList.map (·.dst)) 0 i base (ops[i]).dst v hn (by simp [hi])
      rw [Nat.zero_add] at this
      rw [← hFF, ← hFF, this]
    have hdrop : ops.toList.drop i = ops[i] :: ops.toList.drop (i + 1) := by
      rw [List.drop_eq_getElem_cons (by simpa using hi)]
      simp
    -- an operation of the tail
    have run : N ≤ i → (∀ j, j < i → d j = true) → (∀ j, i ≤ j → j < ops.size → d j = false) → tailWp P Q (ops.toList.drop i) (FF x) w →
        if Region.wanted ops[i] (yielded ops (putsF x 0 (ops.toList.map (·.dst)) base).tmps) = true
        then Oper.wp P ops[i] (putsF x 0 (ops.toList.map (·.dst)) base) w (fun a' w' => ∃ v, a' = (putsF x 0 (ops.toList.map (·.dst)) base).put (ops[i]).dst v ∧ (ClosedX ops (fun j => if j = i then true else d j) ∧ (((∀ j, N ≤ j → j < ops.size → (fun j => if j = i then true else d j) j = false) ∧ R w' ∧ Apart L (fun j => if j = i then true else d j) (fun j => if j = i then v else x j) w' ∧ ∀ k, k < N → (fun j => if j = i then true else d j) k = true → wordOf Ws k ((fun j => if j = i then v else x j) k) w') ∨
          (∃ m, N < m ∧ m ≤ ops.size ∧ (∀ k, k < m → (fun j => if j = i then true else d j) k = true) ∧ (∀ k, m ≤ k → k < ops.size → (fun j => if j = i then true else d j) k = false) ∧ tailWp P Q (ops.toList.drop m) (FF (fun j => if j = i then v else x j)) w')))) Q
        else (ClosedX ops (fun j => if j = i then true else d j) ∧ (((∀ j, N ≤ j → j < ops.size → (fun j => if j = i then true else d j) j = false) ∧ R w ∧ Apart L (fun j => if j = i then true else d j) (fun j => if j = i then undef else x j) w ∧ ∀ k, k < N → (fun j => if j = i then true else d j) k = true → wordOf Ws k ((fun j => if j = i then undef else x j) k) w) ∨
          (∃ m, N < m ∧ m ≤ ops.size ∧ (∀ k, k < m → (fun j => if j = i then true else d j) k = true) ∧ (∀ k, m ≤ k → k < ops.size → (fun j => if j = i then true else d j) k = false) ∧ tailWp P Q (ops.toList.drop m) (FF (fun j => if j = i then undef else x j)) w))) := by
      intro hNi hbefore hbehind htw
      have hgn : (ops[i]).guard = none := by
        have := t3 ops[i] (by
          rw [List.mem_iff_getElem?]
          exact ⟨i - N, by rw [List.getElem?_drop, show N + (i - N) = i by omega]; simp [hi]⟩)
        simpa using this
      have hwt : Region.wanted ops[i] (yielded ops (putsF x 0 (ops.toList.map (·.dst)) base).tmps) = true := by unfold Region.wanted; rw [hgn]
      rw [if_pos hwt, hFF x]
      rw [hdrop] at htw
      unfold tailWp at htw
      refine Oper.wp_mono ?_ htw
      rintro a' w' ⟨v, rfl, ht⟩
      refine ⟨v, rfl, hcl2, .inr ⟨i + 1, by omega, by omega, fun k hk => ?_, fun k hk hks => ?_, ?_⟩⟩
      · by_cases hki : k = i
        · simp [hki]
        · simp [hki, hbefore k (by omega)]
      · simp [show k ≠ i by omega, hbehind k (by omega) hks]
      · rw [hput v]; exact ht
    rcases hJ with ⟨hno, hR, hAp, hw⟩ | ⟨m, hNm, hms, hyes, hno, htw⟩
    · rcases Nat.lt_or_ge i N with hiN | hiN
      · have hs := OpStepsL.get steps i ops[i] (by simp [hi]) (by simp; omega)
        rw [Nat.zero_add] at hs
        have hD : Deps (wordOf Ws) x w (ops[i]).after.toList := Deps.of (fun e he hb => by
          have hdon := hdeps e he hb
          have hlt : e.on < i := by
            unfold wellFormed at hwf
            rw [List.all_eq_true] at hwf
            have := hwf (ops[i], i) (by rw [List.mem_zipIdx_iff_getElem?]; simp [hi])
            simp only [Array.all_eq_true'] at this
            have := this e (by simpa using he)
            simpa [hb] using this
          exact hw _ (by omega) hdon)
        have := hs x w hR hD
        have put : ∀ v w', wordOf Ws i v w' → Goes w w' → ∀ j, j < N → setD d i j = true → wordOf Ws j (if j = i then v else x j) w' := by
          intro v w' hv he j hj hdj
          by_cases hji : j = i
          · subst hji; simpa using hv
          · rw [setD_ne d hji] at hdj
            rw [if_neg hji]
            exact hword j _ _ _ (hw j hj hdj) he
        have keep : ∀ j, N ≤ j → j < ops.size → setD d i j = false := fun j hj hjs => by rw [setD_ne d (by omega)]; exact hno j hj hjs
        rw [hwant, hFF x]
        split
        · rename_i hwt
          refine Oper.wp_mono ?_ (this.1 hwt)
          rintro a' w' ⟨v, rfl, hv, hR', he, hLv⟩
          exact ⟨v, rfl, hcl2, .inl ⟨keep, hR', hAp.next hd he.size hLv, put v w' hv he⟩⟩
        · rename_i hwt
          obtain ⟨h1, h2⟩ := this.2 (by simpa using hwt)
          exact ⟨hcl2, .inl ⟨keep, hR, hAp.next hd (Nat.le_refl _) (fun h => by rw [h2] at h; cases h), put undef w h1 (Below.refl _ _)⟩⟩
      · have hiN' : i = N := by
          rcases Nat.eq_or_lt_of_le hiN with h | h
          · exact h.symm
          · have := hprev h
            rw [hno (i - 1) (by omega) (by omega)] at this; cases this
        subst hiN'
        have hall : ∀ j, j < i → d j = true := fun j hj => hsrc.reach (K := i) hcl hoi 19 j (by omega) (t1 j hj)
        refine run (Nat.le_refl _) hall (fun j hj hjs => hno j hj hjs) (fin x w hR (allWords_of Ws 0 (fun j _ => by simp) (fun j hj => hw j (by omega) (hall j (by omega)))) (fun p hp q hq hpq => hAp.2 p hp q hq hpq (hall p (by rw [List.all_eq_true] at hLN; simpa using hLN p hp)) (hall q (by rw [List.all_eq_true] at hLN; simpa using hLN q hq))))
    · have him : i = m := by
        rcases Nat.lt_or_ge i m with h | h
        · rw [hyes i h] at hd; cases hd
        · rcases Nat.eq_or_lt_of_le h with h | h
          · exact h.symm
          · have := hprev (by omega)
            rw [hno (i - 1) (by omega) (by omega)] at this; cases this
      subst him
      exact run (by omega) hyes hno htw
  · rintro d x w hall ⟨hcl, hJ⟩
    rw [hFF x]
    rcases hJ with ⟨hno, -, -⟩ | ⟨m, hNm, hms, hyes, hno, htw⟩
    · have := hno N (Nat.le_refl _) t4
      rw [hall N t4] at this; cases this
    · have : m = ops.size := by
        rcases Nat.eq_or_lt_of_le hms with h | h
        · exact h
        · have := hno m (Nat.le_refl _) h
          rw [hall m h] at this; cases this
      subst this
      rw [List.drop_of_length_le (by simp)] at htw
      exact htw
end
end Go.Proofs.YtkdknfedieeenaaDoor
namespace Go.Proofs.YtkdknfedieeenaaDoor
open Go.RowKit
set_option linter.unusedVariables false
set_option linter.unusedSimpArgs false
set_option maxRecDepth 20000
attribute [local simp] putsF isV wordOf Deps Region.binds Region.wanted Act.put wantedX isB
theorem sn_follows : Tryd.prog.follows .mixedOrders = true := by kernel_rfl
theorem sntail_cons {P : Program} {Q : Exit → Act → World → Prop} (o : Oper) (os : List Oper) (a : Act) (w : World) : tailWp P Q (o :: os) a w = Oper.wp P o a w (fun a' w' => ∃ v, a' = a.put o.dst v ∧ tailWp P Q os a' w') Q := rfl
theorem sntail_nil {P : Program} {Q : Exit → Act → World → Prop} (a : Act) (w : World) : tailWp P Q [] a w = Q .normal a w := rfl
def o19 : ByteArray := ⟨#[3, 114, 112, 122]⟩
def n19 : ByteArray := ⟨#[2, 101, 120, 3, 114, 112, 122]⟩
def e19 : ByteArray := ⟨#[2, 101, 120]⟩
theorem strip19 : stripOf n19 o19 = some [2, 101, 120] := by decide +kernel
theorem dec19 : decR [2, 101, 120] = some ⟨1, [2, 101, 120], [], 0⟩ := by decide +kernel
theorem at19 : atR [(n19, (5 : Int), (0 : Int), (⟨#[]⟩ : ByteArray))] n19 = [(n19, 5, 0, ⟨#[]⟩)] := by decide +kernel
theorem tgt19 : tgtOf ⟨#[]⟩ = (4, ⟨#[]⟩, false) := by decide +kernel

set_option maxHeartbeats 16000000 in
theorem snode19 (g0 c0 : Nat) (w : World) (hR : Cs w g0 [.string n19, .int .u16 5, .int .u32 0, .string ⟨#[]⟩]) (hL : LaidT w) :
    Calls Tryd.prog 23 #[.agg #[.string o19, .slice (some ⟨g0, 0, none⟩) 1 c0, .bool true, .int .i64 0], .string n19] w fun e w' =>
      e = .returned (.tuple #[.agg #[.int .i64 1, .string e19, .string ⟨#[]⟩, .int .i64 0], .agg #[.int .i64 4, .string ⟨#[]⟩, .bool false, .slice none 0 0], .bool true]) ∧ Below w.heap.size w w' := by
  have hst := fun w => strip_any n19 o19 w (by decide) (by decide)
  rw [strip19] at hst
  have hst : ∀ w, Calls Tryd.prog 27 #[.string n19, .string o19] w fun e w' => e = .returned (.tuple #[.string e19, .bool true]) ∧ Below w.heap.size w w' := hst
  have hdc := fun w h => decode_any e19 w (by decide) h
  have hdc : ∀ w, LaidT w → Calls Tryd.prog 31 #[.string e19] w fun e w' => e = .returned (.tuple #[.agg #[.int .i64 1, .string e19, .string ⟨#[]⟩, .int .i64 0], .bool true]) ∧ Below w.heap.size w w' := by
    intro w h
    have := hdc w h
    rw [show e19.data.toList = [2, 101, 120] from rfl, dec19] at this
    exact this
  have hat : ∀ w, Cs w g0 [.string n19, .int .u16 5, .int .u32 0, .string ⟨#[]⟩] → Calls Tryd.prog 33 #[.slice (some ⟨g0, 0, none⟩) 1 c0, .string n19] w fun e w' => ∃ v, e = .returned v ∧ OBM 4 w.heap.size w v 1 (flatR [(n19, (5 : Int), (0 : Int), (⟨#[]⟩ : ByteArray))]) w' := by
    intro w h
    have hrec : Recs w (some ⟨g0, 0, none⟩) [(n19, (5 : Int), (0 : Int), (⟨#[]⟩ : ByteArray))] := by
      intro k r hr
      match k, hr with
      | 0, hr =>
        simp at hr
        subst hr
        exact ⟨g0, 0, rfl, h.lt, h.get 0 _, h.get 1 _, h.get 2 _, h.get 3 _⟩
    have := at_any (some ⟨g0, 0, none⟩) 1 c0 _ n19 w hrec rfl (by decide)
    rw [at19] at this
    exact this
  have hof : ∀ (wx : World) (g off c : Nat), g < wx.heap.size → wx.cell? ⟨g, off + 1, none⟩ = some (.int .u16 5) → wx.cell? ⟨g, off + 3, none⟩ = some (.string ⟨#[]⟩) → Calls Tryd.prog 32 #[.slice (some ⟨g, off, none⟩) 1 c] wx fun e w' => e = .returned (.tuple #[.agg #[.int .i64 4, .string ⟨#[]⟩, .bool false, .slice none 0 0], .bool true]) ∧ Below wx.heap.size wx w' := by
    intro wx g off c h1 h2 h3
    have := of_cname2 g off c ⟨#[]⟩ wx h1 h2 h3 (by decide)
    rw [tgt19] at this
    exact this
  have hov : ∀ w, Calls Tryd.prog 34 #[.agg #[.int .i64 4, .string ⟨#[]⟩, .bool false, .slice none 0 0], .int .i64 0] w fun e w' => e = .returned (.agg #[.int .i64 4, .string ⟨#[]⟩, .bool false, .slice none 0 0]) ∧ Below w.heap.size w w' := by
    intro w
    have := over_any 4 ⟨#[]⟩ false 0 w
    rw [show overK 0 = false from rfl] at this
    exact this
  obtain ⟨W1, hW1⟩ : ∃ W, W = w.alloc (.cells #[.string o19, .slice (some ⟨g0, 0, none⟩) 1 c0, .bool true, .int .i64 0] 62) := ⟨_, rfl⟩
  obtain ⟨W2, hW2⟩ : ∃ W, W = W1.alloc (.cells #[.int .i64 0, .string ⟨#[]⟩, .string ⟨#[]⟩, .int .i64 0] 33) := ⟨_, rfl⟩
  obtain ⟨W0, hW0⟩ : ∃ W, W = W2.alloc (.cells #[.int .i64 0, .string ⟨#[]⟩, .bool false, .slice none 0 0] 50) := ⟨_, rfl⟩
  have e1 : W1.heap.size = w.heap.size + 1 := by rw [hW1]; simp
  have e2 : W2.heap.size = w.heap.size + 2 := by rw [hW2]; simp [e1]
  have hP : Cs W0 w.heap.size [.string o19, .slice (some ⟨g0, 0, none⟩) 1 c0, .bool true, .int .i64 0] := by rw [hW0, hW2, hW1]; exact ((Cs.new w _ _ _).alloc _).alloc _
  have hT : Cs W0 (w.heap.size + 1) [.int .i64 0, .string ⟨#[]⟩, .string ⟨#[]⟩, .int .i64 0] := by rw [hW0, hW2]; exact ((Cs.new W1 _ _ _).at_ _ e1).alloc _
  have hA : Cs W0 (w.heap.size + 2) [.int .i64 0, .string ⟨#[]⟩, .bool false, .slice none 0 0] := by rw [hW0]; exact (Cs.new W2 _ _ _).at_ _ e2
  have hbel : Below w.heap.size w W0 := by
    rw [hW0, hW2, hW1]
    have h1 := (Below.refl w.heap.size w).alloc (Nat.le_refl _) (.cells #[.string o19, .slice (some ⟨g0, 0, none⟩) 1 c0, .bool true, .int .i64 0] 62)
    have h2 := h1.alloc h1.size (.cells #[.int .i64 0, .string ⟨#[]⟩, .string ⟨#[]⟩, .int .i64 0] 33)
    exact h2.alloc h2.size _
  have hWW : W0 = ((w.alloc (.cells #[.string o19, .slice (some ⟨g0, 0, none⟩) 1 c0, .bool true, .int .i64 0] 62)).alloc (.cells #[.int .i64 0, .string ⟨#[]⟩, .string ⟨#[]⟩, .int .i64 0] 33)).alloc (.cells #[.int .i64 0, .string ⟨#[]⟩, .bool false, .slice none 0 0] 50) := by rw [hW0, hW2, hW1]
  have HST := Lib.hid hst
  have HDC := Lib.hid hdc
  have HAT := Lib.hid hat
  have HOF := Lib.hid hof
  have HOV := Lib.hid hov
  have HWW := Lib.hid hWW
  have HP := Lib.hid hP
  have HT := Lib.hid hT
  have HA := Lib.hid hA
  have HBEL := Lib.hid hbel
  have HR := Lib.hid (hR.below hbel)
  have HL0 := Lib.hid (hL.below hbel (Nat.le_refl _))
  clear hst hdc hat hof hov hWW hP hT hA hbel hW0 hW1 hW2 e1 e2 hR hL
  have p0 := HP.out.get 0 (.string o19)
  go_enter Tryd.func23, Tryd.ntmps23
  go_upto_region 1 with fail
  rw [← HWW.out]
  go_wp2_with (go_at_call 27; refine (HST.out _).mono ?_; rintro e w1 ⟨rfl, hb1⟩; refine Hid.out ?_)
  refine Lib.hid ?_
  have HL1 := Lib.hid (HL0.out.below hb1 (Nat.le_refl _))
  have HB1 := Lib.hid (HBEL.out.trans (hb1.mono HBEL.out.size))
  have HP1 := Lib.hid (HP.out.below hb1)
  have HT1 := Lib.hid (HT.out.below hb1)
  have HA1 := Lib.hid (HA.out.below hb1)
  have HR1 := Lib.hid (HR.out.below hb1)
  clear p0 hb1 HP HT HA HR HBEL HL0 HST HWW
  go_wp2_with (go_at_call 31; refine (HDC.out _ HL1.out).mono ?_; rintro e w2 ⟨rfl, hb2⟩; refine Hid.out ?_)
  refine Lib.hid ?_
  have hb3 := hb2.trans (((Below.refl w2.heap.size w2).alloc (Nat.le_refl _) (.cells #[.int .i64 1, .string e19, .string ⟨#[]⟩, .int .i64 0] 33)).mono hb2.size)
  have HB3 := Lib.hid (HB1.out.trans (hb3.mono HB1.out.size))
  have HP3 := Lib.hid (HP1.out.below hb3)
  have HT3 := Lib.hid (HT1.out.below hb3)
  have HA3 := Lib.hid (HA1.out.below hb3)
  have HR3 := Lib.hid (HR1.out.below hb3)
  have HV3 := Lib.hid (Cs.new w2 #[.int .i64 1, .string e19, .string ⟨#[]⟩, .int .i64 0] 33 [.int .i64 1, .string e19, .string ⟨#[]⟩, .int .i64 0])
  clear hb2 hb3 HP1 HT1 HA1 HR1 HB1 HL1 HDC
  go_upto_region 7 with fail
  generalize w2.alloc (.cells #[.int .i64 1, .string e19, .string ⟨#[]⟩, .int .i64 0] 33) = w3 at HB3 HP3 HT3 HA3 HR3 HV3 ⊢
  generalize w2.heap.size = P9 at HV3 ⊢
  have p1 := HP3.out.get 1 (.slice (some ⟨g0, 0, none⟩) 1 c0)
  go_wp2_with (go_at_call 33; refine (HAT.out _ HR3.out).mono ?_; rintro e w4 ⟨v4, rfl, hob⟩; refine Hid.out ?_)
  refine Lib.hid ?_
  have hbl := hob.bel
  have HB4 := Lib.hid (HB3.out.trans (hbl.mono HB3.out.size))
  have HP4 := Lib.hid (HP3.out.below hbl)
  have HT4 := Lib.hid (HT3.out.below hbl)
  have HA4 := Lib.hid (HA3.out.below hbl)
  have HV4 := Lib.hid (HV3.out.below hbl)
  obtain ⟨A4, c4, rfl, hx1, hx2, hx3⟩ := hob.slice3
  obtain ⟨g4, rfl, hg1, hg2⟩ : ∃ g, A4 = some ⟨g, 0, none⟩ ∧ w3.heap.size ≤ g ∧ g < w4.heap.size := by
    rcases hx3 with ⟨_, h, _⟩ | h
    · cases h
    · exact h
  have hof := HOF.out w4 g4 0 c4 hg2 (hob.cell 1 _ rfl) (hob.cell 3 _ rfl)
  have HOF4 := Lib.hid hof
  clear p1 hob hbl hx1 hx2 hx3 hg1 hg2 hof HB3 HP3 HT3 HA3 HV3 HR3 HAT HOF
  go_wp2_with (go_at_call 32; refine HOF4.out.mono ?_; rintro e w5 ⟨rfl, hb5⟩; refine Hid.out ?_)
  refine Lib.hid ?_
  have hb6 := hb5.trans (((Below.refl w5.heap.size w5).alloc (Nat.le_refl _) (.cells #[.int .i64 4, .string ⟨#[]⟩, .bool false, .slice none 0 0] 50)).mono hb5.size)
  have HB6 := Lib.hid (HB4.out.trans (hb6.mono HB4.out.size))
  have HP6 := Lib.hid (HP4.out.below hb6)
  have HT6 := Lib.hid (HT4.out.below hb6)
  have HA6 := Lib.hid (HA4.out.below hb6)
  have HV6 := Lib.hid (HV4.out.below hb6)
  have HW6 := Lib.hid (Cs.new w5 #[.int .i64 4, .string ⟨#[]⟩, .bool false, .slice none 0 0] 50 [.int .i64 4, .string ⟨#[]⟩, .bool false, .slice none 0 0])
  clear hb5 hb6 HB4 HP4 HT4 HA4 HV4 HOF4
  go_upto_region 10 with fail
  generalize w5.alloc (.cells #[.int .i64 4, .string ⟨#[]⟩, .bool false, .slice none 0 0] 50) = w6 at HB6 HP6 HT6 HA6 HV6 HW6 ⊢
  generalize w5.heap.size = P10 at HW6 ⊢
  refine wp_region_tail sn_follows (fun x => by simp [putsF, Act.put]; rfl) (fun v => Below w6.heap.size w6 v)
    [isV (.agg #[.int .i64 1, .string e19, .string ⟨#[]⟩, .int .i64 0]), isV (.agg #[.int .i64 4, .string ⟨#[]⟩, .bool false, .slice none 0 0]), isV (.pointer (some ⟨w.heap.size, 3, none⟩)), isV (.int .i64 0), isV (.agg #[.int .i64 4, .string ⟨#[]⟩, .bool false, .slice none 0 0])]
    5 [] (by kernel_rfl) (by kernel_rfl) (by kernel_rfl) rfl (by kernel_rfl) (by kernel_rfl) ?_ (Below.refl _ _).drew ?_ ?_
  · repeat (first | exact trivial | refine ⟨isV_stays _, ?_⟩)
  · refine ⟨?_, ?_, ?_, ?_, ?_, skipped rfl, skipped rfl, skipped rfl, trivial⟩
    all_goals
      intro _ x wx hR hd
      refine ⟨fun _ => ?_, fun hX => by simp at hX⟩
      simp at hd ⊢
    · have hq := HV6.out.below hR
      have q0 := hq.get 0 (.int .i64 1)
      have q1 := hq.get 1 (.string e19)
      have q2 := hq.get 2 (.string ⟨#[]⟩)
      have q3 := hq.get 3 (.int .i64 0)
      clear hq
      go_simp; exact nextL _ rfl rfl hR (Below.refl _ _)
    · have hq := HW6.out.below hR
      have q0 := hq.get 0 (.int .i64 4)
      have q1 := hq.get 1 (.string ⟨#[]⟩)
      have q2 := hq.get 2 (.bool false)
      have q3 := hq.get 3 (.slice none 0 0)
      clear hq
      go_simp; exact nextL _ rfl rfl hR (Below.refl _ _)
    · go_simp; exact nextL _ rfl rfl hR (Below.refl _ _)
    · have hq := HP6.out.below hR
      have q3 := hq.get 3 (.int .i64 0)
      clear hq
      go_simp; exact nextL _ rfl rfl hR (Below.refl _ _)
    · obtain ⟨hd1, hd2⟩ := hd
      go_simp
      go_at_call 34
      refine (HOV.out wx).mono ?_
      rintro e wy ⟨rfl, hby⟩
      exact nextL _ rfl rfl (hR.trans (hby.mono hR.size)) hby
  intro x w7 hR7 hx _
  obtain ⟨x0, -, -, -, x4, -⟩ := hx
  have x0 : x 0 = .agg #[.int .i64 1, .string e19, .string ⟨#[]⟩, .int .i64 0] := x0
  have x4 : x 4 = .agg #[.int .i64 4, .string ⟨#[]⟩, .bool false, .slice none 0 0] := x4
  have hT7 := HT6.out.below hR7
  have hA7 := HA6.out.below hR7
  have HB7 := Lib.hid (HB6.out.trans (hR7.mono HB6.out.size))
  have HT7 := Lib.hid hT7
  have HA7 := Lib.hid hA7
  have hne : w.heap.size + 1 ≠ w.heap.size + 2 := by omega
  have hnf : w.heap.size + 2 ≠ w.heap.size + 1 := by omega
  have HN := Lib.hid hne
  have HNF := Lib.hid hnf
  have m0 := hT7.get 0 (.int .i64 0)
  have m1 := hT7.get 1 (.string ⟨#[]⟩)
  have m2 := hT7.get 2 (.string ⟨#[]⟩)
  have m3 := hT7.get 3 (.int .i64 0)
  have f0 := hT7.froz 0
  have f1 := hT7.froz 1
  have f2 := hT7.froz 2
  have f3 := hT7.froz 3
  have n0 := hA7.get 0 (.int .i64 0)
  have n1 := hA7.get 1 (.string ⟨#[]⟩)
  have n2 := hA7.get 2 (.bool false)
  have n3 := hA7.get 3 (.slice none 0 0)
  have h0 := hA7.froz 0
  have h1 := hA7.froz 1
  have h2 := hA7.froz 2
  have h3 := hA7.froz 3
  change tailWp _ _ [_, _, _] _ _
  rw [sntail_cons, x0, x4]
  clear hT7 hA7 hR7 x0 x4 hne hnf HP6 HT6 HA6 HV6 HW6 HB6 HOV
  go_simp
  rw [sntail_cons]
  go_simp
  rw [sntail_cons]
  go_simp
  rw [sntail_nil]
  go_wp2_with fail
  refine bodyPost_ret (v := .tuple #[.agg #[.int .i64 1, .string e19, .string ⟨#[]⟩, .int .i64 0], .agg #[.int .i64 4, .string ⟨#[]⟩, .bool false, .slice none 0 0], .bool true]) ?_ rfl ⟨rfl, ?_⟩
  · have hfT := (((((Cs.all4 HT7.out (a' := .int .i64 1) (b' := .string e19) (c' := .string ⟨#[]⟩) (d' := .int .i64 0)).other (w.heap.size + 2) 0 (.int .i64 4) HNF.out).other (w.heap.size + 2) 1 (.string ⟨#[]⟩) HNF.out).other (w.heap.size + 2) 2 (.bool false) HNF.out).other (w.heap.size + 2) 3 (.slice none 0 0) HNF.out)
    have hfA := (Cs.all4 ((((HA7.out.other (w.heap.size + 1) 0 (.int .i64 1) HN.out).other (w.heap.size + 1) 1 (.string e19) HN.out).other (w.heap.size + 1) 2 (.string ⟨#[]⟩) HN.out).other (w.heap.size + 1) 3 (.int .i64 0) HN.out) (a' := .int .i64 4) (b' := .string ⟨#[]⟩) (c' := .bool false) (d' := .slice none 0 0))
    have a0 := hfT.get 0 (.int .i64 1)
    have a1 := hfT.get 1 (.string e19)
    have a2 := hfT.get 2 (.string ⟨#[]⟩)
    have a3 := hfT.get 3 (.int .i64 0)
    have b0 := hfA.get 0 (.int .i64 4)
    have b1 := hfA.get 1 (.string ⟨#[]⟩)
    have b2 := hfA.get 2 (.bool false)
    have b3 := hfA.get 3 (.slice none 0 0)
    generalize (World.setCell (World.setCell (World.setCell (World.setCell (World.setCell (World.setCell (World.setCell (World.setCell w7 ⟨w.heap.size + 1, 0, none⟩ (.int .i64 1)) ⟨w.heap.size + 1, 1, none⟩ (.string e19)) ⟨w.heap.size + 1, 2, none⟩ (.string ⟨#[]⟩)) ⟨w.heap.size + 1, 3, none⟩ (.int .i64 0)) ⟨w.heap.size + 2, 0, none⟩ (.int .i64 4)) ⟨w.heap.size + 2, 1, none⟩ (.string ⟨#[]⟩)) ⟨w.heap.size + 2, 2, none⟩ (.bool false)) ⟨w.heap.size + 2, 3, none⟩ (.slice none 0 0)) = WF at a0 a1 a2 a3 b0 b1 b2 b3 ⊢
    simp [results, Tryd.results23, go_sem, a0, a1, a2, a3, b0, b1, b2, b3]
  · exact below_all4 (below_all4 HB7.out (Nat.le_succ _)) (by omega)
end Go.Proofs.YtkdknfedieeenaaDoor
namespace Go.Proofs.YtkdknfedieeenaaDoor
open Go.RowKit
set_option linter.unusedVariables false
set_option linter.unusedSimpArgs false
set_option maxRecDepth 20000

theorem Cs.all9 {w : World} {P : Nat} {a b c d e f g i j : Value} (h : Cs w P [a, b, c, d, e, f, g, i, j]) (a1 b1 c1 d1 e1 f1 g1 i1 j1 : Value) : Cs (World.setCell (World.setCell (World.setCell (World.setCell (World.setCell (World.setCell (World.setCell (World.setCell (World.setCell w ⟨P, 0, none⟩ a1) ⟨P, 1, none⟩ b1) ⟨P, 2, none⟩ c1) ⟨P, 3, none⟩ d1) ⟨P, 4, none⟩ e1) ⟨P, 5, none⟩ f1) ⟨P, 6, none⟩ g1) ⟨P, 7, none⟩ i1) ⟨P, 8, none⟩ j1) P [a1, b1, c1, d1, e1, f1, g1, i1, j1] :=
  (((((((((h.set' 0 a1 (by simp)).set' 1 b1 (by simp)).set' 2 c1 (by simp)).set' 3 d1 (by simp)).set' 4 e1 (by simp)).set' 5 f1 (by simp)).set' 6 g1 (by simp)).set' 7 i1 (by simp)).set' 8 j1 (by simp))
theorem Cs.other9 {w : World} {P q : Nat} {vs : List Value} (h : Cs w q vs) (hP : P ≠ q) (a1 b1 c1 d1 e1 f1 g1 i1 j1 : Value) : Cs (World.setCell (World.setCell (World.setCell (World.setCell (World.setCell (World.setCell (World.setCell (World.setCell (World.setCell w ⟨P, 0, none⟩ a1) ⟨P, 1, none⟩ b1) ⟨P, 2, none⟩ c1) ⟨P, 3, none⟩ d1) ⟨P, 4, none⟩ e1) ⟨P, 5, none⟩ f1) ⟨P, 6, none⟩ g1) ⟨P, 7, none⟩ i1) ⟨P, 8, none⟩ j1) q vs :=
  (((((((((h.other P 0 a1 hP).other P 1 b1 hP).other P 2 c1 hP).other P 3 d1 hP).other P 4 e1 hP).other P 5 f1 hP).other P 6 g1 hP).other P 7 i1 hP).other P 8 j1 hP)
theorem below_all9 {w W : World} {P B : Nat} (h : Below B W w) (hP : B ≤ P) (a1 b1 c1 d1 e1 f1 g1 i1 j1 : Value) : Below B W (World.setCell (World.setCell (World.setCell (World.setCell (World.setCell (World.setCell (World.setCell (World.setCell (World.setCell w ⟨P, 0, none⟩ a1) ⟨P, 1, none⟩ b1) ⟨P, 2, none⟩ c1) ⟨P, 3, none⟩ d1) ⟨P, 4, none⟩ e1) ⟨P, 5, none⟩ f1) ⟨P, 6, none⟩ g1) ⟨P, 7, none⟩ i1) ⟨P, 8, none⟩ j1) :=
  (((((((((h.setCell (p := ⟨P, 0, none⟩) hP a1).setCell (p := ⟨P, 1, none⟩) hP b1).setCell (p := ⟨P, 2, none⟩) hP c1).setCell (p := ⟨P, 3, none⟩) hP d1).setCell (p := ⟨P, 4, none⟩) hP e1).setCell (p := ⟨P, 5, none⟩) hP f1).setCell (p := ⟨P, 6, none⟩) hP g1).setCell (p := ⟨P, 7, none⟩) hP i1).setCell (p := ⟨P, 8, none⟩) hP j1)

set_option maxHeartbeats 16000000 in
theorem sof19 (gp cp g0 c0 : Nat) (w : World) (hP : Cs w gp [.string o19, .slice (some ⟨g0, 0, none⟩) 1 c0, .bool true, .int .i64 0]) (hR : Cs w g0 [.string n19, .int .u16 5, .int .u32 0, .string ⟨#[]⟩]) (hL : LaidT w) :
    Calls Tryd.prog 12 #[.slice (some ⟨gp, 0, none⟩) 1 cp, .agg #[.string ⟨#[]⟩, .string e19, .slice none 0 0, .slice none 0 0, .slice none 0 0]] w fun e w' => e = .returned (.tuple #[.agg #[.int .i64 0, .int .i64 1, .string e19, .string ⟨#[]⟩, .int .i64 0, .int .i64 4, .string ⟨#[]⟩, .bool false, .slice none 0 0], .bool true]) ∧ Below w.heap.size w w' := by
  have hno : ∀ w, Cs w g0 [.string n19, .int .u16 5, .int .u32 0, .string ⟨#[]⟩] → LaidT w → _ := fun w h hl => snode19 g0 c0 w h hl
  have hma := fun w => smatch_qname e19 ⟨#[]⟩ 0 ⟨#[]⟩ e19 (.int .u8 0) (.int .u8 0) (.int .u8 0) none none none 0 0 0 0 0 0 w
  rw [show (e19.toList == e19.toList) = true from by rw [beq_self_eq_true]] at hma
  obtain ⟨W1, hW1⟩ : ∃ W, W = w.alloc (.cells #[.string ⟨#[]⟩, .string e19, .slice none 0 0, .slice none 0 0, .slice none 0 0] 37) := ⟨_, rfl⟩
  obtain ⟨W2, hW2⟩ : ∃ W, W = W1.alloc (.cells #[.int .i64 0, .int .i64 0, .string ⟨#[]⟩, .string ⟨#[]⟩, .int .i64 0, .int .i64 0, .string ⟨#[]⟩, .bool false, .slice none 0 0] 52) := ⟨_, rfl⟩
  obtain ⟨W0, hW0⟩ : ∃ W, W = W2.alloc (.cells #[.int .i64 0, .int .i64 0, .string ⟨#[]⟩, .string ⟨#[]⟩, .int .i64 0, .int .i64 0, .string ⟨#[]⟩, .bool false, .slice none 0 0] 52) := ⟨_, rfl⟩
  have e1 : W1.heap.size = w.heap.size + 1 := by rw [hW1]; simp
  have e2 : W2.heap.size = w.heap.size + 1 + 1 := by rw [hW2]; simp [e1]
  have hF : Cs W0 w.heap.size [.string ⟨#[]⟩, .string e19, .slice none 0 0, .slice none 0 0, .slice none 0 0] := by rw [hW0, hW2, hW1]; exact ((Cs.new w _ _ _).alloc _).alloc _
  have hV : Cs W0 (w.heap.size + 1) [.int .i64 0, .int .i64 0, .string ⟨#[]⟩, .string ⟨#[]⟩, .int .i64 0, .int .i64 0, .string ⟨#[]⟩, .bool false, .slice none 0 0] := by rw [hW0, hW2]; exact ((Cs.new W1 _ _ _).at_ _ e1).alloc _
  have hB : Cs W0 (w.heap.size + 1 + 1) [.int .i64 0, .int .i64 0, .string ⟨#[]⟩, .string ⟨#[]⟩, .int .i64 0, .int .i64 0, .string ⟨#[]⟩, .bool false, .slice none 0 0] := by rw [hW0]; exact (Cs.new W2 _ _ _).at_ _ e2
  have hbel : Below w.heap.size w W0 := by
    rw [hW0, hW2, hW1]
    have h1 := (Below.refl w.heap.size w).alloc (Nat.le_refl _) (.cells #[.string ⟨#[]⟩, .string e19, .slice none 0 0, .slice none 0 0, .slice none 0 0] 37)
    have h2 := h1.alloc h1.size (.cells #[.int .i64 0, .int .i64 0, .string ⟨#[]⟩, .string ⟨#[]⟩, .int .i64 0, .int .i64 0, .string ⟨#[]⟩, .bool false, .slice none 0 0] 52)
    exact h2.alloc h2.size _
  have hWW : W0 = ((w.alloc (.cells #[.string ⟨#[]⟩, .string e19, .slice none 0 0, .slice none 0 0, .slice none 0 0] 37)).alloc (.cells #[.int .i64 0, .int .i64 0, .string ⟨#[]⟩, .string ⟨#[]⟩, .int .i64 0, .int .i64 0, .string ⟨#[]⟩, .bool false, .slice none 0 0] 52)).alloc (.cells #[.int .i64 0, .int .i64 0, .string ⟨#[]⟩, .string ⟨#[]⟩, .int .i64 0, .int .i64 0, .string ⟨#[]⟩, .bool false, .slice none 0 0] 52) := by rw [hW0, hW2, hW1]
  have hP0 := hP.below hbel
  have hR0 := hR.below hbel
  have HNO := Lib.hid hno
  have HMA := Lib.hid hma
  have HWW := Lib.hid hWW
  have HF := Lib.hid hF
  have HV := Lib.hid hV
  have HB := Lib.hid hB
  have HBEL := Lib.hid hbel
  have HR := Lib.hid hR0
  have HL0 := Lib.hid (hL.below hbel (Nat.le_refl _))
  have p0 := hP0.get 0 (.string o19)
  have p1 := hP0.get 1 (.slice (some ⟨g0, 0, none⟩) 1 c0)
  have p2 := hP0.get 2 (.bool true)
  have p3 := hP0.get 3 (.int .i64 0)
  have r0 := hR0.get 0 (.string n19)
  have r1 := hR0.get 1 (.int .u16 5)
  have r2 := hR0.get 2 (.int .u32 0)
  have r3 := hR0.get 3 (.string ⟨#[]⟩)
  clear hno hma hWW hF hV hB hbel hW0 hW1 hW2 e1 e2 hR hL hP hP0 hR0
  go_enter Tryd.func12, Tryd.ntmps12
  go_upto_region 3 with fail
  rw [← HWW.out]
  refine wp_loop_rounds 2 ?_
  rw [rounds_succ]
  have hal3 := (Below.refl W0.heap.size W0).alloc (Nat.le_refl _) (.cells #[.string o19, .slice (some ⟨g0, 0, none⟩) 1 c0, .bool true, .int .i64 0] 62)
  have HP3 := Lib.hid (Cs.new W0 #[.string o19, .slice (some ⟨g0, 0, none⟩) 1 c0, .bool true, .int .i64 0] 62 [.string o19, .slice (some ⟨g0, 0, none⟩) 1 c0, .bool true, .int .i64 0])
  have HR3 := Lib.hid (HR.out.below hal3)
  have HF3 := Lib.hid (HF.out.below hal3)
  have HV3 := Lib.hid (HV.out.below hal3)
  have HB3 := Lib.hid (HB.out.below hal3)
  have HL3 := Lib.hid (HL0.out.below hal3 (Nat.le_refl _))
  have HE3 := Lib.hid (HBEL.out.trans (hal3.mono HBEL.out.size))
  clear hal3 HR HF HV HB HL0 HBEL HWW
  go_upto_region 7 with fail
  generalize W0.alloc (.cells #[.string o19, .slice (some ⟨g0, 0, none⟩) 1 c0, .bool true, .int .i64 0] 62) = W3 at HP3 HR3 HF3 HV3 HB3 HL3 HE3 ⊢
  generalize W0.heap.size = P9 at HP3 ⊢
  clear p0 p1 p2 p3 r0 r1 r2 r3
  refine wp_loop_rounds 2 ?_
  rw [rounds_succ]
  have p0 := HP3.out.get 0 (.string o19)
  have p1 := HP3.out.get 1 (.slice (some ⟨g0, 0, none⟩) 1 c0)
  have p2 := HP3.out.get 2 (.bool true)
  have p3 := HP3.out.get 3 (.int .i64 0)
  have r0 := HR3.out.get 0 (.string n19)
  have r1 := HR3.out.get 1 (.int .u16 5)
  have r2 := HR3.out.get 2 (.int .u32 0)
  have r3 := HR3.out.get 3 (.string ⟨#[]⟩)
  have hal4 := (Below.refl W3.heap.size W3).alloc (Nat.le_refl _) (.cells #[.string n19, .int .u16 5, .int .u32 0, .string ⟨#[]⟩] 59)
  have HP4 := Lib.hid (HP3.out.below hal4)
  have HR4 := Lib.hid (HR3.out.below hal4)
  have HQ4 := Lib.hid (Cs.new W3 #[.string n19, .int .u16 5, .int .u32 0, .string ⟨#[]⟩] 59 [.string n19, .int .u16 5, .int .u32 0, .string ⟨#[]⟩])
  have HF4 := Lib.hid (HF3.out.below hal4)
  have HV4 := Lib.hid (HV3.out.below hal4)
  have HB4 := Lib.hid (HB3.out.below hal4)
  have HL4 := Lib.hid (HL3.out.below hal4 (Nat.le_refl _))
  have HE4 := Lib.hid (HE3.out.trans (hal4.mono HE3.out.size))
  clear hal4 HP3 HR3 HF3 HV3 HB3 HL3 HE3
  go_upto_region 9 with fail
  generalize W3.alloc (.cells #[.string n19, .int .u16 5, .int .u32 0, .string ⟨#[]⟩] 59) = W4 at HP4 HR4 HQ4 HF4 HV4 HB4 HL4 HE4 ⊢
  generalize W3.heap.size = P11 at HQ4 ⊢
  clear p0 p1 p2 p3 r0 r1 r2 r3
  have p0 := HP4.out.get 0 (.string o19)
  have p1 := HP4.out.get 1 (.slice (some ⟨g0, 0, none⟩) 1 c0)
  have p2 := HP4.out.get 2 (.bool true)
  have p3 := HP4.out.get 3 (.int .i64 0)
  have q0 := HQ4.out.get 0 (.string n19)
  go_wp2_with (go_at_call 23; refine (HNO.out _ HR4.out HL4.out).mono ?_; rintro e w5 ⟨rfl, hb5⟩; refine Hid.out ?_)
  refine Lib.hid ?_
  clear p0 p1 p2 p3 q0
  obtain ⟨W6, hW6⟩ : ∃ W, W = w5.alloc (.cells #[.int .i64 1, .string e19, .string ⟨#[]⟩, .int .i64 0] 33) := ⟨_, rfl⟩
  obtain ⟨W7, hW7⟩ : ∃ W, W = W6.alloc (.cells #[.int .i64 4, .string ⟨#[]⟩, .bool false, .slice none 0 0] 50) := ⟨_, rfl⟩
  have e6 : W6.heap.size = w5.heap.size + 1 := by rw [hW6]; simp
  have hT7 : Cs W7 w5.heap.size [.int .i64 1, .string e19, .string ⟨#[]⟩, .int .i64 0] := by rw [hW7, hW6]; exact (Cs.new w5 _ _ _).alloc _
  have hA7 : Cs W7 (w5.heap.size + 1) [.int .i64 4, .string ⟨#[]⟩, .bool false, .slice none 0 0] := by rw [hW7]; exact (Cs.new W6 _ _ _).at_ _ e6
  have hb7 : Below W4.heap.size W4 W7 := by
    rw [hW7, hW6]
    have h1 := hb5.alloc hb5.size (.cells #[.int .i64 1, .string e19, .string ⟨#[]⟩, .int .i64 0] 33)
    exact h1.alloc h1.size _
  have hWW : W7 = (w5.alloc (.cells #[.int .i64 1, .string e19, .string ⟨#[]⟩, .int .i64 0] 33)).alloc (.cells #[.int .i64 4, .string ⟨#[]⟩, .bool false, .slice none 0 0] 50) := by rw [hW7, hW6]
  have HT7 := Lib.hid hT7
  have HA7 := Lib.hid hA7
  have HF7 := Lib.hid (HF4.out.below hb7)
  have HV7 := Lib.hid (HV4.out.below hb7)
  have HB7 := Lib.hid (HB4.out.below hb7)
  have HE7 := Lib.hid (HE4.out.trans (hb7.mono HE4.out.size))
  have HWW := Lib.hid hWW
  clear hb5 hb7 hT7 hA7 hW6 hW7 e6 hWW HP4 HR4 HQ4 HF4 HV4 HB4 HL4 HE4 HNO
  go_upto_region 10 with fail
  rw [← HWW.out]
  generalize w5.heap.size = P12 at HT7 HA7 ⊢
  clear HWW
  have t0 := HT7.out.get 0 (.int .i64 1)
  have t1 := HT7.out.get 1 (.string e19)
  have t2 := HT7.out.get 2 (.string ⟨#[]⟩)
  have t3 := HT7.out.get 3 (.int .i64 0)
  have a0 := HA7.out.get 0 (.int .i64 4)
  have a1 := HA7.out.get 1 (.string ⟨#[]⟩)
  have a2 := HA7.out.get 2 (.bool false)
  have a3 := HA7.out.get 3 (.slice none 0 0)
  have f0 := HF7.out.get 0 (.string ⟨#[]⟩)
  have f1 := HF7.out.get 1 (.string e19)
  have f2 := HF7.out.get 2 (.slice none 0 0)
  have f3 := HF7.out.get 3 (.slice none 0 0)
  have f4 := HF7.out.get 4 (.slice none 0 0)
  go_wp2_with (go_at_call 7; refine (HMA.out _).mono ?_; rintro e w8 ⟨rfl, hb8⟩; refine Hid.out ?_)
  refine Lib.hid ?_
  have HT8 := Lib.hid (HT7.out.below hb8)
  have HA8 := Lib.hid (HA7.out.below hb8)
  have HV8 := Lib.hid (HV7.out.below hb8)
  have HB8 := Lib.hid (HB7.out.below hb8)
  have HE8 := Lib.hid (HE7.out.trans (hb8.mono HE7.out.size))
  clear t0 t1 t2 t3 a0 a1 a2 a3 f0 f1 f2 f3 f4 hb8 HT7 HA7 HF7 HV7 HB7 HE7 HMA
  have t0 := HT8.out.get 0 (.int .i64 1)
  have t1 := HT8.out.get 1 (.string e19)
  have t2 := HT8.out.get 2 (.string ⟨#[]⟩)
  have t3 := HT8.out.get 3 (.int .i64 0)
  have a0 := HA8.out.get 0 (.int .i64 4)
  have a1 := HA8.out.get 1 (.string ⟨#[]⟩)
  have a2 := HA8.out.get 2 (.bool false)
  have a3 := HA8.out.get 3 (.slice none 0 0)
  have hal9 := (Below.refl w8.heap.size w8).alloc (Nat.le_refl _) (.cells #[.int .i64 0, .int .i64 1, .string e19, .string ⟨#[]⟩, .int .i64 0, .int .i64 4, .string ⟨#[]⟩, .bool false, .slice none 0 0] 52)
  have HX9 := Lib.hid (Cs.new w8 #[.int .i64 0, .int .i64 1, .string e19, .string ⟨#[]⟩, .int .i64 0, .int .i64 4, .string ⟨#[]⟩, .bool false, .slice none 0 0] 52 [.int .i64 0, .int .i64 1, .string e19, .string ⟨#[]⟩, .int .i64 0, .int .i64 4, .string ⟨#[]⟩, .bool false, .slice none 0 0])
  have HV9 := Lib.hid (HV8.out.below hal9)
  have HB9 := Lib.hid (HB8.out.below hal9)
  have HE9 := Lib.hid (HE8.out.trans (hal9.mono HE8.out.size))
  clear hal9 HT8 HA8 HV8 HB8 HE8
  go_upto_region 13 with fail
  generalize w8.alloc (.cells #[.int .i64 0, .int .i64 1, .string e19, .string ⟨#[]⟩, .int .i64 0, .int .i64 4, .string ⟨#[]⟩, .bool false, .slice none 0 0] 52) = W9 at HX9 HV9 HB9 HE9 ⊢
  generalize w8.heap.size = P15 at HX9 ⊢
  clear t0 t1 t2 t3 a0 a1 a2 a3
  have hB10 := Cs.all9 HB9.out (.int .i64 0) (.int .i64 1) (.string e19) (.string ⟨#[]⟩) (.int .i64 0) (.int .i64 4) (.string ⟨#[]⟩) (.bool false) (.slice none 0 0)
  have hV10 := Cs.other9 HV9.out (P := w.heap.size + 1 + 1) (by omega) (.int .i64 0) (.int .i64 1) (.string e19) (.string ⟨#[]⟩) (.int .i64 0) (.int .i64 4) (.string ⟨#[]⟩) (.bool false) (.slice none 0 0)
  have hE10 := below_all9 HE9.out (P := w.heap.size + 1 + 1) (by omega) (.int .i64 0) (.int .i64 1) (.string e19) (.string ⟨#[]⟩) (.int .i64 0) (.int .i64 4) (.string ⟨#[]⟩) (.bool false) (.slice none 0 0)
  have HB10 := Lib.hid hB10
  have HV10 := Lib.hid hV10
  have HE10 := Lib.hid hE10
  clear hB10 hV10 hE10
  have x0 := HX9.out.get 0 (.int .i64 0)
  have x1 := HX9.out.get 1 (.int .i64 1)
  have x2 := HX9.out.get 2 (.string e19)
  have x3 := HX9.out.get 3 (.string ⟨#[]⟩)
  have x4 := HX9.out.get 4 (.int .i64 0)
  have x5 := HX9.out.get 5 (.int .i64 4)
  have x6 := HX9.out.get 6 (.string ⟨#[]⟩)
  have x7 := HX9.out.get 7 (.bool false)
  have x8 := HX9.out.get 8 (.slice none 0 0)
  have b0 := HB9.out.get 0 (.int .i64 0)
  have b1 := HB9.out.get 1 (.int .i64 0)
  have b2 := HB9.out.get 2 (.string ⟨#[]⟩)
  have b3 := HB9.out.get 3 (.string ⟨#[]⟩)
  have b4 := HB9.out.get 4 (.int .i64 0)
  have b5 := HB9.out.get 5 (.int .i64 0)
  have b6 := HB9.out.get 6 (.string ⟨#[]⟩)
  have b7 := HB9.out.get 7 (.bool false)
  have b8 := HB9.out.get 8 (.slice none 0 0)
  have z0 := HB9.out.froz 0 (by simp)
  have z1 := HB9.out.froz 1 (by simp)
  have z2 := HB9.out.froz 2 (by simp)
  have z3 := HB9.out.froz 3 (by simp)
  have z4 := HB9.out.froz 4 (by simp)
  have z5 := HB9.out.froz 5 (by simp)
  have z6 := HB9.out.froz 6 (by simp)
  have z7 := HB9.out.froz 7 (by simp)
  have z8 := HB9.out.froz 8 (by simp)
  clear HX9 HB9 HV9 HE9
  go_upto_region 14 with fail
  generalize (World.setCell (World.setCell (World.setCell (World.setCell (World.setCell (World.setCell (World.setCell (World.setCell (World.setCell W9 ⟨w.heap.size + 1 + 1, 0, none⟩ (.int .i64 0)) ⟨w.heap.size + 1 + 1, 1, none⟩ (.int .i64 1)) ⟨w.heap.size + 1 + 1, 2, none⟩ (.string e19)) ⟨w.heap.size + 1 + 1, 3, none⟩ (.string ⟨#[]⟩)) ⟨w.heap.size + 1 + 1, 4, none⟩ (.int .i64 0)) ⟨w.heap.size + 1 + 1, 5, none⟩ (.int .i64 4)) ⟨w.heap.size + 1 + 1, 6, none⟩ (.string ⟨#[]⟩)) ⟨w.heap.size + 1 + 1, 7, none⟩ (.bool false)) ⟨w.heap.size + 1 + 1, 8, none⟩ (.slice none 0 0)) = W10 at HB10 HV10 HE10 ⊢
  clear x0 x1 x2 x3 x4 x5 x6 x7 x8 b0 b1 b2 b3 b4 b5 b6 b7 b8 z0 z1 z2 z3 z4 z5 z6 z7 z8
  go_wp2_with fail
  rw [rounds_succ]
  go_wp2_with fail
  rw [rounds_succ]
  have hV10 := HV10.out
  have hB10 := HB10.out
  have b0 := hB10.get 0 (.int .i64 0)
  have b1 := hB10.get 1 (.int .i64 1)
  have b2 := hB10.get 2 (.string e19)
  have b3 := hB10.get 3 (.string ⟨#[]⟩)
  have b4 := hB10.get 4 (.int .i64 0)
  have b5 := hB10.get 5 (.int .i64 4)
  have b6 := hB10.get 6 (.string ⟨#[]⟩)
  have b7 := hB10.get 7 (.bool false)
  have b8 := hB10.get 8 (.slice none 0 0)
  have v0 := hV10.get 0 (.int .i64 0)
  have v1 := hV10.get 1 (.int .i64 0)
  have v2 := hV10.get 2 (.string ⟨#[]⟩)
  have v3 := hV10.get 3 (.string ⟨#[]⟩)
  have v4 := hV10.get 4 (.int .i64 0)
  have v5 := hV10.get 5 (.int .i64 0)
  have v6 := hV10.get 6 (.string ⟨#[]⟩)
  have v7 := hV10.get 7 (.bool false)
  have v8 := hV10.get 8 (.slice none 0 0)
  have z0 := hV10.froz 0 (by simp)
  have z1 := hV10.froz 1 (by simp)
  have z2 := hV10.froz 2 (by simp)
  have z3 := hV10.froz 3 (by simp)
  have z4 := hV10.froz 4 (by simp)
  have z5 := hV10.froz 5 (by simp)
  have z6 := hV10.froz 6 (by simp)
  have z7 := hV10.froz 7 (by simp)
  have z8 := hV10.froz 8 (by simp)
  clear hV10 hB10 HB10
  go_wp2_with fail
  refine bodyPost_ret (v := .tuple #[.agg #[.int .i64 0, .int .i64 1, .string e19, .string ⟨#[]⟩, .int .i64 0, .int .i64 4, .string ⟨#[]⟩, .bool false, .slice none 0 0], .bool true]) ?_ rfl ⟨rfl, below_all9 HE10.out (P := w.heap.size + 1) (Nat.le_succ _) (.int .i64 0) (.int .i64 1) (.string e19) (.string ⟨#[]⟩) (.int .i64 0) (.int .i64 4) (.string ⟨#[]⟩) (.bool false) (.slice none 0 0)⟩
  have hfin := Cs.all9 HV10.out (.int .i64 0) (.int .i64 1) (.string e19) (.string ⟨#[]⟩) (.int .i64 0) (.int .i64 4) (.string ⟨#[]⟩) (.bool false) (.slice none 0 0)
  have g0 := hfin.get 0 (.int .i64 0)
  have g1 := hfin.get 1 (.int .i64 1)
  have g2 := hfin.get 2 (.string e19)
  have g3 := hfin.get 3 (.string ⟨#[]⟩)
  have g4 := hfin.get 4 (.int .i64 0)
  have g5 := hfin.get 5 (.int .i64 4)
  have g6 := hfin.get 6 (.string ⟨#[]⟩)
  have g7 := hfin.get 7 (.bool false)
  have g8 := hfin.get 8 (.slice none 0 0)
  generalize (World.setCell (World.setCell (World.setCell (World.setCell (World.setCell (World.setCell (World.setCell (World.setCell (World.setCell W10 ⟨w.heap.size + 1, 0, none⟩ (.int .i64 0)) ⟨w.heap.size + 1, 1, none⟩ (.int .i64 1)) ⟨w.heap.size + 1, 2, none⟩ (.string e19)) ⟨w.heap.size + 1, 3, none⟩ (.string ⟨#[]⟩)) ⟨w.heap.size + 1, 4, none⟩ (.int .i64 0)) ⟨w.heap.size + 1, 5, none⟩ (.int .i64 4)) ⟨w.heap.size + 1, 6, none⟩ (.string ⟨#[]⟩)) ⟨w.heap.size + 1, 7, none⟩ (.bool false)) ⟨w.heap.size + 1, 8, none⟩ (.slice none 0 0)) = WF at g0 g1 g2 g3 g4 g5 g6 g7 g8 ⊢
  simp [results, Tryd.results12, go_sem, g0, g1, g2, g3, g4, g5, g6, g7, g8]
end Go.Proofs.YtkdknfedieeenaaDoor
