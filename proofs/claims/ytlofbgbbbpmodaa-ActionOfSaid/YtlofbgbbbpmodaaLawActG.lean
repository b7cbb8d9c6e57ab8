/- What a target means to the statements of layer 14; the walk of ActionGoal. -/
import Derived.Test.YtlofbgbbbpmodaaLawActA
import Derived.Test.YtlofbgbbbpmodaaBuf2
namespace Go.Proofs.Ytlofbgbbbpmodaa
open Go.RowKit
set_option linter.unusedVariables false
set_option maxRecDepth 20000

/-- P14.1's reading of a CNAME's target. -/
def ofL (s : ByteArray) (ls : List (List UInt8)) : Int × ByteArray × Bool :=
  match ls with
  | [] => (4, ⟨#[]⟩, false)
  | [l] => if l = [42] then (5, ⟨#[]⟩, false) else if l = [114, 112, 122, 45, 112, 97, 115, 115, 116, 104, 114, 117] then (2, ⟨#[]⟩, false) else if l = [114, 112, 122, 45, 100, 114, 111, 112] then (3, ⟨#[]⟩, false)
    else if l = [114, 112, 122, 45, 116, 99, 112, 45, 111, 110, 108, 121] then (6, ⟨#[]⟩, false) else (7, s, false)
  | l :: m :: ls => if l = [42] then (7, ⟨(wire (m :: ls)).toArray⟩, true) else (7, s, false)
theorem lbl_other (l : List UInt8) (k : List UInt8) (h : l ≠ k) : ((ByteArray.mk l.toArray).toList == k) = false := by rw [str_is, mk_toList']; simpa using h
theorem lbl_same (l : List UInt8) : ((ByteArray.mk l.toArray).toList == l) = true := by rw [str_is, mk_toList']; simp
theorem okLabel_fold {x : List UInt8} (h : okLabel x = true) : x.map fold8 = x := by
  simp only [okLabel, Bool.and_eq_true, List.all_eq_true] at h
  have : x.map fold8 = x.map id := List.map_congr_left fun c hc => by
    have := h.2 c hc
    unfold fold8
    rw [if_neg (by simpa using this)]; rfl
  rw [this, List.map_id]
theorem ok_make {ls : List (List UInt8)} (h : ∀ x ∈ ls, okLabel x = true) (hl : (wire ls).length ≤ 254) : makeL ls = some (wire ls) := by
  have hlow : lowL ls = ls := by
    unfold lowL
    have : ls.map (·.map fold8) = ls.map id := List.map_congr_left fun x hx => okLabel_fold (h x hx)
    rw [this, List.map_id]
  unfold makeL
  rw [hlow, if_pos ⟨List.all_eq_true.2 fun x hx => by have := okLabel_len (h x hx); unfold okLen; simpa using this, hl⟩]
theorem ok_make_any {ls : List (List UInt8)} (h : ∀ x ∈ ls, okLabel x = true) (hl : (wire ls).length ≤ 254) (A : Option Addr) (n c : Nat) (w : World) (hA : Sl w w.heap.size 1 A n (ls.map sv)) (hn : n ≤ maxLen) :
    Calls Try.prog 13 #[.slice A n c] w fun e w' => e = .returned (.tuple #[sv (wire ls), .bool true]) ∧ Below w.heap.size w w' := by
  have hv : ls.map sv = (ls.map fun l => (⟨l.toArray⟩ : ByteArray)).map Value.string := by simp [sv, Function.comp_def]
  rw [hv] at hA
  have hb : bytesOf (ls.map fun l => (⟨l.toArray⟩ : ByteArray)) = ls := by unfold bytesOf; simp [Function.comp_def]
  have hm : makeOf (ls.map fun l => (⟨l.toArray⟩ : ByteArray)) = some (wire ls) := by unfold makeOf; rw [hb]; exact ok_make h hl
  refine (make_any A n c _ w hA (by
    intro t ht
    obtain ⟨l, hl', rfl⟩ := List.mem_map.1 ht
    have := okLabel_len (h l hl')
    rw [mk_size]; unfold maxLen; omega) hn).mono ?_
  rintro e w' ⟨rfl, hb'⟩
  refine ⟨?_, hb'⟩
  unfold nameOf
  rw [hm]; rfl
set_option maxHeartbeats 3200000 in
theorem of14_any (s : ByteArray) (LS : List (List UInt8)) (w : World) (hs : s.size ≤ 254) (hlo : labelsOf s = some LS) :
    Calls Try.prog 12 #[.string s] w fun e w' => e = .returned (actV (ofL s LS)) ∧ Below w.heap.size w w' := by
  obtain ⟨W, hW⟩ : ∃ W, W = w.alloc (.cells #[.int .i64 0, .string ⟨#[]⟩, .bool false, .slice none 0 0] 34) := ⟨_, rfl⟩
  have hC0 : Cs W w.heap.size [.int .i64 0, .string ⟨#[]⟩, .bool false, .slice none 0 0] := by rw [hW]; exact Cs.new w _ _ _
  have hbW : Below w.heap.size w W := by rw [hW]; exact (Below.refl _ _).alloc (Nat.le_refl _) _
  have LB := Lib.hid (fun w => labels_any s w (by unfold maxLen; omega))
  have hok := (nameLabels_iff _ _).1 hlo
  have hL : labelsL s = LS := by unfold labelsL; rw [hlo]; rfl
  rw [hlo, hL] at LB
  obtain ⟨R, hR⟩ : ∃ R, ofL s LS = R := ⟨_, rfl⟩
  rw [hR]
  have HR := Lib.hid hR
  clear hR
  have HO := Lib.hid hok
  clear hL hok hlo
  go_enter Try.func12, Try.ntmps12
  go_wp2_with fail
  rw [← hW]
  clear hW
  refine (LB.out _).mono ?_
  rintro e w1 ⟨v, rfl, hbuf⟩
  have hC := hC0.below hbuf.below
  have hb1 := below_trans hbW hbW.size hbuf.below
  obtain ⟨A', c', rfl, hv1, hv2, hv3⟩ := hbuf.slice3
  have hSl := hbuf.sl
  clear hC0 hbW hbuf LB
  match LS with
  | [] =>
    have HT : Hid (R = (4, ⟨#[]⟩, false)) := Lib.hid (HR.out.symm.trans (show ofL s [] = (4, ⟨#[]⟩, false) from rfl))
    clear hSl hv3 hv1 HO
    have c0 := hC.get 0 _
    have c1 := hC.get 1 _
    have c2 := hC.get 2 _
    have c3 := hC.get 3 _
    have f0 := hC.froz 0
    have f1 := hC.froz 1
    have f2 := hC.froz 2
    have f3 := hC.froz 3
    go_wp2_with fail
    refine bodyPost_ret (v := .agg #[.int .i64 4, .string ⟨#[]⟩, .bool false, .slice none 0 0]) (by simp [results, Try.results12, go_sem, c0, c1, c2, c3]) rfl ⟨by rw [HT.out]; rfl, ?_⟩
    iterate 4 (refine Below.setCell ?_ (by simp) _)
    exact hb1
  | [l] =>
    obtain ⟨g, rfl, hg'⟩ : ∃ g, A' = some ⟨g, 0, none⟩ ∧ g < w1.heap.size := by
      rcases hv3 with ⟨_, h, _⟩ | ⟨g, h1, h2⟩
      · simp at h
      · exact ⟨g, h1, h2⟩
    have hcell := hSl.cell 0 (sv l) (by simp)
    unfold sv at hcell
    rw [Nat.zero_add] at hcell
    obtain ⟨LB, hLB⟩ : ∃ x, x = ByteArray.mk l.toArray := ⟨_, rfl⟩
    rw [← hLB] at hcell
    clear hSl hv1 HO hv3
    by_cases e1 : l = [42]
    · have HT : Hid (R = (5, ⟨#[]⟩, false)) := Lib.hid (HR.out.symm.trans (show ofL s [l] = (5, ⟨#[]⟩, false) from (by simp only [ofL, e1, if_true])))
      have q1 : (LB.toList == [42]) = true := by rw [hLB, e1]; exact lbl_same _
      clear hLB e1
      have c0 := hC.get 0 _
      have c1 := hC.get 1 _
      have c2 := hC.get 2 _
      have c3 := hC.get 3 _
      have f0 := hC.froz 0
      have f1 := hC.froz 1
      have f2 := hC.froz 2
      have f3 := hC.froz 3
      go_wp2_with fail
      refine bodyPost_ret (v := .agg #[.int .i64 5, .string ⟨#[]⟩, .bool false, .slice none 0 0]) (by simp [results, Try.results12, go_sem, c0, c1, c2, c3]) rfl ⟨by rw [HT.out]; rfl, ?_⟩
      iterate 4 (refine Below.setCell ?_ (by simp) _)
      exact hb1
    have q1 : (LB.toList == [42]) = false := by rw [hLB]; exact lbl_other _ _ e1
    by_cases e2 : l = [114, 112, 122, 45, 112, 97, 115, 115, 116, 104, 114, 117]
    · have HT : Hid (R = (2, ⟨#[]⟩, false)) := Lib.hid (HR.out.symm.trans (show ofL s [l] = (2, ⟨#[]⟩, false) from (by simp only [ofL, e2]; rfl)))
      have q2 : (LB.toList == [114, 112, 122, 45, 112, 97, 115, 115, 116, 104, 114, 117]) = true := by rw [hLB, e2]; exact lbl_same _
      clear hLB e1 e2
      have c0 := hC.get 0 _
      have c1 := hC.get 1 _
      have c2 := hC.get 2 _
      have c3 := hC.get 3 _
      have f0 := hC.froz 0
      have f1 := hC.froz 1
      have f2 := hC.froz 2
      have f3 := hC.froz 3
      go_wp2_with fail
      refine bodyPost_ret (v := .agg #[.int .i64 2, .string ⟨#[]⟩, .bool false, .slice none 0 0]) (by simp [results, Try.results12, go_sem, c0, c1, c2, c3]) rfl ⟨by rw [HT.out]; rfl, ?_⟩
      iterate 4 (refine Below.setCell ?_ (by simp) _)
      exact hb1
    have q2 : (LB.toList == [114, 112, 122, 45, 112, 97, 115, 115, 116, 104, 114, 117]) = false := by rw [hLB]; exact lbl_other _ _ e2
    by_cases e3 : l = [114, 112, 122, 45, 100, 114, 111, 112]
    · have HT : Hid (R = (3, ⟨#[]⟩, false)) := Lib.hid (HR.out.symm.trans (show ofL s [l] = (3, ⟨#[]⟩, false) from (by simp only [ofL, e3]; rfl)))
      have q3 : (LB.toList == [114, 112, 122, 45, 100, 114, 111, 112]) = true := by rw [hLB, e3]; exact lbl_same _
      clear hLB e1 e2 e3
      have c0 := hC.get 0 _
      have c1 := hC.get 1 _
      have c2 := hC.get 2 _
      have c3 := hC.get 3 _
      have f0 := hC.froz 0
      have f1 := hC.froz 1
      have f2 := hC.froz 2
      have f3 := hC.froz 3
      go_wp2_with fail
      refine bodyPost_ret (v := .agg #[.int .i64 3, .string ⟨#[]⟩, .bool false, .slice none 0 0]) (by simp [results, Try.results12, go_sem, c0, c1, c2, c3]) rfl ⟨by rw [HT.out]; rfl, ?_⟩
      iterate 4 (refine Below.setCell ?_ (by simp) _)
      exact hb1
    have q3 : (LB.toList == [114, 112, 122, 45, 100, 114, 111, 112]) = false := by rw [hLB]; exact lbl_other _ _ e3
    by_cases e4 : l = [114, 112, 122, 45, 116, 99, 112, 45, 111, 110, 108, 121]
    · have HT : Hid (R = (6, ⟨#[]⟩, false)) := Lib.hid (HR.out.symm.trans (show ofL s [l] = (6, ⟨#[]⟩, false) from (by simp only [ofL, e4]; rfl)))
      have q4 : (LB.toList == [114, 112, 122, 45, 116, 99, 112, 45, 111, 110, 108, 121]) = true := by rw [hLB, e4]; exact lbl_same _
      clear hLB e1 e2 e3 e4
      have c0 := hC.get 0 _
      have c1 := hC.get 1 _
      have c2 := hC.get 2 _
      have c3 := hC.get 3 _
      have f0 := hC.froz 0
      have f1 := hC.froz 1
      have f2 := hC.froz 2
      have f3 := hC.froz 3
      go_wp2_with fail
      refine bodyPost_ret (v := .agg #[.int .i64 6, .string ⟨#[]⟩, .bool false, .slice none 0 0]) (by simp [results, Try.results12, go_sem, c0, c1, c2, c3]) rfl ⟨by rw [HT.out]; rfl, ?_⟩
      iterate 4 (refine Below.setCell ?_ (by simp) _)
      exact hb1
    have q4 : (LB.toList == [114, 112, 122, 45, 116, 99, 112, 45, 111, 110, 108, 121]) = false := by rw [hLB]; exact lbl_other _ _ e4
    have HT : Hid (R = (7, s, false)) := Lib.hid (HR.out.symm.trans (show ofL s [l] = (7, s, false) from (by simp only [ofL, e1, e2, e3, e4, if_false])))
    clear hLB e1 e2 e3 e4
    have c0 := hC.get 0 _
    have c1 := hC.get 1 _
    have c2 := hC.get 2 _
    have c3 := hC.get 3 _
    have f0 := hC.froz 0
    have f1 := hC.froz 1
    have f2 := hC.froz 2
    have f3 := hC.froz 3
    go_wp2_with fail
    refine bodyPost_ret (v := .agg #[.int .i64 7, .string s, .bool false, .slice none 0 0]) (by simp [results, Try.results12, go_sem, c0, c1, c2, c3]) rfl ⟨by rw [HT.out]; rfl, ?_⟩
    iterate 4 (refine Below.setCell ?_ (by simp) _)
    exact hb1
  | l :: m :: ls =>
    obtain ⟨g, rfl, hg'⟩ : ∃ g, A' = some ⟨g, 0, none⟩ ∧ g < w1.heap.size := by
      rcases hv3 with ⟨_, h, _⟩ | ⟨g, h1, h2⟩
      · simp at h
      · exact ⟨g, h1, h2⟩
    have hcell := hSl.cell 0 (sv l) (by simp)
    unfold sv at hcell
    rw [Nat.zero_add] at hcell
    obtain ⟨LB, hLB⟩ : ∃ x, x = ByteArray.mk l.toArray := ⟨_, rfl⟩
    rw [← hLB] at hcell
    obtain ⟨N, hN⟩ : ∃ N, (l :: m :: ls).length = N := ⟨_, rfl⟩
    have hN2 : 2 ≤ N := by rw [← hN]; simp
    rw [hN] at hSl hv1 ⊢
    have n0 : ((N : Int) == 0) = false := by simp; omega
    have n1 : ((N : Int) == 1) = false := by simp; omega
    have n2 : (0 : Int) < N := by omega
    by_cases e1 : l = [42]
    · have HT : Hid (R = (7, ⟨(wire (m :: ls)).toArray⟩, true)) := Lib.hid (HR.out.symm.trans (show ofL s (l :: m :: ls) = (7, ⟨(wire (m :: ls)).toArray⟩, true) from (by simp only [ofL, e1, if_true])))
      have q1 : (LB.toList == [42]) = true := by rw [hLB, e1]; exact lbl_same _
      have hNc : 2 ≤ c' := by omega
      have hc1 : ¬ c' = 1 := by omega
      have hc2 : (1 : Int) ≤ c' := by omega
      have hn3 : (1 : Int) ≤ N := by omega
      have hS1 : Sl w1 w1.heap.size 1 (some ⟨g, 1, none⟩) (N - 1) ((m :: ls).map sv) := ⟨by simp at hN ⊢; omega, fun _ => ⟨g, 1, rfl, hg', fun j u hu => by
        have := hSl.cell (j + 1) u (by simpa using hu)
        rw [Nat.zero_add] at this
        rwa [Nat.add_comm 1 j]⟩⟩
      have hwl : (wire (m :: ls)).length ≤ 254 := by
        have h1 := HO.out.1
        rw [HO.out.2.1] at h1
        have h2 : (wire (l :: m :: ls)).length = l.length + 1 + (wire (m :: ls)).length := by rw [wire_cons]; simp; omega
        omega
      have MK := Lib.hid (ok_make_any (fun x hx => HO.out.2.2 x (by simp [List.mem_cons] at hx ⊢; exact .inr hx)) hwl (some ⟨g, 1, none⟩) (N - 1) (c' - 1) w1 hS1 (by unfold maxLen at *; omega))
      unfold sv at MK
      generalize ByteArray.mk (wire (m :: ls)).toArray = PT at *
      clear hLB e1 hSl hv1 HO hv3 hN hS1 hwl
      have hN1 : ((N : Int) - 1).toNat = N - 1 := by omega
      have hN2' : ((c' : Int) - 1).toNat = c' - 1 := by omega
      go_wp2_with fail
      refine MK.out.mono ?_
      rintro e w2 ⟨rfl, hb2'⟩
      have hC2 := hC.below hb2'
      have hb2 := below_trans hb1 hb1.size hb2'
      have c0 := hC2.get 0 _
      have c1 := hC2.get 1 _
      have c2 := hC2.get 2 _
      have c3 := hC2.get 3 _
      have f0 := hC2.froz 0
      have f1 := hC2.froz 1
      have f2 := hC2.froz 2
      have f3 := hC2.froz 3
      clear hC hC2 hb2'
      go_wp2_with fail
      refine bodyPost_ret (v := .agg #[.int .i64 7, .string PT, .bool true, .slice none 0 0]) (by simp [results, Try.results12, go_sem, c0, c1, c2, c3]) rfl ⟨by rw [HT.out]; rfl, ?_⟩
      iterate 4 (refine Below.setCell ?_ (by simp) _)
      exact hb2
    · have q1 : (LB.toList == [42]) = false := by rw [hLB]; exact lbl_other _ _ e1
      have HT : Hid (R = (7, s, false)) := Lib.hid (HR.out.symm.trans (show ofL s (l :: m :: ls) = (7, s, false) from (by simp only [ofL, e1, if_false])))
      clear hLB e1 hSl hv1 HO hv3 hN
      have c0 := hC.get 0 _
      have c1 := hC.get 1 _
      have c2 := hC.get 2 _
      have c3 := hC.get 3 _
      have f0 := hC.froz 0
      have f1 := hC.froz 1
      have f2 := hC.froz 2
      have f3 := hC.froz 3
      go_wp2_with fail
      refine bodyPost_ret (v := .agg #[.int .i64 7, .string s, .bool false, .slice none 0 0]) (by simp [results, Try.results12, go_sem, c0, c1, c2, c3]) rfl ⟨by rw [HT.out]; rfl, ?_⟩
      iterate 4 (refine Below.setCell ?_ (by simp) _)
      exact hb1
end Go.Proofs.Ytlofbgbbbpmodaa
