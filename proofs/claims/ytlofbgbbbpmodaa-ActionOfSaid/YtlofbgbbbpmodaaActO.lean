/- The contracts of layer 14 in general: what records do. -/
import Derived.Test.YtlofbgbbbpmodaaActF
import Derived.Test.YtlofbgbbbpmodaaActB
namespace Go.Proofs.Ytlofbgbbbpmodaa
open Go.RowKit
set_option linter.unusedVariables false
set_option linter.unusedSimpArgs false
set_option maxRecDepth 20000
/-- A type that no local data have. -/
def badT (r : RecT) : Bool := r.2.1 == 6 || (r.2.1 == 2 || r.2.1 == 5)
def zeroA : Value := .agg #[.int .i64 0, .string ⟨#[]⟩, .bool false, .slice none 0 0]
/-- What is known of the records when Of is called. -/
structure Rows4 (w : World) (A : Option Addr) (c : Nat) (rs : List RecT) : Prop where
  sl : Sl w w.heap.size 4 A rs.length (flatR rs)
  none_ : A = none → rs.length = 0 ∧ c = 0
  few : rs.length ≤ 1000
theorem Rows4.recs {w : World} {A : Option Addr} {c : Nat} {rs : List RecT} (h : Rows4 w A c rs) : Recs w A rs := h.sl.recs (Nat.le_refl _) rfl
theorem Rows4.below {w w' : World} {A : Option Addr} {c : Nat} {rs : List RecT} (h : Rows4 w A c rs) (hb : Below w.heap.size w w') : Rows4 w' A c rs := ⟨(h.sl.below hb).more hb.size, h.none_, h.few⟩
theorem of_none (c : Nat) (A : Option Addr) (w : World) : Calls Try.prog 8 #[.slice A 0 c] w fun e w' => e = .returned (.tuple #[zeroA, .bool false]) ∧ Below w.heap.size w w' := by
  go_enter Try.func8, Try.ntmps8
  go_wp2_with fail
  refine bodyPost_ret (v := .tuple #[.agg #[.int .i64 0, .string ⟨#[]⟩, .bool false, .slice none 0 0], .bool false]) (by simp [results, Try.results8, go_sem]) rfl ⟨by unfold zeroA; rfl, ?_⟩
  exact (Below.refl _ _).alloc (Nat.le_refl _) _
/-- What Of tells of records that are some, and no CNAME alone. -/
def OfMore (w : World) (rs : List RecT) (e : Ending) (w' : World) : Prop := (rs.any badT = true ∧ e = .returned (.tuple #[zeroA, .bool false]) ∧ Below w.heap.size w w') ∨
      (rs.any badT = false ∧ ∃ v, e = .returned (.tuple #[.agg #[.int .i64 8, .string ⟨#[]⟩, .bool false, v], .bool true]) ∧ OBM 4 w.heap.size w v rs.length (flatR rs) w')
set_option maxHeartbeats 3200000 in
theorem of_more (A : Option Addr) (c : Nat) (rs : List RecT) (w : World) (h : Rows4 w A c rs) (hne : rs ≠ []) (h1 : ∀ r, rs = [r] → ¬ r.2.1 = 5) :
    Calls Try.prog 8 #[.slice A rs.length c] w (OfMore w rs) := by
  have hpos : 0 < rs.length := List.length_pos_iff.2 hne
  have hposi : (0 : Int) < rs.length := by omega
  have hfew := h.few
  have hfi : (rs.length : Int) ≤ 1000 := by omega
  obtain ⟨W, hW⟩ : ∃ W, W = w.alloc (.cells #[.int .i64 0, .string ⟨#[]⟩, .bool false, .slice none 0 0] 34) := ⟨_, rfl⟩
  have hD : Cs W w.heap.size [.int .i64 0, .string ⟨#[]⟩, .bool false, .slice none 0 0] := by rw [hW]; exact Cs.new w _ _ _
  have hbW : Below w.heap.size w W := by rw [hW]; exact (Below.refl _ _).alloc (Nat.le_refl _) _
  obtain ⟨g, hg⟩ : ∃ g, g = w.heap.size := ⟨_, rfl⟩
  have CL := Lib.hid (fun w (h : Rows4 w A c rs) => clone_recs A rs.length c (flatR rs) w w.heap.size h.sl (flatR_one rs) h.none_ (by omega))
  have H := Lib.hid h
  have H1 := Lib.hid h1
  have HW := Lib.hid hW
  have HD := Lib.hid hD
  have HBW := Lib.hid hbW
  have HG := Lib.hid hg
  clear h h1 hW hD hbW hg hne
  obtain ⟨r0, hr0⟩ : ∃ r, rs[0]? = some r := ⟨_, List.getElem?_eq_getElem hpos⟩
  obtain ⟨b, off, rfl, hb, z0, z1, z2, z3⟩ := (H.out).recs 0 _ hr0
  simp only [Nat.zero_mul, Nat.add_zero] at z0 z1 z2 z3
  have HR0 := Lib.hid hr0
  obtain ⟨N, hN⟩ : ∃ N, rs.length = N := ⟨_, rfl⟩
  have HT : Hid (N = 1 → ¬ r0.2.1 = 5) := Lib.hid (by
    intro h1
    have : rs = [r0] := by
      match rs, hr0, hN with
      | [a], h, _ => simp at h; rw [h]
      | [], h, _ => simp at h
      | a :: b :: l, h, h2 => simp at h2; omega
    exact H1.out r0 this)
  rw [hN] at CL hpos hposi hfew hfi ⊢
  have HN := Lib.hid hN
  clear hr0 hN H1
  have hl0 : ((N : Int) == 0) = false := by simp; omega
  go_enter Try.func8, Try.ntmps8
  by_cases hl1 : N = 1
  all_goals
    first
    | (subst hl1
       have ht := HT.out rfl
       have ht5 : (r0.2.1 == 5) = false := by simpa using ht
       clear ht
       obtain ⟨N, hNN⟩ : ∃ N : Nat, N = 1 := ⟨1, rfl⟩
       have HNN := Lib.hid hNN
       clear hNN
       go_wp2_with fail)
    | (have hli : ((N : Int) == 1) = false := (by simp; omega)
       have HNN : Hid (N = N) := Lib.hid rfl
       go_wp2_with fail)
  all_goals
    rw [← HW.out]
    have HZ := Lib.hid z1
    clear z0 z1 z2 z3 hb
    go_loopw [27] (fun i wr => ∃ k : Nat, k ≤ N ∧ i = .int .i64 k ∧ Hid (∀ r ∈ rs.take k, badT r = false) ∧ Hid (Below W.heap.size W wr)) (fun i _ => N - (intOf i).toNat)
    case atStart => exact ⟨0, Nat.zero_le _, rfl, Lib.hid (by simp), Lib.hid (Below.refl _ _)⟩
    case round =>
      obtain ⟨k, hk, rfl, HK, HB⟩ := hrel
      have HBw := Lib.hid (below_trans HBW.out HBW.out.size HB.out)
      by_cases hlt : k < N
      · have hlt' : (k : Int) < N := by omega
        try (have hlt1 : (k : Int) < 1 := by have := HNN.out; omega)
        obtain ⟨r, hr⟩ : ∃ r, rs[k]? = some r := ⟨_, List.getElem?_eq_getElem (by have a1 := HN.out; have a2 := HNN.out; omega)⟩
        obtain ⟨b', off', he, hb, z0, z1, z2, z3⟩ := (H.out.below HBw.out).recs k _ hr
        injection he with he
        injection he with he1 he2
        subst he1 he2
        have HR := Lib.hid hr
        clear hr
        have hD := HD.out.below HB.out
        have d0 := hD.get 0 _
        have d1 := hD.get 1 _
        have d2 := hD.get 2 _
        have d3 := hD.get 3 _
        have f0 := hD.froz 0
        have f1 := hD.froz 1
        have f2 := hD.froz 2
        have f3 := hD.froz 3
        have hg := hD.lt
        clear hD
        cases e6 : (r.2.1 == 6) with
        | true =>
          have HBad := Lib.hid (show badT r = true by unfold badT; rw [e6]; rfl)
          go_wp2_with fail
          refine bodyPost_ret (v := .tuple #[.agg #[.int .i64 0, .string ⟨#[]⟩, .bool false, .slice none 0 0], .bool false]) (by simp [results, Try.results8, go_sem, d0, d1, d2, d3, hg]) rfl (.inl ⟨List.any_eq_true.2 ⟨r, List.mem_of_getElem? HR.out, HBad.out⟩, by unfold zeroA; rfl, ?_⟩)
          refine Below.alloc ?_ (by simpa using HBw.out.size) _
          iterate 4 (refine Below.setCell ?_ (by simp) _)
          exact HBw.out
        | false =>
          cases e2 : (r.2.1 == 2) with
          | true =>
            have HBad := Lib.hid (show badT r = true by unfold badT; rw [e6, e2]; rfl)
            go_wp2_with fail
            refine bodyPost_ret (v := .tuple #[.agg #[.int .i64 0, .string ⟨#[]⟩, .bool false, .slice none 0 0], .bool false]) (by simp [results, Try.results8, go_sem, d0, d1, d2, d3, hg]) rfl (.inl ⟨List.any_eq_true.2 ⟨r, List.mem_of_getElem? HR.out, HBad.out⟩, by unfold zeroA; rfl, ?_⟩)
            refine Below.alloc ?_ (by simpa using HBw.out.size) _
            iterate 4 (refine Below.setCell ?_ (by simp) _)
            exact HBw.out
          | false =>
            cases e5 : (r.2.1 == 5) with
            | true =>
              have HBad := Lib.hid (show badT r = true by unfold badT; rw [e6, e2, e5]; rfl)
              go_wp2_with fail
              refine bodyPost_ret (v := .tuple #[.agg #[.int .i64 0, .string ⟨#[]⟩, .bool false, .slice none 0 0], .bool false]) (by simp [results, Try.results8, go_sem, d0, d1, d2, d3, hg]) rfl (.inl ⟨List.any_eq_true.2 ⟨r, List.mem_of_getElem? HR.out, HBad.out⟩, by unfold zeroA; rfl, ?_⟩)
              refine Below.alloc ?_ (by simpa using HBw.out.size) _
              iterate 4 (refine Below.setCell ?_ (by simp) _)
              exact HBw.out
            | false =>
              have HBad := Lib.hid (show badT r = false by unfold badT; rw [e6, e2, e5]; rfl)
              go_wp2_with fail
              go_round
              case rel => exact ⟨k + 1, by omega, by go_num, Lib.hid (by rw [List.take_add_one, HR.out]; intro q hq; exact (List.mem_append.1 hq).elim (fun hq => HK.out q hq) (fun hq => by simp at hq; rw [hq]; exact HBad.out)), Lib.hid (HB.out.alloc HB.out.size _)⟩
              case measure => simp [intOf]; omega
      · have hlt' : ¬ (k : Int) < N := by omega
        have hlt1 : ¬ (k : Int) < 1 := by have := HNN.out; omega
        go_wp2_with fail
        refine (CL.out _ (H.out.below HBw.out)).mono ?_
        rintro e w2 ⟨v, rfl, ho⟩
        have hbel := ho.bel
        have hno : Hid (rs.any badT = false) := Lib.hid (by
          have h := HK.out
          rw [List.take_of_length_le (by have a1 := HN.out; have a2 := HNN.out; omega)] at h
          cases e : rs.any badT with
          | false => rfl
          | true =>
            obtain ⟨q, hq, hqb⟩ := List.any_eq_true.1 e
            rw [h q hq] at hqb; cases hqb)
        have hD := (HD.out.below HB.out).below hbel
        have d0 := hD.get 0 _
        have d1 := hD.get 1 _
        have d2 := hD.get 2 _
        have d3 := hD.get 3 _
        have f0 := hD.froz 0
        have f1 := hD.froz 1
        have f2 := hD.froz 2
        have f3 := hD.froz 3
        have hg := hD.lt
        have HNE : Hid (∀ q, v.ownBlock = some q → q ≠ w.heap.size) := Lib.hid (by
          intro q hq
          have h1 := (ho.lt q hq).1
          have h2 := (HD.out.below HB.out).lt
          omega)
        obtain ⟨A', c', rfl, hA3⟩ := ho.slice3
        have HO := Lib.hid (ho.out HBw.out.size HBw.out)
        clear hD hbel hA3 ho
        go_wp2_with fail
        refine bodyPost_ret (v := .tuple #[.agg #[.int .i64 8, .string ⟨#[]⟩, .bool false, .slice A' N c'], .bool true]) (by simp [results, Try.results8, go_sem, d0, d1, d2, d3, hg, HNN.out]) rfl (.inr ⟨hno.out, _, rfl, ?_⟩)
        rw [HN.out]
        have hNN := HNN.out
        try rw [hNN]
        refine HO.out.block ?_ (by first | exact Nat.le_refl _ | simp) (fun q hq => ?_)
        · iterate 4 (refine Below.setCell ?_ (by simp) _)
          exact HO.out.bel
        · have hne : q ≠ w.heap.size := HNE.out q hq
          rw [Below.heap_setCell _ _ _ _ hne, Below.heap_setCell _ _ _ _ hne, Below.heap_setCell _ _ _ _ hne, Below.heap_setCell _ _ _ _ hne]

end Go.Proofs.Ytlofbgbbbpmodaa
