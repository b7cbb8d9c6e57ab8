/- The trie's own functions that turn it: Put, Del. -/
import Derived.Test.YtgfoahednmipkaaDoorTrI
namespace Go.Proofs.YtgfoahednmipkaaDoor
open Go.RowKit
set_option linter.unusedVariables false
set_option maxRecDepth 20000
theorem ptrV_pointer (p : Option Nat) : ∃ u, ptrV p = .pointer u := ⟨_, rfl⟩
section
variable {W w w' : World} {B a : Nat} {bs : List Nat} {t : Tr}
/-- What a call leaves that turns the trie. -/
def TrN (W : World) (B a : Nat) (bs : List Nat) (t' : Tr) (w w' : World) : Prop :=
  ∃ bs', TrL W B a bs' t' w' ∧ Only (fun x => x = a ∨ x ∈ bs) w w' ∧ ∀ x ∈ bs', x ∈ bs ∨ w.heap.size ≤ x
set_option maxHeartbeats 1600000 in
theorem TrL.putNot (h : TrL W B a bs t w) (q : List UInt8) (x : Int) (hq : q.length ≤ 9223372036854775807) (hm : mayL q = false) :
    Calls Tryd.prog 12 #[.pointer (some ⟨a, 0, none⟩), .string (sb q), .int .i64 x] w fun e w' => e = .returned (.bool false) ∧ Below w.heap.size w w' := by
  have HMAY := Lib.hid (may_any q w hq)
  rw [hm] at HMAY
  clear h hm
  generalize sb q = QS at *
  go_enter Tryd.func12, Tryd.ntmps12
  go_wp2_with fail
  refine HMAY.out.mono ?_
  rintro e w1 ⟨rfl, hb1⟩
  have HB1 := Lib.hid hb1
  clear hb1
  go_wp2_with fail
  go_ret
  exact ⟨rfl, HB1.out⟩
set_option maxHeartbeats 3200000 in
theorem TrL.put (h : TrL W B a bs t w) (q : List UInt8) (x : Int) (hm : mayL q = true) (hf : t.keys.length ≤ 1152921504606846976) :
    Calls Tryd.prog 12 #[.pointer (some ⟨a, 0, none⟩), .string (sb q), .int .i64 x] w fun e w' => e = .returned (.bool (getR t q).isNone) ∧ TrN W B a bs (putR t q x) w w' := by
  obtain ⟨hl, hb⟩ := (mayL_iff q).1 hm
  have HMAY := Lib.hid (may_any q w (by omega))
  rw [hm] at HMAY
  have HGET := Lib.hid (fun w1 (hb1 : Below w.heap.size w w1) => (h.below hb1).get q (by omega))
  have hkeys := keys_put (x := x) h.ok h.fit hm
  have hok := (put_spec (x := x) h.ok List.nil_prefix hb).1
  have hfit := fit_put x hb hl h.fit
  obtain ⟨p, h1, h2⟩ := h.ex
  have HPUT := Lib.hid (fun w1 (hb1 : Below w.heap.size w w1) => put_any q x hb hl t p bs w1 h.fit (h2.below hb1) h.nd)
  have HC := Lib.hid (fun w1 (hb1 : Below w.heap.size w w1) => h1.below hb1)
  have HAP := Lib.hid h.apart
  have HNEXT := Lib.hid (fun (w2 w' w3 : World) (p' : Option Nat) (bs' : List Nat) (n : Value) hb h1 h2 h3 h4 hn hcs hw => h.next (w2 := w2) (w' := w') (w3 := w3) (t' := putR t q x) (p' := p') (bs' := bs') hb h1 h2 h3 h4 hok hfit n hn hcs hw)
  generalize putR t q x = t' at *
  obtain ⟨K', hK'⟩ : ∃ K', t'.keys.length = K' := ⟨_, rfl⟩
  obtain ⟨K, hK⟩ : ∃ K, t.keys.length = K := ⟨_, rfl⟩
  rw [hK'] at hkeys HNEXT
  rw [hK] at hkeys HC hf
  obtain ⟨o, ho⟩ : ∃ o, getR t q = o := ⟨_, rfl⟩
  rw [ho] at HGET hkeys ⊢
  generalize sb q = QS at *
  clear hK' hK ho h1 h2 h hok hfit hb hl hm
  cases o with
  | none =>
    simp only [Option.isSome_none, Bool.false_eq_true, if_false, Option.getD_none] at hkeys HGET
    subst hkeys
    go_enter Tryd.func12, Tryd.ntmps12
    go_wp2_with fail
    refine HMAY.out.mono ?_
    rintro e w1 ⟨rfl, hb1⟩
    have HB1 := Lib.hid hb1
    clear hb1
    go_wp2_with fail
    refine (HGET.out w1 HB1.out).mono ?_
    rintro e w2 ⟨rfl, hb2⟩
    have HB2 := Lib.hid (below_trans HB1.out HB1.out.size hb2)
    clear hb2
    have c0 := (HC.out w2 HB2.out).get 0 _
    have cl := (HC.out w2 HB2.out).lt
    go_wp2_with fail
    refine (HPUT.out w2 HB2.out).mono ?_
    rintro e w3 ⟨p', bs', rfl, g1, g2, g3, g4⟩
    have HC3 := Lib.hid (g4.cs (HC.out w2 HB2.out) HAP.out)
    have HG := Lib.hid (And.intro g1 (And.intro g2 (And.intro g3 g4)))
    clear c0 cl g1 g2 g3 g4
    have c0 := HC3.out.get 0 _
    have c1 := HC3.out.get 1 _
    have f0 := HC3.out.froz 0 (by simp)
    have f1 := HC3.out.froz 1 (by simp)
    have cl := HC3.out.lt
    obtain ⟨u, hu⟩ := ptrV_pointer p'
    rw [hu]
    have HU := Lib.hid hu
    clear hu
    have i1 : IntKind.wrap .i64 ((K : Int) + 1) = (K : Int) + 1 := IntWalk.i64_in _ (by omega)
    go_wp2_with fail
    go_ret
    refine ⟨rfl, bs', ?_⟩
    obtain ⟨g1, g2, g3, g4⟩ := HG.out
    refine HNEXT.out w2 w3 _ p' bs' (.int .i64 ((K : Int) + 1)) HB2.out g1 g2 g3 g4 (by simp) ?_ ?_
    · rw [HU.out]
      exact (HC3.out.set' 0 (.pointer u) (by simp)).set' 1 (.int .i64 ((K : Int) + 1)) (by simp)
    · exact ((Only.refl (fun x => x = a) w3).setCell ⟨a, 0, none⟩ (.pointer u) (fun _ => rfl)).setCell ⟨a, 1, none⟩ _ (fun _ => rfl)
  | some v =>
    simp only [Option.isSome_some, if_true, Option.getD_some] at hkeys HGET
    subst hkeys
    go_enter Tryd.func12, Tryd.ntmps12
    go_wp2_with fail
    refine HMAY.out.mono ?_
    rintro e w1 ⟨rfl, hb1⟩
    have HB1 := Lib.hid hb1
    clear hb1
    go_wp2_with fail
    refine (HGET.out w1 HB1.out).mono ?_
    rintro e w2 ⟨rfl, hb2⟩
    have HB2 := Lib.hid (below_trans HB1.out HB1.out.size hb2)
    clear hb2
    have c0 := (HC.out w2 HB2.out).get 0 _
    have cl := (HC.out w2 HB2.out).lt
    go_wp2_with fail
    refine (HPUT.out w2 HB2.out).mono ?_
    rintro e w3 ⟨p', bs', rfl, g1, g2, g3, g4⟩
    have HC3 := Lib.hid (g4.cs (HC.out w2 HB2.out) HAP.out)
    have HG := Lib.hid (And.intro g1 (And.intro g2 (And.intro g3 g4)))
    clear c0 cl g1 g2 g3 g4
    have c0 := HC3.out.get 0 _
    have f0 := HC3.out.froz 0 (by simp)
    have cl := HC3.out.lt
    obtain ⟨u, hu⟩ := ptrV_pointer p'
    rw [hu]
    have HU := Lib.hid hu
    clear hu
    go_wp2_with fail
    go_ret
    refine ⟨rfl, bs', ?_⟩
    obtain ⟨g1, g2, g3, g4⟩ := HG.out
    refine HNEXT.out w2 w3 _ p' bs' _ HB2.out g1 g2 g3 g4 rfl ?_ ?_
    · rw [HU.out]
      exact HC3.out.set' 0 (.pointer u) (by simp)
    · exact (Only.refl (fun x => x = a) w3).setCell ⟨a, 0, none⟩ (.pointer u) (fun _ => rfl)
set_option maxHeartbeats 3200000 in
theorem TrL.del (h : TrL W B a bs t w) (q : List UInt8) (v : Int) (hg : getR t q = some v) (hf : t.keys.length ≤ 1152921504606846976) :
    Calls Tryd.prog 11 #[.pointer (some ⟨a, 0, none⟩), .string (sb q)] w fun e w' => e = .returned (.bool true) ∧ TrN W B a bs (delR t q) w w' := by
  have hhas := (get_spec h.ok h.fit).1 hg
  have hm := has_fit h.fit hhas
  obtain ⟨hl, hb⟩ := (mayL_iff q).1 hm
  have HGET := Lib.hid (h.get q (by omega))
  rw [hg] at HGET
  have hkeys := keys_del h.ok h.fit hg
  have hok := (del_spec h.ok hhas).1
  have hfit : (delR t q).Fit := fit_del h.fit
  obtain ⟨p, h1, h2⟩ := h.ex
  have HDEL := Lib.hid (fun w1 (hb1 : Below w.heap.size w w1) => del_any q hl t p bs w1 [] v h.fit h.ok hhas (h2.below hb1) h.nd)
  have HC := Lib.hid (fun w1 (hb1 : Below w.heap.size w w1) => h1.below hb1)
  have HAP := Lib.hid h.apart
  have HNEXT := Lib.hid (fun (w2 w' w3 : World) (p' : Option Nat) (bs' : List Nat) (n : Value) hb h1 h2 h3 h4 hn hcs hw => h.next (w2 := w2) (w' := w') (w3 := w3) (t' := delR t q) (p' := p') (bs' := bs') hb h1 h2 h3 h4 hok hfit n hn hcs hw)
  generalize delR t q = t' at *
  obtain ⟨K', hK'⟩ : ∃ K', t'.keys.length = K' := ⟨_, rfl⟩
  obtain ⟨K, hK⟩ : ∃ K, t.keys.length = K := ⟨_, rfl⟩
  rw [hK'] at hkeys HNEXT
  rw [hK] at hkeys HC hf
  generalize sb q = QS at *
  clear hK' hK h1 h2 h hok hfit hb hl hm hhas hg
  subst hkeys
  simp only [Option.isSome_some, Option.getD_some] at HGET
  go_enter Tryd.func11, Tryd.ntmps11
  go_wp2_with fail
  refine HGET.out.mono ?_
  rintro e w2 ⟨rfl, hb2⟩
  have HB2 := Lib.hid hb2
  clear hb2
  have c0 := (HC.out w2 HB2.out).get 0 _
  have cl := (HC.out w2 HB2.out).lt
  go_wp2_with fail
  refine (HDEL.out w2 HB2.out).mono ?_
  rintro e w3 ⟨p', bs', rfl, g1, g2, g3, g4⟩
  have HC3 := Lib.hid (g4.cs (HC.out w2 HB2.out) HAP.out)
  have HG := Lib.hid (And.intro g1 (And.intro g2 (And.intro g3 g4)))
  clear c0 cl g1 g2 g3 g4
  have c0 := HC3.out.get 0 _
  have c1 := HC3.out.get 1 _
  have f0 := HC3.out.froz 0 (by simp)
  have f1 := HC3.out.froz 1 (by simp)
  have cl := HC3.out.lt
  obtain ⟨u, hu⟩ := ptrV_pointer p'
  rw [hu]
  have HU := Lib.hid hu
  clear hu
  have e1 : ((K' + 1 : Nat) : Int) = (K' : Int) + 1 := by simp
  rw [e1] at c1 HC3
  have i1 : IntKind.wrap .i64 ((K' : Int) + 1 - 1) = (K' : Int) := by rw [show (K' : Int) + 1 - 1 = K' by omega]; exact IntWalk.i64_in _ (by omega)
  clear e1
  go_wp2_with fail
  go_ret
  refine ⟨rfl, bs', ?_⟩
  obtain ⟨g1, g2, g3, g4⟩ := HG.out
  refine HNEXT.out w2 w3 _ p' bs' (.int .i64 (K' : Int)) HB2.out g1 g2 g3 g4 rfl ?_ ?_
  · rw [HU.out]
    have := (HC3.out.set' 0 (.pointer u) (by simp)).set' 1 (.int .i64 (K' : Int)) (by simp)
    simpa using this
  · exact ((Only.refl (fun x => x = a) w3).setCell ⟨a, 0, none⟩ (.pointer u) (fun _ => rfl)).setCell ⟨a, 1, none⟩ _ (fun _ => rfl)
theorem TrL.delNot (h : TrL W B a bs t w) (q : List UInt8) (hq : q.length ≤ 9223372036854775807) (hg : getR t q = none) :
    Calls Tryd.prog 11 #[.pointer (some ⟨a, 0, none⟩), .string (sb q)] w fun e w' => e = .returned (.bool false) ∧ Below w.heap.size w w' := by
  have HGET := Lib.hid (h.get q hq)
  rw [hg] at HGET
  clear h hg
  generalize sb q = QS at *
  simp only [Option.isSome_none, Option.getD_none] at HGET
  go_enter Tryd.func11, Tryd.ntmps11
  go_wp2_with fail
  refine HGET.out.mono ?_
  rintro e w1 ⟨rfl, hb1⟩
  have HB1 := Lib.hid hb1
  clear hb1
  go_wp2_with fail
  go_ret
  exact ⟨rfl, HB1.out⟩
theorem TrL.longest (h : TrL W B a bs t w) (q : List UInt8) (hq : q.length ≤ 9223372036854775807) :
    Calls Tryd.prog 16 #[.pointer (some ⟨a, 0, none⟩), .string (sb q)] w fun e w' => e = .returned (longV (if mayL q then longR t q none else none)) ∧ Below w.heap.size w w' := by
  obtain ⟨p, h1, h2⟩ := h.ex
  exact longest_any a t p bs _ w q h1 h2 h.fit hq
end
end Go.Proofs.YtgfoahednmipkaaDoor
