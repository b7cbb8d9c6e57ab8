/- The walk of NameParent. -/
import Derived.Test.YthhlgogokcblgaaNameAw
import Derived.Test.YthhlgogokcblgaaNameW
import Derived.Test.YthhlgogokcblgaaView
import Derived.Deep.QuietTactic
namespace Go.Proofs.Ythhlgogokcblgaa
open Go.RowKit
set_option linter.unusedVariables false

def sliceLen : Value → Nat | .slice _ n _ => n | _ => 0
def nb (ls : List (List UInt8)) : ByteArray := ⟨(wire ls).toArray⟩
def Few (ls : List (List UInt8)) : Prop := (∀ x ∈ ls, okLabel x = true ∧ x.map fold8 = x ∧ x.length ≤ 6) ∧ ls.length ≤ 12
theorem sv_nb (ls : List (List UInt8)) : sv (wire ls) = .string (nb ls) := rfl
section
variable {ls ms : List (List UInt8)}
theorem Few.drop (h : Few ls) (j : Nat) : Few (ls.drop j) := ⟨fun x hx => h.1 x (List.mem_of_mem_drop hx), by have := h.2; simp; omega⟩
theorem Few.take (h : Few ls) (j : Nat) : Few (ls.take j) := ⟨fun x hx => h.1 x (List.mem_of_mem_take hx), by have := h.2; simp; omega⟩
theorem Few.size (h : Few ls) : (nb ls).size ≤ 84 := by
  have h1 := few_wire ls (fun x hx => (h.1 x hx).2.2)
  have h2 := h.2
  unfold nb
  rw [mk_size]; omega
theorem Few.sizeM (h : Few ls) : (nb ls).size ≤ maxLen := by have := h.size; unfold maxLen; omega
theorem Few.labels (h : Few ls) : labelsOf (nb ls) = some ls := few_labels h.1 h.2
theorem Few.strip (h : Few ls) (k : Few ms) : stripOf (nb ls) (nb ms) = (stripL ls ms).map wire := by unfold stripOf; rw [h.labels, k.labels]
theorem Few.parent (l : List UInt8) (h : Few (l :: ls)) : parentOf (nb (l :: ls)) = some (wire ls) := by unfold parentOf; rw [h.labels]
theorem Few.make (h : Few ls) : makeL ls = some (wire ls) := few_make h.1 h.2
end
theorem few_words (zs : List Int) (hz : ∀ z ∈ zs, 0 ≤ z ∧ z < 256) : Few (wordsZ zs) := ⟨wordsZ_ok zs hz, wordsZ_len zs⟩

theorem Sl.tail {w : World} {B b off n : Nat} {x : Value} {xs : List Value} (h : Sl w B 1 (some ⟨b, off, none⟩) (n + 1) (x :: xs)) : Sl w B 1 (some ⟨b, off + 1, none⟩) n xs := by
  refine ⟨by have := h.1; simp at this ⊢; omega, fun hn => ?_⟩
  obtain ⟨b', off', e, hb, hc⟩ := h.2 (by omega)
  injection e with e
  injection e with e1 e2
  subst e1 e2
  refine ⟨b, off + 1, rfl, hb, fun j u hu => ?_⟩
  have := hc (j + 1) u (by simpa using hu)
  rwa [show off + 1 + j = off + (j + 1) by omega]
theorem few_up {ls : List (List UInt8)} {l : List UInt8} (h : Few (l :: ls)) : (stripOf (nb (l :: ls)) (nb ls)).isSome = true := by
  have h1 : Few ls := h.drop 1
  rw [h.strip h1, stripL_found (k := 1) (by simp) (by simp)]; rfl
theorem few_down {ls : List (List UInt8)} {l : List UInt8} (h : Few (l :: ls)) : (stripOf (nb ls) (nb (l :: ls))).isSome = false := by
  have h1 : Few ls := h.drop 1
  rw [h1.strip h]
  unfold stripL
  rw [if_neg (by rintro ⟨h1, _⟩; simp at h1; omega)]; rfl

/-- 'Make' of few labels of few letters. -/
theorem few_make_any {ls : List (List UInt8)} (h : Few ls) (A : Option Addr) (n c : Nat) (w : World) (hA : Sl w w.heap.size 1 A n (ls.map sv)) :
    Calls Try.prog 22 #[.slice A n c] w fun e w' => e = .returned (.tuple #[.string (nb ls), .bool true]) ∧ Below w.heap.size w w' := by
  have hb : bytesOf (ls.map fun l => ⟨l.toArray⟩) = ls := by unfold bytesOf; simp [Function.comp_def]
  have hm : makeOf (ls.map fun l => ⟨l.toArray⟩) = some (wire ls) := by unfold makeOf; rw [hb]; exact h.make
  have hn' : nameOf (ls.map fun l => ⟨l.toArray⟩) = wire ls := by unfold nameOf; rw [hm]; rfl
  have hv : ls.map sv = (ls.map fun l => (⟨l.toArray⟩ : ByteArray)).map Value.string := by simp [sv, Function.comp_def]
  have hl : ls.length = n := by simpa using hA.1
  have h2 := h.2
  have := make_any A n c (ls.map fun l => ⟨l.toArray⟩) w (by rw [← hv]; exact hA) (by
    intro t ht
    obtain ⟨l, hl', rfl⟩ := List.mem_map.1 ht
    rw [mk_size]
    have := (h.1 l hl').2.2
    unfold maxLen; omega) (by unfold maxLen; omega)
  rw [hn', hm] at this
  exact this

set_option maxHeartbeats 3200000 in
theorem nameParent_walk (w : World) (A : Option Addr) (n c : Nat) (zs : List Int) (SA : SlView w A n c (zs.map (Value.int .u8))) (hl : zs.length = n) (hw : ∀ z ∈ zs, (Lit.int .u8 z).wf = true) (hc : c ≤ 140737488351232) :
    Calls Try.prog 12 #[.slice A n c] w fun e w' => e = .returned (.bool true) ∧ Below w.heap.size w w' := by
  have hz : ∀ z ∈ zs, 0 ≤ z ∧ z < 256 := fun z h => by have := bounds_u8 (hw z h); omega
  have hA := SA.sl
  have hn : n ≤ maxLen := by have := SA.le; unfold maxLen; omega
  have h1 := fun w h => name_any A n c zs w h hz hn
  have h2 := fun w h => words_any A n c zs w h hz hn
  have hF := few_words zs hz
  rw [show nameZ zs = wire (wordsZ zs) from rfl, sv_nb] at h1
  generalize wordsZ zs = W at *
  have H1 := Lib.hid h1
  have H2 := Lib.hid h2
  clear h1 h2 hw hz
  go_enter Try.func12, Try.ntmps12
  go_wp2_with fail
  refine (awake2_any _).mono ?_
  rintro e w1 ⟨rfl, hb1⟩
  have hA1 := (hA.below hb1).more hb1.size
  have hz1 := hb1.size
  go_wp2_with fail
  refine (H1.out _ hA1).mono ?_
  rintro e w2 ⟨rfl, hb2⟩
  have hA2 := (hA1.below hb2).more hb2.size
  have hB2 := below_trans hb1 hz1 hb2
  have hz2 := hB2.size
  clear hA1 hb1 hz1 hb2
  go_wp2_with fail
  refine (H2.out _ hA2).mono ?_
  rintro e w3 ⟨v, rfl, hb3⟩
  obtain ⟨D, d, rfl, hd1, hd2, hd3⟩ := hb3.slice
  have hB3 := below_trans hB2 hz2 hb3.below
  have hS := hb3.sl
  have hz3 := hB3.size
  clear hA2 hB2 hz2 hb3
  go_wp2_with fail
  go_loopw [3, 4] (fun x v wr => ∃ (j : Nat) (E : Option Addr) (g : Nat), j ≤ W.length ∧ x = .string (nb (W.drop j)) ∧ v = .slice E (W.length - j) g ∧ W.length - j ≤ g ∧ g ≤ maxLen ∧ Sl w3 w3.heap.size 1 E (W.length - j) ((W.drop j).map sv) ∧ Below w3.heap.size w3 wr)
    (fun _ v _ => sliceLen v)
  case atStart => exact ⟨0, D, d, Nat.zero_le _, rfl, rfl, by omega, hd2, by simpa using hS, Below.refl _ _⟩
  case round =>
    obtain ⟨j, E, g, hj, rfl, rfl, hg1, hg2, hE, hbel⟩ := hrel
    by_cases hlt : j < W.length
    · obtain ⟨m, hm⟩ : ∃ m, W.length - j = m + 1 := ⟨W.length - j - 1, by omega⟩
      have hm' : W.length - (j + 1) = m := by omega
      obtain ⟨b, off, rfl, hbb, hcc⟩ := hE.2 (by omega)
      have hd : W.drop j = W[j] :: W.drop (j + 1) := List.drop_eq_getElem_cons hlt
      have hFj := hF.drop j
      rw [hd] at hFj hE
      rw [hm] at hE hg1
      rw [List.map_cons] at hE
      have hT := hE.tail
      have hP := fun w => parent_any (nb (W.drop j)) w (hF.drop j).sizeM
      have hU := fun w => below_any (nb (W.drop j)) (nb (W.drop (j + 1))) w (hF.drop j).sizeM (hF.drop (j + 1)).sizeM
      have hD := fun w => below_any (nb (W.drop (j + 1))) (nb (W.drop j)) w (hF.drop (j + 1)).sizeM (hF.drop j).sizeM
      have hM := fun A n c w h => few_make_any (hF.drop (j + 1)) A n c w h
      rw [hd, Few.parent _ hFj, ← hd] at hP
      rw [hd, few_up hFj, ← hd] at hU
      rw [hd, few_down hFj, ← hd] at hD
      simp only [Option.getD_some, Option.isSome_some, sv_nb] at hP
      rw [hm]
      have hX : ∃ X, nb (W.drop j) = X := ⟨_, rfl⟩
      have hY : ∃ Y, nb (W.drop (j + 1)) = Y := ⟨_, rfl⟩
      obtain ⟨X, hX⟩ := hX
      obtain ⟨Y, hY⟩ := hY
      rw [hX, hY] at hP hU hD
      rw [hY] at hM
      rw [hX]
      have PX := Lib.hid hP
      have UX := Lib.hid hU
      have DX := Lib.hid hD
      have MX := Lib.hid hM
      have EX := Lib.hid hX
      have EY := Lib.hid hY
      have HM := Lib.hid hm
      have HM' := Lib.hid hm'
      have HD := Lib.hid hd
      have HE := Lib.hid hE
      have HC := Lib.hid hcc
      clear hP hU hD hM hX hY hm hm' hd hFj hE hcc
      have q1 : (0 : Int) < (m : Int) + 1 := by omega
      have hz4 := hbel.size
      have hcase : (g = 1 ∧ Sl w3 w3.heap.size 1 (some ⟨b, off, none⟩) m ((W.drop (j + 1)).map sv)) ∨ (¬ g = 1 ∧ Sl w3 w3.heap.size 1 (some ⟨b, off + 1, none⟩) m ((W.drop (j + 1)).map sv)) := by
        by_cases hg : g = 1
        · refine .inl ⟨hg, ?_⟩
          obtain rfl : m = 0 := by omega
          have h0 : (W.drop (j + 1)).map sv = [] := List.eq_nil_of_length_eq_zero (by have := hT.1; simpa using this)
          rw [h0]
          exact Sl.nil _ _ _ _
        · exact .inr ⟨hg, hT⟩
      clear hT
      rcases hcase with ⟨hg, hT⟩ | ⟨hg, hT⟩
      · go_wp2_with fail
        refine (PX.out _).mono ?_
        rintro e w4 ⟨rfl, hb4⟩
        have hB4 := below_trans hbel hz4 hb4
        have hz4' := hB4.size
        have hT4 := (hT.below' hB4 (Nat.le_refl _)).more hz4'
        clear hbel hb4 hz4
        go_wp2_with fail
        refine (MX.out _ _ _ _ hT4).mono ?_
        rintro e w5 ⟨rfl, hb5⟩
        have hB5 := below_trans hB4 hz4' hb5
        have hz5 := hB5.size
        clear hB4 hb5 hz4' hT4
        go_wp2_with fail
        refine (UX.out _).mono ?_
        rintro e w6 ⟨rfl, hb6⟩
        have hB6 := below_trans hB5 hz5 hb6
        have hz6 := hB6.size
        clear hB5 hb6 hz5
        go_wp2_with fail
        refine (DX.out _).mono ?_
        rintro e w7 ⟨rfl, hb7⟩
        have hB7 := below_trans hB6 hz6 hb7
        clear hB6 hb7 hz6
        go_wp2_with fail
        go_quiet (fail)
        go_wp2_with fail
        go_roundw
        case rel => exact ⟨j + 1, _, _, by omega, by rw [EY.out], by rw [HM'.out], by rw [HM'.out]; omega, by omega, by rw [HM'.out]; exact hT, below_drewN hB7 _⟩
        case measure => simp [sliceLen]
      · go_wp2_with fail
        refine (PX.out _).mono ?_
        rintro e w4 ⟨rfl, hb4⟩
        have hB4 := below_trans hbel hz4 hb4
        have hz4' := hB4.size
        have hT4 := (hT.below' hB4 (Nat.le_refl _)).more hz4'
        clear hbel hb4 hz4
        go_wp2_with fail
        refine (MX.out _ _ _ _ hT4).mono ?_
        rintro e w5 ⟨rfl, hb5⟩
        have hB5 := below_trans hB4 hz4' hb5
        have hz5 := hB5.size
        clear hB4 hb5 hz4' hT4
        go_wp2_with fail
        refine (UX.out _).mono ?_
        rintro e w6 ⟨rfl, hb6⟩
        have hB6 := below_trans hB5 hz5 hb6
        have hz6 := hB6.size
        clear hB5 hb6 hz5
        go_wp2_with fail
        refine (DX.out _).mono ?_
        rintro e w7 ⟨rfl, hb7⟩
        have hB7 := below_trans hB6 hz6 hb7
        clear hB6 hb7 hz6
        go_wp2_with fail
        go_quiet (fail)
        go_wp2_with fail
        go_roundw
        case rel => exact ⟨j + 1, _, _, by omega, by rw [EY.out], by rw [HM'.out], by rw [HM'.out]; omega, by omega, by rw [HM'.out]; exact hT, below_drewN hB7 _⟩
        case measure => simp [sliceLen]
    · obtain rfl : j = W.length := by omega
      have h0 : W.length - W.length = 0 := by omega
      rw [h0]
      rw [show nb (W.drop W.length) = ⟨#[]⟩ by rw [List.drop_length]; rfl]
      have hP := fun w => parent_any ⟨#[]⟩ w (by decide)
      rw [show parentOf ⟨#[]⟩ = none by rfl] at hP
      simp only [Option.getD_none, Option.isSome_none, sv] at hP
      have PX := Lib.hid hP
      have hz4 := hbel.size
      clear hP h0 hE hg1
      go_wp2_with fail
      refine (PX.out _).mono ?_
      rintro e w4 ⟨rfl, hb4⟩
      have hB4 := below_trans hB3 hz3 (below_trans hbel hz4 hb4)
      clear hbel hb4
      go_wp2_with fail
      go_ret
      exact ⟨rfl, hB4⟩
end Go.Proofs.Ythhlgogokcblgaa
