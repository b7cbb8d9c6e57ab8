/- The walk of NameBelow. -/
import Derived.Test.YthhlgogokcblgaaLawNamePa
import Derived.Test.YthhlgogokcblgaaLawNameS
namespace Go.Proofs.Ythhlgogokcblgaa
open Go.RowKit
set_option linter.unusedVariables false

theorem Sl.dropN {w : World} {B b off n k : Nat} {xs : List Value} (h : Sl w B 1 (some ⟨b, off, none⟩) (k + n) xs) : Sl w B 1 (some ⟨b, off + k, none⟩) n (xs.drop k) := by
  refine ⟨by have := h.1; simp at this ⊢; omega, fun hn => ?_⟩
  obtain ⟨b', off', e, hb, hc⟩ := h.2 (by omega)
  injection e with e
  injection e with e1 e2
  subst e1 e2
  refine ⟨b, off + k, rfl, hb, fun j u hu => ?_⟩
  have := hc (k + j) u (by simpa using hu)
  rwa [show off + k + j = off + (k + j) by omega]
theorem Sl.takeN {w : World} {B n k : Nat} {A : Option Addr} {xs : List Value} (h : Sl w B 1 A (k + n) xs) : Sl w B 1 A k (xs.take k) := by
  refine ⟨by have := h.1; simp at this ⊢; omega, fun hn => ?_⟩
  obtain ⟨b', off', e, hb, hc⟩ := h.2 (by omega)
  refine ⟨b', off', e, hb, fun j u hu => ?_⟩
  rw [List.getElem?_take] at hu
  split at hu
  · exact hc j u hu
  · cases hu
theorem Buf.slice2 {B : Nat} {e : TypeId} {W w : World} {v : Value} {n : Nat} {xs : List Value} (h : Buf B e W v n xs w) : ∃ A c, v = .slice A n c ∧ n ≤ c ∧ c ≤ maxLen ∧ ((A = none ∧ n = 0 ∧ c = 0) ∨ ∃ g, A = some ⟨g, 0, none⟩) := by
  rcases h.1.2 with ⟨rfl, rfl⟩ | ⟨g, cap, cur, rfl, hb, hg, h1, h2, _⟩
  · exact ⟨none, 0, rfl, Nat.le_refl _, Nat.zero_le _, .inl ⟨rfl, rfl, rfl⟩⟩
  · exact ⟨_, cap, rfl, h1, h2, .inr ⟨g, rfl⟩⟩
theorem nb_append (a b : List (List UInt8)) : nb a ++ nb b = nb (a ++ b) := by
  unfold nb
  rw [wire_append]
  apply ByteArray.ext
  simp

set_option maxHeartbeats 1600000 in
theorem nameBelow_walk (w : World) (A : Option Addr) (n c : Nat) (zs : List Int) (SA : SlView w A n c (zs.map (Value.int .u8))) (hl : zs.length = n) (hw : ∀ z ∈ zs, (Lit.int .u8 z).wf = true) (hc : c ≤ 140737488351232)
    (D : Option Addr) (m d : Nat) (ys : List Int) (SD : SlView w D m d (ys.map (Value.int .u8))) (hld : ys.length = m) (hwd : ∀ z ∈ ys, (Lit.int .u8 z).wf = true) (hd : d ≤ 140737488351232) :
    Calls Try.prog 11 #[.slice A n c, .slice D m d] w fun e w' => e = .returned (.bool true) ∧ Below w.heap.size w w' := by
  have hz : ∀ z ∈ zs, 0 ≤ z ∧ z < 256 := fun z h => by have := bounds_u8 (hw z h); omega
  have hy : ∀ z ∈ ys, 0 ≤ z ∧ z < 256 := fun z h => by have := bounds_u8 (hwd z h); omega
  have hA := SA.sl
  have hD := SD.sl
  have hn : n ≤ maxLen := by have := SA.le; unfold maxLen; omega
  have hm : m ≤ maxLen := by have := SD.le; unfold maxLen; omega
  have n1 := fun w h => name_any A n c zs w h hz hn
  have w1 := fun w h => words_any A n c zs w h hz hn
  have n2 := fun w h => name_any D m d ys w h hy hm
  have w2 := fun w h => words_any D m d ys w h hy hm
  have hX := few_words zs hz
  have hY := few_words ys hy
  rw [show nameZ zs = wire (wordsZ zs) from rfl, sv_nb] at n1
  rw [show nameZ ys = wire (wordsZ ys) from rfl, sv_nb] at n2
  generalize wordsZ zs = X at *
  generalize wordsZ ys = Y at *
  have hst := hX.strip hY
  have st := fun w => strip_any (nb X) (nb Y) w hX.sizeM hY.sizeM
  have be := fun w => below_any (nb X) (nb Y) w hX.sizeM hY.sizeM
  have N1 := Lib.hid n1
  have W1 := Lib.hid w1
  have N2 := Lib.hid n2
  have W2 := Lib.hid w2
  have hX2 := hX.2
  have hY2 := hY.2
  clear n1 w1 n2 w2 hw hwd hz hy
  go_enter Try.func11, Try.ntmps11
  go_wp2_with fail
  refine (awake2_any _).mono ?_
  rintro e w1 ⟨rfl, hb1⟩
  have hA1 := (hA.below hb1).more hb1.size
  have hD1 := (hD.below hb1).more hb1.size
  have hz1 := hb1.size
  go_wp2_with fail
  refine (N1.out _ hA1).mono ?_
  rintro e w2 ⟨rfl, hb2⟩
  have hA2 := (hA1.below hb2).more hb2.size
  have hD2 := (hD1.below hb2).more hb2.size
  have hB2 := below_trans hb1 hz1 hb2
  have hz2 := hB2.size
  clear hA1 hD1 hb1 hz1 hb2
  go_wp2_with fail
  refine (N2.out _ hD2).mono ?_
  rintro e w3 ⟨rfl, hb3⟩
  have hA3 := (hA2.below hb3).more hb3.size
  have hD3 := (hD2.below hb3).more hb3.size
  have hB3 := below_trans hB2 hz2 hb3
  have hz3 := hB3.size
  clear hA2 hD2 hB2 hz2 hb3
  go_wp2_with fail
  refine (W1.out _ hA3).mono ?_
  rintro e w4 ⟨v, rfl, hb4⟩
  obtain ⟨E, p, rfl, he1, he2, he3⟩ := hb4.slice2
  have hE4 := hb4.sl
  have hD4 := (hD3.below hb4.below).more hb4.below.size
  have hB4 := below_trans hB3 hz3 hb4.below
  have hz4 := hB4.size
  clear hA3 hD3 hB3 hz3 hb4
  go_wp2_with fail
  refine (W2.out _ hD4).mono ?_
  rintro e w5 ⟨v, rfl, hb5⟩
  obtain ⟨G, q, rfl, hg1, hg2, hg3⟩ := hb5.slice
  have hG := hb5.sl
  have hE := (hE4.below hb5.below).more hb5.below.size
  have hB := below_trans hB4 hz4 hb5.below
  have hz5 := hB.size
  clear hD4 hE4 hB4 hz4 hb5
  generalize hLX : X.length = L at *
  generalize hLY : Y.length = M at *
  by_cases hle : M ≤ L
  · obtain ⟨k, rfl⟩ : ∃ k, L = k + M := ⟨L - M, by omega⟩
    have hdl : (X.drop k).length = M := by simp; omega
    have hcase : (E = none ∧ k = 0 ∧ M = 0 ∧ p = 0 ∧ Sl w5 w5.heap.size 1 none M ((X.drop k).map sv)) ∨
        (∃ g, E = some ⟨g, 0, none⟩ ∧ p = k ∧ M = 0 ∧ Sl w5 w5.heap.size 1 (some ⟨g, 0, none⟩) M ((X.drop k).map sv)) ∨
        (∃ g, E = some ⟨g, 0, none⟩ ∧ ¬ p = k ∧ k < p ∧ Sl w5 w5.heap.size 1 (some ⟨g, k, none⟩) M ((X.drop k).map sv)) := by
      have hnil : M = 0 → (X.drop k).map sv = [] := fun h => List.eq_nil_of_length_eq_zero (by rw [List.length_map, hdl, h])
      rcases he3 with ⟨rfl, h1, h2⟩ | ⟨g, rfl⟩
      · have hM : M = 0 := by omega
        refine .inl ⟨rfl, by omega, hM, h2, ?_⟩
        rw [hnil hM, hM]
        exact Sl.nil _ _ _ _
      · by_cases hp : p = k
        · have hM : M = 0 := by omega
          refine .inr (.inl ⟨g, rfl, hp, hM, ?_⟩)
          rw [hnil hM, hM]
          exact Sl.nil _ _ _ _
        · refine .inr (.inr ⟨g, rfl, hp, by omega, ?_⟩)
          rw [List.map_drop]
          have := hE.dropN
          rwa [Nat.zero_add] at this
    have hTk : Sl w5 w5.heap.size 1 E k ((X.take k).map sv) := by
      rw [List.map_take]
      exact hE.takeN
    have q1 : (M : Int) ≤ (k : Int) + M := by omega
    have q2 : IntKind.i64.wrap (k : Int) = k := IntWalk.i64_in _ (by omega)
    by_cases hd' : X.drop k = Y
    · have hS : stripL X Y = some (X.take k) := stripL_found (by omega) hd'
      rw [hS] at hst
      rw [hst] at st be
      simp only [Option.map_some, Option.getD_some, Option.isSome_some, sv_nb] at st be
      have hFk := hX.take k
      have hkl : (X.take k).length = k := by simp; omega
      have jo := fun w => join_any (nb (X.take k)) (nb Y) w hFk.sizeM hY.sizeM
      have hj : joinOf (nb (X.take k)) (nb Y) = some (nb X) := by
        unfold joinOf
        have s1 := hFk.size
        have s2 := hY.size
        rw [if_pos ⟨by rw [hFk.labels]; rfl, by rw [hY.labels]; rfl, by omega⟩, nb_append]
        subst hd'
        rw [List.take_append_drop]
      rw [hj, show strOf (some (nb X)) = nb X from rfl] at jo
      have la := fun w => labels_any (nb (X.take k)) w hFk.sizeM
      have hL : labelsL (nb (X.take k)) = X.take k := by unfold labelsL; rw [hFk.labels]; rfl
      rw [hFk.labels, hL, hkl] at la
      have ST := Lib.hid st
      have BE := Lib.hid be
      have JO := Lib.hid jo
      have LA := Lib.hid la
      have HD := Lib.hid (decide_eq_true hd')
      clear st be hst hS hd' hE jo la hL hj hkl
      rcases hcase with ⟨rfl, rfl, rfl, rfl, hT⟩ | ⟨g, rfl, hp, rfl, hT⟩ | ⟨g, rfl, hp, hp', hT⟩
      all_goals
        go_wp2_with fail
        refine (same_any _ _ _ _ _ _ _ _ _ _ hT hG (by unfold maxLen; omega)).mono ?_
        rintro e w6 ⟨rfl, j, rfl⟩
        rw [HD.out]
        have hB6 := below_drewN hB j
        have hz6 := hB6.size
        have hT6 := hTk.drewN j
        clear hB
        go_wp2_with fail
        refine (ST.out _).mono ?_
        rintro e w7 ⟨rfl, hb7⟩
        have hB7 := below_trans hB6 hz6 hb7
        have hz7 := hB7.size
        have hT7 := (hT6.below hb7).more hb7.size
        clear hB6 hz6 hT6 hb7
        go_wp2_with fail
        refine (BE.out _).mono ?_
        rintro e w8 ⟨rfl, hb8⟩
        have hB8 := below_trans hB7 hz7 hb8
        have hz8 := hB8.size
        have hT8 := (hT7.below hb8).more hb8.size
        clear hB7 hz7 hT7 hb8
        go_wp2_with fail
        refine (JO.out _).mono ?_
        rintro e w9 ⟨rfl, hb9⟩
        have hB9 := below_trans hB8 hz8 hb9
        have hz9 := hB9.size
        have hT9 := (hT8.below hb9).more hb9.size
        clear hB8 hz8 hT8 hb9
        go_wp2_with fail
        refine (LA.out _).mono ?_
        rintro e w10 ⟨v, rfl, hb10⟩
        obtain ⟨F, f, rfl, hf1, hf2, hf3⟩ := hb10.slice2
        have hB10 := below_trans hB9 hz9 hb10.below
        have hz10 := hB10.size
        have hT10 := (hT9.below hb10.below).more hb10.below.size
        have hF10 := hb10.sl
        clear hB9 hz9 hT9 hb10
        go_wp2_with fail
        refine (same_any _ _ _ _ _ _ _ _ _ _ hF10 hT10 (by unfold maxLen; omega)).mono ?_
        rintro e w11 ⟨rfl, i, rfl⟩
        rw [decide_eq_true (by first | rfl | simp)]
        have hB11 := below_drewN hB10 i
        go_wp2_with fail
        go_ret
        exact ⟨rfl, hB11⟩
    · have hS : stripL X Y = none := by
        unfold stripL
        rw [if_neg]
        rintro ⟨h1, h2⟩
        rw [hLX, hLY, Nat.add_sub_cancel] at h2
        exact hd' h2
      rw [hS] at hst
      rw [hst] at st be
      simp only [Option.map_none, Option.getD_none, Option.isSome_none, sv] at st be
      have ST := Lib.hid st
      have BE := Lib.hid be
      have HD := Lib.hid (decide_eq_false hd')
      clear st be hst hS hd' hTk hE
      rcases hcase with ⟨rfl, rfl, rfl, rfl, hT⟩ | ⟨g, rfl, hp, rfl, hT⟩ | ⟨g, rfl, hp, hp', hT⟩
      all_goals
        go_wp2_with fail
        refine (same_any _ _ _ _ _ _ _ _ _ _ hT hG (by unfold maxLen; omega)).mono ?_
        rintro e w6 ⟨rfl, j, rfl⟩
        rw [HD.out]
        have hB6 := below_drewN hB j
        have hz6 := hB6.size
        go_wp2_with fail
        refine (ST.out _).mono ?_
        rintro e w7 ⟨rfl, hb7⟩
        have hB7 := below_trans hB6 hz6 hb7
        have hz7 := hB7.size
        go_wp2_with fail
        refine (BE.out _).mono ?_
        rintro e w8 ⟨rfl, hb8⟩
        have hB8 := below_trans hB7 hz7 hb8
        go_wp2_with fail
        go_ret
        exact ⟨rfl, hB8⟩
  · have hS : stripL X Y = none := by unfold stripL; rw [if_neg (by rintro ⟨h, _⟩; omega)]
    rw [hS] at hst
    rw [hst] at st be
    simp only [Option.map_none, Option.getD_none, Option.isSome_none, sv] at st be
    have ST := Lib.hid st
    have BE := Lib.hid be
    have q1 : ¬ (M : Int) ≤ L := by omega
    clear st be hst hS
    go_wp2_with fail
    refine (ST.out _).mono ?_
    rintro e w6 ⟨rfl, hb6⟩
    have hB6 := below_trans hB hz5 hb6
    have hz6 := hB6.size
    go_wp2_with fail
    refine (BE.out _).mono ?_
    rintro e w7 ⟨rfl, hb7⟩
    have hB7 := below_trans hB6 hz6 hb7
    go_wp2_with fail
    go_ret
    exact ⟨rfl, hB7⟩
end Go.Proofs.Ythhlgogokcblgaa
