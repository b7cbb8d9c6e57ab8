/- slices.Equal, Contains, Clone and Reverse of strings, at slices as walks meet them. -/
import Derived.Test.YtkdknfedieeenaaGreatDoorOwnD
namespace Go.Proofs.YtkdknfedieeenaaGreatDoor
open Go.RowKit
set_option linter.unusedVariables false
set_option maxRecDepth 20000

def baL (l : List UInt8) : ByteArray := ⟨l.toArray⟩
theorem baL_inj {a b : List UInt8} (h : baL a = baL b) : a = b := by
  have := congrArg (fun x => x.data.toList) h
  simpa [baL] using this
theorem map_baL_inj {X Y : List (List UInt8)} (h : X.map baL = Y.map baL) : X = Y := (List.map_inj_right (fun _ _ => baL_inj)).1 h
theorem getD_baL {X : List (List UInt8)} {j : Nat} (h : j < X.length) : (X.map baL).getD j ByteArray.empty = baL X[j] := by
  simp [List.getD_eq_getElem?_getD, h]
theorem Sl.strs {w : World} {B n : Nat} {A : Option Addr} {X : List (List UInt8)} (h : Sl w B 1 A n (X.map sv)) (hn : 0 < n) : ∃ b off, A = some ⟨b, off, none⟩ ∧ b < B ∧ X.length = n ∧ ∀ j, j < (X.map baL).length → w.cell? ⟨b, off + j, none⟩ = some (.string ((X.map baL).getD j ByteArray.empty)) := by
  have hl : X.length = n := by simpa using h.1
  obtain ⟨b, off, e, hb, hc⟩ := h.2 hn
  refine ⟨b, off, e, hb, hl, fun j hj => ?_⟩
  have hj' : j < X.length := by simpa using hj
  rw [getD_baL hj']
  exact hc j _ (by rw [List.getElem?_map, List.getElem?_eq_getElem hj']; rfl)
theorem Sl.strs_len {w : World} {B n : Nat} {A : Option Addr} {X : List (List UInt8)} (h : Sl w B 1 A n (X.map sv)) : X.length = n := by simpa using h.1
theorem strings_sv (ts : List ByteArray) : ts.map Value.string = (bytesOf ts).map sv := by
  unfold bytesOf
  rw [List.map_map]
  apply List.map_congr_left
  intro t _
  exact (sv_bytes t).symm
theorem bytesOf_baL (X : List (List UInt8)) : bytesOf (X.map baL) = X := by
  unfold bytesOf
  rw [List.map_map]
  conv => rhs; rw [← List.map_id X]
  apply List.map_congr_left
  intro x _
  simp [baL]
theorem baL_strings (X : List (List UInt8)) : (X.map baL).map Value.string = X.map sv := by rw [strings_sv, bytesOf_baL]

theorem equalS_any (A1 A2 : Option Addr) (n c m d : Nat) (X Y : List (List UInt8)) (w : World) {B1 B2 : Nat} (h1 : Sl w B1 1 A1 n (X.map sv)) (h2 : Sl w B2 1 A2 m (Y.map sv)) (hn : n ≤ maxLen) (hm : m ≤ maxLen) :
    Calls Tryz.prog 118 #[.slice A1 n c, .slice A2 m d] w fun e w' => e = .returned (.bool (decide (X = Y))) ∧ ∃ q, w' = w.drewN q := by
  unfold maxLen at hn hm
  have hX := h1.strs_len
  have hY := h2.strs_len
  by_cases hnm : n = m
  · subst hnm
    rcases Nat.eq_zero_or_pos n with h0 | h0
    · subst h0
      obtain rfl := List.eq_nil_of_length_eq_zero hX
      obtain rfl := List.eq_nil_of_length_eq_zero hY
      refine (Tryz.slices_Equal_string_empty A1 A2 c 0 d w (by omega)).mono ?_
      rintro e w' ⟨rfl, rfl⟩
      exact ⟨rfl, 0, rfl⟩
    · obtain ⟨b1, o1, rfl, _, _, hc1⟩ := h1.strs h0
      obtain ⟨b2, o2, rfl, _, _, hc2⟩ := h2.strs h0
      refine (Tryz.slices_Equal_string b1 o1 n c b2 o2 n d (X.map baL) (Y.map baL) w (by simp [hX]) (by simp [hY]) (by omega) (by omega) hc1 hc2).mono ?_
      rintro e w' ⟨rfl, q, rfl⟩
      refine ⟨?_, q, rfl⟩
      rw [List.take_of_length_le (by simp [hX]), List.take_of_length_le (by simp [hY])]
      congr 2
      exact decide_eq_decide.2 ⟨map_baL_inj, fun h => by rw [h]⟩
  · refine (Tryz.slices_Equal_string_lens A1 A2 n c m d w hnm).mono ?_
    rintro e w' ⟨rfl, rfl⟩
    refine ⟨?_, 0, rfl⟩
    rw [decide_eq_false (fun h => hnm (by rw [← hX, ← hY, h]))]
theorem containsS_any (A : Option Addr) (n c : Nat) (X : List (List UInt8)) (x : List UInt8) (w : World) {B : Nat} (h : Sl w B 1 A n (X.map sv)) (hn : n ≤ maxLen) :
    Calls Tryz.prog 116 #[.slice A n c, sv x] w fun e w' => e = .returned (.bool (decide (x ∈ X))) ∧ w' = w := by
  unfold maxLen at hn
  have hX := h.strs_len
  rcases Nat.eq_zero_or_pos n with h0 | h0
  · subst h0
    obtain rfl := List.eq_nil_of_length_eq_zero hX
    refine (Tryz.slices_Contains_string_empty A c (baL x) w).mono ?_
    rintro e w' ⟨rfl, rfl⟩
    exact ⟨by simp, rfl⟩
  · obtain ⟨b, off, rfl, _, _, hc⟩ := h.strs h0
    refine (Tryz.slices_Contains_string b off n c (X.map baL) (baL x) w (by simp [hX]) (by omega) hc).mono ?_
    rintro e w' ⟨rfl, rfl⟩
    refine ⟨?_, rfl⟩
    rw [List.take_of_length_le (by simp [hX])]
    congr 2
    rw [Bool.eq_iff_iff, Lib.containsS_iff, decide_eq_true_eq]
    constructor
    · intro h
      obtain ⟨y, hy, e⟩ := List.mem_map.1 h
      rwa [← baL_inj e]
    · intro h
      exact List.mem_map.2 ⟨x, h, rfl⟩
theorem cloneS_any (A : Option Addr) (n c : Nat) (X : List (List UInt8)) (w : World) {B : Nat} (h : Sl w B 1 A n (X.map sv)) (h0 : 0 < n) (hn : n ≤ 8796093022208) :
    Calls Tryz.prog 113 #[.slice A n c] w fun e w' => ∃ v, e = .returned v ∧ OB w.heap.size w v n (X.map sv) w' := by
  have hX := h.strs_len
  obtain ⟨b, off, rfl, _, _, hc⟩ := h.strs h0
  refine (Tryz.slices_Clone_string b off n c (X.map baL) w (by simp [hX]) (by omega) hc).mono ?_
  rintro e w' ⟨v, rfl, ho, _, hb⟩
  refine ⟨v, rfl, ?_⟩
  rw [List.take_of_length_le (by simp [hX]), baL_strings] at ho
  exact OB.of_own ho hb hb.size
theorem reverseS_any (g n c : Nat) (X : List (List UInt8)) {B : Nat} {W : World} (w : World) (h : OB B W (.slice (some ⟨g, 0, none⟩) n c) n (X.map sv) w) (hnc : n ≤ c) (hn : n ≤ maxLen) :
    Calls Tryz.prog 114 #[.slice (some ⟨g, 0, none⟩) n c] w fun e w' => e = .returned (.tuple #[]) ∧ OB B W (.slice (some ⟨g, 0, none⟩) n c) n (X.reverse.map sv) w' ∧ w.heap.size ≤ w'.heap.size := by
  unfold maxLen at hn
  have hX : X.length = n := by simpa using h.len
  have hcells := fun i (hi : i < n) => h.cell i (.string ⟨(X.getD i []).toArray⟩) (by
    rw [List.getElem?_map, List.getD_eq_getElem?_getD, List.getElem?_eq_getElem (by rw [hX]; exact hi)]; rfl)
  refine (Tryz.slices_Reverse_string_cells g 0 n c (fun i => ⟨(X.getD i []).toArray⟩) w (by omega) (fun i hi => by rw [Nat.zero_add]; exact hcells i hi) (fun j hj => by rw [Nat.zero_add]; exact h.frozen j (by omega))).mono ?_
  rintro e w' ⟨rfl, q, rfl⟩
  rw [strsOf_ls X n hX]
  refine ⟨rfl, h.reversed q, ?_⟩
  rw [(setCells_heap _ g _ 0).1]
  exact Nat.le_refl _
end Go.Proofs.YtkdknfedieeenaaGreatDoor
