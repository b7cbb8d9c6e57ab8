/- What was written is read by point.Read. -/
import Derived.Test.YtliofipccicnfaaPtQ
namespace Go.Proofs.Ytliofipccicnfaa
open Go.RowKit
set_option linter.unusedVariables false
set_option linter.unusedSimpArgs false
theorem Rds.lt {L : List UInt8} {b p e : Nat} {ls : List (List UInt8)} (h : Rds L b p ls e) : p < L.length := by
  cases h with
  | nil h => exact (List.getElem?_eq_some_iff.1 h).1
  | lab h _ _ _ _ => exact (List.getElem?_eq_some_iff.1 h).1
  | ptr h _ _ _ _ => exact (List.getElem?_eq_some_iff.1 h).1
theorem bt_of {s : ByteArray} {i : Nat} {c : UInt8} (h : s.data.toList[i]? = some c) : i < s.size ∧ bt s i = c.toNat := by
  obtain ⟨h1, h2⟩ := List.getElem?_eq_some_iff.1 h
  have h3 : i < s.size := by rw [Array.length_toList] at h1; exact h1
  refine ⟨h3, ?_⟩
  rw [← bt_get h3, ← h2]
  rfl
def mkBA (x : List UInt8) : ByteArray := ⟨x.toArray⟩
theorem Rds.read {s : ByteArray} {L : List UInt8} {b p e : Nat} {ls : List (List UInt8)} (h : Rds L b p ls e) (hL : L = s.data.toList) : ∀ acc size behind, size + (wire ls).length ≤ 254 → ∃ K, rdP s K acc size behind p b = some (some (acc ++ ls.map mkBA, if behind = 0 then e else behind)) := by
  subst hL
  induction h with
  | nil h =>
    intro acc size behind hz
    obtain ⟨h1, h2⟩ := bt_of h
    have h2 : bt s _ = 0 := h2
    refine ⟨1, ?_⟩
    unfold rdP
    rw [if_pos h1, h2, if_neg (by decide), if_neg (by decide), if_neg (by decide)]
    simp
  | lab h hx1 hx2 h3 hr ih =>
    rename_i b p e x ls
    intro acc size behind hz
    obtain ⟨h1, h2⟩ := bt_of h
    have h2 : bt s p = x.length := by rw [h2, UInt8.toNat_ofNat_of_lt' (by have : UInt8.size = 256 := rfl; omega)]
    have hlt : p + (1 + x.length) < s.size := by have := hr.lt; rw [Array.length_toList] at this; exact this
    rw [wire_cons] at hz
    simp only [List.length_append, List.length_cons] at hz
    have hlab : labAt s p = mkBA x := by
      unfold labAt mkBA
      rw [h2]
      apply ByteArray.ext; apply Array.ext'
      rw [List.extract_eq_take_drop] at h3
      simp only [ByteArray.data_extract, Array.toList_extract, List.extract_eq_take_drop]
      exact h3
    obtain ⟨K, hK⟩ := ih (acc ++ [mkBA x]) (size + (1 + x.length)) behind (by omega)
    refine ⟨K + 1, ?_⟩
    unfold rdP
    rw [if_pos h1, h2, if_neg (by omega), if_neg (by omega), if_pos (by omega), if_neg (by omega), hlab, hK]
    simp
  | ptr h h2 hq hb hr ih =>
    rename_i b p q e ls
    intro acc size behind hz
    obtain ⟨h1, e1⟩ := bt_of h
    obtain ⟨h3, e2⟩ := bt_of h2
    have e1 : bt s p = 192 + q / 256 := by rw [e1, UInt8.toNat_ofNat_of_lt' (by have : UInt8.size = 256 := rfl; omega)]
    have e2 : bt s (p + 1) = q % 256 := by rw [e2, UInt8.toNat_ofNat_of_lt' (by have : UInt8.size = 256 := rfl; omega)]
    have hp : Go.Proofs.Ytliofipccicnfaa.ptr s p = q := by unfold Go.Proofs.Ytliofipccicnfaa.ptr; rw [e1, e2]; omega
    obtain ⟨K, hK⟩ := ih acc size (if behind = 0 then p + 2 else behind) hz
    refine ⟨K + 1, ?_⟩
    unfold rdP
    rw [if_pos h1, e1, if_pos (by omega), if_pos h3, hp, if_pos hb, hK]
    by_cases h0 : behind = 0
    · simp [h0]
    · simp [h0]
theorem bytesOf_mk (ls : List (List UInt8)) : bytesOf (ls.map mkBA) = ls := by
  unfold bytesOf mkBA
  rw [List.map_map]
  have : ((fun x : ByteArray => x.data.toList) ∘ fun x : List UInt8 => (⟨x.toArray⟩ : ByteArray)) = id := by funext x; simp
  rw [this, List.map_id]
theorem okLabel_fold4 {x : List UInt8} (h : okLabel x = true) : x.map fold8 = x := by
  unfold okLabel at h
  simp only [Bool.and_eq_true, List.all_eq_true] at h
  have : x.map fold8 = x.map id := List.map_congr_left fun c hc => by
    have h1 := h.2 c hc
    unfold fold8
    cases hu : isUp c with
    | true => rw [hu] at h1; cases h1
    | false => simp
  rw [this, List.map_id]
theorem make_ok (ls : List (List UInt8)) (hok : ∀ x ∈ ls, okLabel x = true) (hl : (wire ls).length ≤ 254) : makeOf (ls.map mkBA) = some (wire ls) := by
  unfold makeOf makeL
  rw [bytesOf_mk]
  have hlow : lowL ls = ls := by
    unfold lowL
    have : ls.map (·.map fold8) = ls.map id := List.map_congr_left fun x hx => okLabel_fold4 (hok x hx)
    rw [this, List.map_id]
  rw [hlow, if_pos ⟨List.all_eq_true.2 fun x hx => by have := okL_len (hok x hx); unfold okLen; simpa using this, hl⟩]
/-- A name that stands in bytes is read. -/
theorem read_rds (s : ByteArray) (b : Nat) (ls : List (List UInt8)) (e : Nat) (w : World) (h : Rds s.data.toList b b ls e) (hok : ∀ x ∈ ls, okLabel x = true) (hl : (wire ls).length ≤ 254) (hs : s.size ≤ 140737488351232) (hb : b ≤ 9223372036854775807) :
    Calls Try.prog 7 #[.string s, .int .i64 b] w fun x w' => x = .returned (.tuple #[.string (keyOf ls), .int .i64 e, .bool true]) ∧ Below w.heap.size w w' := by
  obtain ⟨K, hK⟩ := h.read rfl [] 0 0 (by omega)
  rw [if_pos rfl, List.nil_append] at hK
  have := read_any s b _ K w hs hb hK
  have hm := make_ok ls hok hl
  have hv : ptV (some (ls.map mkBA, e)) = .tuple #[.string (keyOf ls), .int .i64 e, .bool true] := by
    unfold ptV
    simp only [hm, Option.isSome_some, if_true]
    unfold nameOf
    rw [hm]
    rfl
  rw [hv] at this
  exact this
end Go.Proofs.Ytliofipccicnfaa
