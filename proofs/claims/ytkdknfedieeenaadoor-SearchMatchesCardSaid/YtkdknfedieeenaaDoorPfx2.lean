/- Bits that are set one by one, and how far addresses are alike. It speaks of no program. -/
import Derived.Test.YtkdknfedieeenaaDoorPfx
namespace Go.Proofs.YtkdknfedieeenaaDoor
set_option linter.unusedVariables false

theorem byte8_set (b0 b1 b2 b3 b4 b5 b6 b7 : Bool) (j : Nat) (h : j < 8) :
    unbits ([b0, b1, b2, b3, b4, b5, b6, b7].set j true) = [UInt8.ofNat ((byte8 b0 b1 b2 b3 b4 b5 b6 b7).toNat ||| 128 / 2 ^ j)] := by
  have hj : ∀ b0 b1 b2 b3 b4 b5 b6 b7 : Bool, ∀ j : Fin 8, unbits ([b0, b1, b2, b3, b4, b5, b6, b7].set j.val true) = [UInt8.ofNat ((byte8 b0 b1 b2 b3 b4 b5 b6 b7).toNat ||| 128 / 2 ^ j.val)] := by decide +kernel
  exact hj b0 b1 b2 b3 b4 b5 b6 b7 ⟨j, h⟩
theorem unbits_cons (x r : List Bool) (h : x.length = 8) : unbits (x ++ r) = unbits x ++ unbits r := by
  match x, h with
  | [b0, b1, b2, b3, b4, b5, b6, b7], _ => rfl
theorem unbits_set : ∀ (n : Nat) (L : List Bool) (i : Nat) (hL : L.length = 8 * n) (hi : i < 8 * n),
    unbits (L.set i true) = (unbits L).set (i / 8) (UInt8.ofNat (((unbits L)[i / 8]'(by rw [(bitsL_unbits n L hL).2]; omega)).toNat ||| 128 / 2 ^ (i % 8)))
  | n + 1, L, i, hL, hi => by
    obtain ⟨b0, b1, b2, b3, b4, b5, b6, b7, r, rfl, hr⟩ := split8 L n hL
    by_cases h8 : i < 8
    · have e0 : i / 8 = 0 := by omega
      have e1 : i % 8 = i := by omega
      have hs : (b0 :: b1 :: b2 :: b3 :: b4 :: b5 :: b6 :: b7 :: r).set i true = [b0, b1, b2, b3, b4, b5, b6, b7].set i true ++ r := by
        rw [show b0 :: b1 :: b2 :: b3 :: b4 :: b5 :: b6 :: b7 :: r = [b0, b1, b2, b3, b4, b5, b6, b7] ++ r by rfl, List.set_append_left _ _ (by simpa using h8)]
      rw [hs, unbits_cons _ r (by simp), byte8_set _ _ _ _ _ _ _ _ i h8]
      simp only [e0, e1, unbits, List.getElem_cons_zero, List.set_cons_zero, List.cons_append, List.nil_append]
    · have hd : i / 8 = (i - 8) / 8 + 1 := by omega
      have hm : i % 8 = (i - 8) % 8 := by omega
      have ih := unbits_set n r (i - 8) hr (by omega)
      have hs : (b0 :: b1 :: b2 :: b3 :: b4 :: b5 :: b6 :: b7 :: r).set i true = [b0, b1, b2, b3, b4, b5, b6, b7] ++ r.set (i - 8) true := by
        rw [show b0 :: b1 :: b2 :: b3 :: b4 :: b5 :: b6 :: b7 :: r = [b0, b1, b2, b3, b4, b5, b6, b7] ++ r by rfl, List.set_append_right _ _ (by simp; omega)]
        rfl
      rw [hs, unbits_cons _ _ rfl, ih]
      simp only [hd, hm, unbits, List.getElem_cons_succ, List.set_cons_succ, List.cons_append, List.nil_append]

/-- The bytes of the first k signs of a key, and 0. -/
def fillB (key : List UInt8) (n k : Nat) : List Bool := (key.map (· == 49)).take k ++ List.replicate (8 * n - k) false
theorem fillB_length (key : List UInt8) (n k : Nat) (hk : k ≤ key.length) (hn : key.length ≤ 8 * n) : (fillB key n k).length = 8 * n := by simp [fillB]; omega
theorem fillB_zero (key : List UInt8) (n : Nat) : unbits (fillB key n 0) = List.replicate n 0 := by
  have h : ∀ m, unbits (List.replicate (8 * m) false) = List.replicate m 0 := by
    intro m
    induction m with
    | zero => rfl
    | succ m ih =>
      rw [show 8 * (m + 1) = 8 + 8 * m by omega, ← List.replicate_append_replicate, unbits_cons _ _ (by simp), ih, List.replicate_succ]
      rfl
  simpa [fillB] using h n
theorem fillB_next (key : List UInt8) (n k : Nat) (hk : k < key.length) (hn : key.length ≤ 8 * n) : (fillB key n k).set k (key[k] == 49) = fillB key n (k + 1) := by
  have hl : ((key.map (· == 49)).take k).length = k := by simp; omega
  have hk2 : k < (key.map (· == 49)).length := by simpa using hk
  unfold fillB
  rw [List.set_append_right _ _ (by omega), hl, Nat.sub_self, List.take_succ_eq_append_getElem hk2, show 8 * n - k = (8 * n - (k + 1)) + 1 by omega, List.replicate_succ, List.set_cons_zero]
  simp
theorem fillB_at (key : List UInt8) (n k : Nat) (hk : k < key.length) (hn : key.length ≤ 8 * n) : (fillB key n k)[k]? = some false := by
  have hl : ((key.map (· == 49)).take k).length = k := by simp; omega
  unfold fillB
  rw [List.getElem?_append_right (by omega), hl, Nat.sub_self, List.getElem?_replicate_of_lt (by omega)]
theorem fillB_same (key : List UInt8) (n k : Nat) (hk : k < key.length) (hn : key.length ≤ 8 * n) (h : key[k] ≠ 49) : fillB key n k = fillB key n (k + 1) := by
  rw [← fillB_next key n k hk hn]
  have hb : (key[k] == 49) = false := by simpa using h
  rw [hb]
  apply List.ext_getElem?
  intro i
  rw [List.getElem?_set]
  split
  · rename_i e
    subst e
    rw [fillB_at key n k hk hn, if_pos (by rw [fillB_length key n k (by omega) hn]; omega)]
  · rfl
theorem fillB_or (key : List UInt8) (n k : Nat) (hk : k < key.length) (hn : key.length ≤ 8 * n) (h : key[k] = 49) (hlt : k / 8 < (unbits (fillB key n k)).length) :
    (unbits (fillB key n k)).set (k / 8) (UInt8.ofNat ((unbits (fillB key n k))[k / 8].toNat ||| 128 / 2 ^ (k % 8))) = unbits (fillB key n (k + 1)) := by
  rw [← fillB_next key n k hk hn, h]
  exact (unbits_set n (fillB key n k) k (fillB_length key n k (by omega) hn) (by omega)).symm
def okKey (c : UInt8) : Bool := c == 48 || c == 49
theorem okKey_signs (key : List UInt8) (h : key.all okKey = true) : signs (key.map (· == 49)) = key := by
  rw [signs, List.map_map]
  conv => rhs; rw [← List.map_id key]
  apply List.map_congr_left
  intro c hc
  have := List.all_eq_true.1 h c hc
  simp only [okKey, Bool.or_eq_true, beq_iff_eq] at this
  rcases this with rfl | rfl <;> rfl
theorem signs_ok (L : List Bool) : (signs L).all okKey = true := by
  rw [List.all_eq_true]
  intro c hc
  obtain ⟨b, _, rfl⟩ := List.mem_map.1 hc
  cases b <;> rfl
end Go.Proofs.YtkdknfedieeenaaDoor
