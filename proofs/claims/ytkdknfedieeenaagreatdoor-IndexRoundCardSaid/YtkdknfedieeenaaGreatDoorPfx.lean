/- Addresses as bytes and as bits. It speaks of no program. -/
import Derived.Test.YtkdknfedieeenaaGreatDoorBase
namespace Go.Proofs.YtkdknfedieeenaaGreatDoor
set_option linter.unusedVariables false

/-- A byte's bits, the high one first. -/
def bits8 (c : UInt8) : List Bool := [c.toNat / 128 % 2 == 1, c.toNat / 64 % 2 == 1, c.toNat / 32 % 2 == 1, c.toNat / 16 % 2 == 1, c.toNat / 8 % 2 == 1, c.toNat / 4 % 2 == 1, c.toNat / 2 % 2 == 1, c.toNat % 2 == 1]
def nb (b : Bool) : Nat := if b then 1 else 0
def byte8 (b0 b1 b2 b3 b4 b5 b6 b7 : Bool) : UInt8 := UInt8.ofNat (nb b0 * 128 + nb b1 * 64 + nb b2 * 32 + nb b3 * 16 + nb b4 * 8 + nb b5 * 4 + nb b6 * 2 + nb b7)
def bitsL : List UInt8 → List Bool
  | [] => []
  | c :: r => bits8 c ++ bitsL r
def unbits : List Bool → List UInt8
  | b0 :: b1 :: b2 :: b3 :: b4 :: b5 :: b6 :: b7 :: r => byte8 b0 b1 b2 b3 b4 b5 b6 b7 :: unbits r
  | _ => []
/-- So many first bits of a byte, and 0. -/
def cut8 (c : UInt8) (m : Nat) : UInt8 := UInt8.ofNat (c.toNat / 2 ^ (8 - m) * 2 ^ (8 - m))
def cutL : List UInt8 → Nat → List UInt8
  | [], _ => []
  | c :: r, n => cut8 c (min n 8) :: cutL r (n - 8)

theorem all_u8 {p : UInt8 → Prop} [DecidablePred p] (h : ∀ i : Fin 256, p (UInt8.ofNat i.val)) (c : UInt8) : p c := by
  have := h ⟨c.toNat, UInt8.toNat_lt c⟩
  simpa using this
theorem bits8_length (c : UInt8) : (bits8 c).length = 8 := rfl
theorem unbits_bits8 (c : UInt8) : ∃ b0 b1 b2 b3 b4 b5 b6 b7, bits8 c = [b0, b1, b2, b3, b4, b5, b6, b7] ∧ byte8 b0 b1 b2 b3 b4 b5 b6 b7 = c := by
  refine ⟨_, _, _, _, _, _, _, _, rfl, ?_⟩
  revert c
  apply all_u8
  decide +kernel
theorem bits8_byte8 (b0 b1 b2 b3 b4 b5 b6 b7 : Bool) : bits8 (byte8 b0 b1 b2 b3 b4 b5 b6 b7) = [b0, b1, b2, b3, b4, b5, b6, b7] := by
  revert b0 b1 b2 b3 b4 b5 b6 b7
  decide +kernel
theorem bits8_cut8 (c : UInt8) (m : Nat) (h : m ≤ 8) : bits8 (cut8 c m) = (bits8 c).take m ++ List.replicate (8 - m) false := by
  have hc : ∀ i : Fin 256, ∀ j : Fin 9, bits8 (cut8 (UInt8.ofNat i.val) j.val) = (bits8 (UInt8.ofNat i.val)).take j.val ++ List.replicate (8 - j.val) false := by decide +kernel
  have := hc ⟨c.toNat, UInt8.toNat_lt c⟩ ⟨m, by omega⟩
  simpa using this
theorem bitsL_length : ∀ l : List UInt8, (bitsL l).length = 8 * l.length
  | [] => rfl
  | c :: r => by simp only [bitsL, List.length_append, bits8_length, bitsL_length r, List.length_cons]; omega
theorem bitsL_append : ∀ a b : List UInt8, bitsL (a ++ b) = bitsL a ++ bitsL b
  | [], _ => rfl
  | c :: r, b => by simp [bitsL, bitsL_append r b]
theorem unbits_bitsL : ∀ l : List UInt8, unbits (bitsL l) = l
  | [] => rfl
  | c :: r => by
    obtain ⟨b0, b1, b2, b3, b4, b5, b6, b7, h1, h2⟩ := unbits_bits8 c
    rw [bitsL, h1]
    simp only [List.cons_append, List.nil_append, unbits, h2, unbits_bitsL r]
theorem bitsL_inj {a b : List UInt8} (h : bitsL a = bitsL b) : a = b := by rw [← unbits_bitsL a, h, unbits_bitsL]
theorem split8 (L : List Bool) (n : Nat) (h : L.length = 8 * (n + 1)) : ∃ b0 b1 b2 b3 b4 b5 b6 b7 r, L = b0 :: b1 :: b2 :: b3 :: b4 :: b5 :: b6 :: b7 :: r ∧ r.length = 8 * n := by
  match L, h with
  | b0 :: b1 :: b2 :: b3 :: b4 :: b5 :: b6 :: b7 :: r, h => exact ⟨b0, b1, b2, b3, b4, b5, b6, b7, r, rfl, by simp at h; omega⟩
theorem bitsL_unbits : ∀ (n : Nat) (L : List Bool), L.length = 8 * n → bitsL (unbits L) = L ∧ (unbits L).length = n
  | 0, L, h => by
    obtain rfl : L = [] := List.eq_nil_of_length_eq_zero (by omega)
    exact ⟨rfl, rfl⟩
  | n + 1, L, h => by
    obtain ⟨b0, b1, b2, b3, b4, b5, b6, b7, r, rfl, hr⟩ := split8 L n h
    obtain ⟨h1, h2⟩ := bitsL_unbits n r hr
    simp only [unbits, bitsL, bits8_byte8, h1, List.length_cons, h2]
    exact ⟨rfl, trivial⟩
theorem cutL_length : ∀ (l : List UInt8) (n : Nat), (cutL l n).length = l.length
  | [], _ => rfl
  | c :: r, n => by simp [cutL, cutL_length r]
theorem cutL_get : ∀ (l : List UInt8) (n i : Nat) (h : i < l.length), (cutL l n)[i]'(by rw [cutL_length]; exact h) = cut8 l[i] (min (n - 8 * i) 8)
  | c :: r, n, 0, _ => by simp [cutL]
  | c :: r, n, i + 1, h => by
    have := cutL_get r (n - 8) i (by simpa using h)
    simp only [cutL, List.getElem_cons_succ]
    rw [this, show n - 8 - 8 * i = n - 8 * (i + 1) by omega]
theorem bitsL_cutL : ∀ (l : List UInt8) (n : Nat), n ≤ 8 * l.length → bitsL (cutL l n) = (bitsL l).take n ++ List.replicate (8 * l.length - n) false
  | [], n, h => by
    obtain rfl : n = 0 := by simpa using h
    rfl
  | c :: r, n, h => by
    simp only [cutL, bitsL, List.length_cons]
    rw [bits8_cut8 c _ (by omega)]
    by_cases h8 : n ≤ 8
    · rw [Nat.min_eq_left h8, show n - 8 = 0 by omega, bitsL_cutL r 0 (by omega), List.take_zero, List.nil_append, List.take_append_of_le_length (by rw [bits8_length]; exact h8), List.append_assoc, List.replicate_append_replicate]
      congr 2; omega
    · rw [Nat.min_eq_right (by omega), bitsL_cutL r (n - 8) (by simp at h; omega), Nat.sub_self, List.replicate_zero, List.append_nil, List.take_of_length_le (by rw [bits8_length]; omega), List.take_append, bits8_length,
        List.take_of_length_le (show (bits8 c).length ≤ n by rw [bits8_length]; omega), List.append_assoc]
      congr 3; omega
/-- First bits alone tell what is cut. -/
theorem cutL_eq_iff {a b : List UInt8} (n : Nat) (hl : a.length = b.length) (hn : n ≤ 8 * a.length) : cutL a n = cutL b n ↔ (bitsL a).take n = (bitsL b).take n := by
  constructor
  · intro h
    have h1 := bitsL_cutL a n hn
    rw [h, bitsL_cutL b n (by omega), ← hl] at h1
    exact (List.append_cancel_right h1).symm
  · intro h
    apply bitsL_inj
    rw [bitsL_cutL a n hn, bitsL_cutL b n (by omega), h, hl]
theorem cutL_bits_take (a : List UInt8) (n : Nat) (hn : n ≤ 8 * a.length) : (bitsL (cutL a n)).take n = (bitsL a).take n := by
  rw [bitsL_cutL a n hn, List.take_append_of_le_length (by simp [bitsL_length]; omega), List.take_take, Nat.min_self]
theorem cutL_cutL (a : List UInt8) (n : Nat) (hn : n ≤ 8 * a.length) : cutL (cutL a n) n = cutL a n := by
  rw [cutL_eq_iff n (cutL_length a n) (by rw [cutL_length]; exact hn), cutL_bits_take a n hn]
/-- What has nothing but 0 behind its first bits is its own first bits. -/
theorem cutL_zeros (a : List UInt8) (bs : List Bool) (h : bitsL a = bs ++ List.replicate (8 * a.length - bs.length) false) (hn : bs.length ≤ 8 * a.length) : cutL a bs.length = a := by
  apply bitsL_inj
  rw [bitsL_cutL a _ hn]
  rw (occs := .pos [2]) [h]
  congr 1
  rw [h, List.take_left' rfl]

/-- Of the first k bytes their first bits alone. -/
def mixL (l : List UInt8) (n k : Nat) : List UInt8 := (cutL l n).take k ++ l.drop k
theorem mixL_length (l : List UInt8) (n k : Nat) (h : k ≤ l.length) : (mixL l n k).length = l.length := by simp [mixL, cutL_length]; omega
theorem mixL_zero (l : List UInt8) (n : Nat) : mixL l n 0 = l := by simp [mixL]
theorem mixL_all (l : List UInt8) (n : Nat) : mixL l n l.length = cutL l n := by simp [mixL, List.take_of_length_le, cutL_length]
theorem mixL_get (l : List UInt8) (n k : Nat) (h : k < l.length) : (mixL l n k)[k]? = some l[k] := by
  unfold mixL
  rw [List.getElem?_append_right (by simp [cutL_length]; omega)]
  simp [cutL_length, show min k l.length = k by omega, h]
theorem mixL_set (l : List UInt8) (n k : Nat) (h : k < l.length) : (mixL l n k).set k (cut8 l[k] (min (n - 8 * k) 8)) = mixL l n (k + 1) := by
  unfold mixL
  have hk : k < (cutL l n).length := by rw [cutL_length]; exact h
  rw [List.set_append_right _ _ (by simp [cutL_length]; omega), List.take_succ_eq_append_getElem hk, List.drop_eq_getElem_cons h, List.append_assoc, cutL_get l n k h]
  simp [cutL_length, show min k l.length = k by omega]
  rw [List.drop_eq_getElem_cons h, List.set_cons_zero]
theorem and_mask (c m : Nat) (hc : c < 256) (hm : m ≤ 8) : c &&& (256 - 2 ^ (8 - m)) = c / 2 ^ (8 - m) * 2 ^ (8 - m) := by
  have h : ∀ i : Fin 256, ∀ j : Fin 9, i.val &&& (256 - 2 ^ (8 - j.val)) = i.val / 2 ^ (8 - j.val) * 2 ^ (8 - j.val) := by decide +kernel
  exact h ⟨c, hc⟩ ⟨m, by omega⟩

theorem bits8_get (c : UInt8) (j : Nat) (h : j < 8) : (bits8 c)[j]? = some (c.toNat / 2 ^ (7 - j) % 2 == 1) := by
  have hj : j = 0 ∨ j = 1 ∨ j = 2 ∨ j = 3 ∨ j = 4 ∨ j = 5 ∨ j = 6 ∨ j = 7 := by omega
  rcases hj with rfl | rfl | rfl | rfl | rfl | rfl | rfl | rfl <;> simp [bits8]
theorem bitsL_get : ∀ (l : List UInt8) (i : Nat) (h : i / 8 < l.length), (bitsL l)[i]? = some ((l[i / 8]).toNat / 2 ^ (7 - i % 8) % 2 == 1)
  | c :: r, i, h => by
    by_cases h8 : i < 8
    · rw [bitsL, List.getElem?_append_left (by rw [bits8_length]; exact h8), bits8_get c i h8]
      have e0 : i / 8 = 0 := by omega
      have e1 : i % 8 = i := by omega
      simp [e0, e1]
    · have hd : i / 8 = (i - 8) / 8 + 1 := by omega
      rw [bitsL, List.getElem?_append_right (by rw [bits8_length]; omega), bits8_length, bitsL_get r (i - 8) (by simp at h; omega)]
      simp only [hd, List.getElem_cons_succ]
      rw [show (i - 8) % 8 = i % 8 by omega]

/-- Bits as signs. -/
def sign1 (b : Bool) : UInt8 := if b then 49 else 48
def signs (L : List Bool) : List UInt8 := L.map sign1
theorem unsigns (L : List Bool) : (signs L).map (· == 49) = L := by
  rw [signs, List.map_map]
  conv => rhs; rw [← List.map_id L]
  apply List.map_congr_left
  intro b _
  cases b <;> rfl
theorem signs_inj {a b : List Bool} (h : signs a = signs b) : a = b := by rw [← unsigns a, h, unsigns]
theorem signs_take (L : List Bool) (k : Nat) : (signs L).take k = signs (L.take k) := by simp [signs, List.map_take]
theorem signs_length (L : List Bool) : (signs L).length = L.length := by simp [signs]

/-- The first k of n signs, and 0. -/
def keyL (L : List Bool) (n k : Nat) : List UInt8 := signs (L.take k) ++ List.replicate (n - k) 0
theorem keyL_length (L : List Bool) (n k : Nat) (hk : k ≤ n) (hn : n ≤ L.length) : (keyL L n k).length = n := by simp [keyL, signs_length]; omega
theorem keyL_zero (L : List Bool) (n : Nat) : keyL L n 0 = List.replicate n 0 := by simp [keyL, signs]
theorem keyL_all (L : List Bool) (n : Nat) : keyL L n n = signs (L.take n) := by simp [keyL]
theorem keyL_get (L : List Bool) (n k : Nat) (hk : k < n) (hn : n ≤ L.length) : (keyL L n k)[k]? = some 0 := by
  have hl : (signs (L.take k)).length = k := by rw [signs_length]; simp; omega
  unfold keyL
  rw [List.getElem?_append_right (by omega), hl, Nat.sub_self, List.getElem?_replicate_of_lt (by omega)]
theorem keyL_set (L : List Bool) (n k : Nat) (b : Bool) (hk : k < n) (hb : L[k]? = some b) : (keyL L n k).set k (sign1 b) = keyL L n (k + 1) := by
  obtain ⟨hkl, rfl⟩ := List.getElem?_eq_some_iff.1 hb
  have hl : (signs (L.take k)).length = k := by rw [signs_length]; simp; omega
  unfold keyL
  rw [List.set_append_right _ _ (by omega), hl, Nat.sub_self, List.take_succ_eq_append_getElem hkl, show n - k = (n - (k + 1)) + 1 by omega, List.replicate_succ, List.set_cons_zero]
  simp only [signs, List.map_append, List.map_cons, List.map_nil, List.append_assoc, List.cons_append, List.nil_append]

/-- How far two lists are alike. -/
def alike : List Bool → List Bool → Nat
  | a :: x, b :: y => if a = b then alike x y + 1 else 0
  | _, _ => 0
theorem alike_le : ∀ x y : List Bool, alike x y ≤ x.length
  | [], _ => by simp [alike]
  | a :: x, [] => by simp [alike]
  | a :: x, b :: y => by
    have := alike_le x y
    simp only [alike, List.length_cons]; split <;> omega
theorem alike_comm : ∀ x y : List Bool, alike x y = alike y x
  | [], [] => rfl
  | [], _ :: _ => rfl
  | _ :: _, [] => rfl
  | a :: x, b :: y => by
    simp only [alike, alike_comm x y]
    by_cases h : a = b
    · rw [if_pos h, if_pos h.symm]
    · rw [if_neg h, if_neg (fun e => h e.symm)]
theorem alike_take : ∀ x y : List Bool, x.take (alike x y) = y.take (alike x y)
  | [], y => by simp [alike]
  | a :: x, [] => by simp [alike]
  | a :: x, b :: y => by
    simp only [alike]
    split
    · rename_i h; subst h; simp [alike_take x y]
    · rfl
theorem alike_same : ∀ (p x y : List Bool), alike (p ++ x) (p ++ y) = p.length + alike x y
  | [], x, y => by simp
  | a :: p, x, y => by simp only [List.cons_append, alike, if_true, alike_same p x y, List.length_cons]; omega
theorem alike_bits8 (c d : UInt8) (r s : List Bool) (h : c ≠ d) : alike (bits8 c ++ r) (bits8 d ++ s) = alike (bits8 c) (bits8 d) := by
  have h8 : ∀ (x y r s : List Bool), x.length = y.length → x ≠ y → alike (x ++ r) (y ++ s) = alike x y := by
    intro x
    induction x with
    | nil => intro y r s hl hne; cases y <;> simp at hl; exact absurd rfl hne
    | cons a x ih =>
      intro y r s hl hne
      cases y with
      | nil => simp at hl
      | cons b y =>
        simp only [List.cons_append, alike]
        by_cases hab : a = b
        · subst hab
          rw [if_pos rfl, if_pos rfl, ih y r s (by simpa using hl) (fun e => hne (by rw [e]))]
        · rw [if_neg hab, if_neg hab]
  refine h8 _ _ r s rfl (fun e => h ?_)
  have := bitsL_inj (a := [c]) (b := [d]) (by simp [bitsL, e])
  simpa using this
end Go.Proofs.YtkdknfedieeenaaGreatDoor
