/- How far two addresses are alike, byte by byte. It speaks of no program. -/
import Derived.Test.YtioichenjoeonaaPfx
import Derived.Shelf.Small.Bits
namespace Go.Proofs.Ytioichenjoeonaa
set_option linter.unusedVariables false
/-- How many at the beginning are 0. -/
def lead : List Bool → Nat
  | false :: r => lead r + 1
  | _ => 0
theorem alike_lead : ∀ x y : List Bool, x.length = y.length → alike x y = lead (List.zipWith (· != ·) x y)
  | [], [], _ => rfl
  | a :: x, b :: y, h => by
    have ih := alike_lead x y (by simpa using h)
    simp only [alike, List.zipWith_cons_cons]
    by_cases hab : a = b
    · subst hab; simp [lead, ih]
    · rw [if_neg hab]
      have : (a != b) = true := by simpa using hab
      rw [this]; rfl
theorem xor_bit (c d e : Nat) : ((c ^^^ d) / 2 ^ e % 2 == 1) = ((c / 2 ^ e % 2 == 1) != (d / 2 ^ e % 2 == 1)) := by
  have h : ∀ n : Nat, (n / 2 ^ e % 2 == 1) = n.testBit e := by
    intro n
    rw [Nat.testBit_eq_decide_div_mod_eq]
    by_cases hn : n / 2 ^ e % 2 = 1 <;> simp [hn]
  rw [h, h, h, Nat.testBit_xor]
theorem bits8_xor (c d : UInt8) : List.zipWith (· != ·) (bits8 c) (bits8 d) = bits8 (c ^^^ d) := by
  have h := fun e => xor_bit c.toNat d.toNat e
  have h7 := h 7
  have h6 := h 6
  have h5 := h 5
  have h4 := h 4
  have h3 := h 3
  have h2 := h 2
  have h1 := h 1
  have h0 := h 0
  simp only [Nat.reducePow, Nat.pow_zero, Nat.div_one] at h7 h6 h5 h4 h3 h2 h1 h0
  simp only [bits8, List.zipWith_cons_cons, List.zipWith_nil_left, UInt8.toNat_xor, h7, h6, h5, h4, h3, h2, h1, h0]
theorem lead_bits8 (c : UInt8) : c ≠ 0 → lead (bits8 c) = 8 - Lib.bitLen c.toNat := by
  revert c
  apply all_u8
  decide +kernel
theorem alike_byte (c d : UInt8) (h : c ≠ d) : alike (bits8 c) (bits8 d) = 8 - Lib.bitLen (c.toNat ^^^ d.toNat) := by
  rw [alike_lead (bits8 c) (bits8 d) rfl, bits8_xor, lead_bits8 _ (by
    intro e
    apply h
    have : c ^^^ d ^^^ d = 0 ^^^ d := by rw [e]
    simpa [UInt8.xor_assoc] using this), UInt8.toNat_xor]
theorem alike_at (a b : List UInt8) (k : Nat) (hl : a.length = b.length) (hk : k < a.length) (hp : a.take k = b.take k) (hne : a[k] ≠ b[k]) : alike (bitsL a) (bitsL b) = 8 * k + (8 - Lib.bitLen ((a[k]).toNat ^^^ (b[k]).toNat)) := by
  have ha : a = a.take k ++ a[k] :: a.drop (k + 1) := by rw [← List.drop_eq_getElem_cons hk, List.take_append_drop]
  have hb : b = b.take k ++ b[k] :: b.drop (k + 1) := by rw [← List.drop_eq_getElem_cons (by omega), List.take_append_drop]
  have e1 : bitsL a = bitsL (a.take k) ++ (bits8 a[k] ++ bitsL (a.drop (k + 1))) := by
    rw (occs := .pos [1]) [ha]; rw [bitsL_append]; rfl
  have e2 : bitsL b = bitsL (a.take k) ++ (bits8 b[k] ++ bitsL (b.drop (k + 1))) := by
    rw (occs := .pos [1]) [hb]; rw [bitsL_append, hp]; rfl
  rw [e1, e2, alike_same, bitsL_length, alike_bits8 _ _ _ _ hne, alike_byte _ _ hne]
  simp; omega
theorem bitLen_le8 (n : Nat) (h : n < 256) : Lib.bitLen n ≤ 8 := by
  have hd : ∀ i : Fin 256, Lib.bitLen i.val ≤ 8 := by decide +kernel
  exact hd ⟨n, h⟩
theorem alike_self (x : List Bool) : alike x x = x.length := by
  have := alike_same x [] []
  simpa [alike] using this
end Go.Proofs.Ytioichenjoeonaa
