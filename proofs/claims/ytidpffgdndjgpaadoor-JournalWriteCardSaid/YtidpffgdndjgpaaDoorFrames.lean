/- Frames as lists of bytes. It speaks of no program. -/
import Derived.Test.YtidpffgdndjgpaaDoorBase
namespace Go.Proofs.YtidpffgdndjgpaaDoor
set_option linter.unusedVariables false

/-- The two sums of bytes, each by 255. -/
def chkStep (p : Nat × Nat) (c : UInt8) : Nat × Nat := ((p.1 + c.toNat) % 255, (p.2 + (p.1 + c.toNat) % 255) % 255)
def chkP (l : List UInt8) : Nat × Nat := l.foldl chkStep (0, 0)
def chkN (l : List UInt8) : Nat := 256 * (chkP l).2 + (chkP l).1
theorem chkP_snoc (l : List UInt8) (c : UInt8) : chkP (l ++ [c]) = chkStep (chkP l) c := by simp [chkP, List.foldl_append]
theorem chkP_lt (l : List UInt8) : (chkP l).1 < 255 ∧ (chkP l).2 < 255 := by
  rcases List.eq_nil_or_concat l with rfl | ⟨l, c, rfl⟩
  · decide
  · rw [List.concat_eq_append, chkP_snoc]; unfold chkStep; dsimp only; omega
theorem chkN_lt (l : List UInt8) : chkN l < 65535 := by have := chkP_lt l; unfold chkN; omega
theorem chkP_take {l : List UInt8} {k : Nat} (h : k < l.length) : chkP (l.take (k + 1)) = ((((chkP (l.take k)).1 + (l[k]).toNat) % 255), (((chkP (l.take k)).2 + ((chkP (l.take k)).1 + (l[k]).toNat) % 255) % 255)) := by
  rw [List.take_succ_eq_append_getElem h, chkP_snoc]; rfl

/-- The number of two bytes at a place of a list. -/
def n16L (l : List UInt8) (a : Nat) : Nat := (l.getD a 0).toNat * 256 + (l.getD (a + 1) 0).toNat
def w16 (n : Nat) : List UInt8 := [UInt8.ofNat (n / 256), UInt8.ofNat (n % 256)]
theorem w16_length (n : Nat) : (w16 n).length = 2 := rfl
def frameL (l : List UInt8) : List UInt8 := w16 l.length ++ w16 (65535 - l.length) ++ l ++ w16 (chkN l)
theorem frameL_length (l : List UInt8) : (frameL l).length = l.length + 6 := by simp [frameL, w16_length]; omega
/-- How many bytes the frame has inside that begins bytes. -/
def firstL (b : List UInt8) : Option Nat :=
  if b.length < 6 then none
  else if n16L b 2 ≠ 65535 - n16L b 0 ∨ 600 < n16L b 0 ∨ b.length < n16L b 0 + 6 then none
  else if n16L b (4 + n16L b 0) ≠ chkN ((b.drop 4).take (n16L b 0)) then none
  else some (n16L b 0)

theorem toNat_of (n : Nat) (h : n < 256) : (UInt8.ofNat n).toNat = n := UInt8.toNat_ofNat_of_lt' (by simpa using h)
theorem n16L_lt (l : List UInt8) (a : Nat) : n16L l a < 65536 := by
  have h1 := UInt8.toNat_lt (l.getD a 0)
  have h2 := UInt8.toNat_lt (l.getD (a + 1) 0)
  unfold n16L; omega
theorem n16L_w16 (x : List UInt8) (n : Nat) (r : List UInt8) (h : n < 65536) (a : Nat) (ha : a = x.length) : n16L (x ++ w16 n ++ r) a = n := by
  subst ha
  unfold n16L w16
  have e1 : (x ++ [UInt8.ofNat (n / 256), UInt8.ofNat (n % 256)] ++ r).getD x.length 0 = UInt8.ofNat (n / 256) := by
    simp [List.getD]
  have e2 : (x ++ [UInt8.ofNat (n / 256), UInt8.ofNat (n % 256)] ++ r).getD (x.length + 1) 0 = UInt8.ofNat (n % 256) := by
    simp [List.getD]
  rw [e1, e2, toNat_of _ (by omega), toNat_of _ (by omega)]
  omega
theorem w16_n16L (l : List UInt8) (a : Nat) (h : a + 2 ≤ l.length) : w16 (n16L l a) = (l.drop a).take 2 := by
  have e1 : l.getD a 0 = l[a] := by simp [List.getD, List.getElem?_eq_getElem (show a < l.length by omega)]
  have e2 : l.getD (a + 1) 0 = l[a + 1] := by simp [List.getD, List.getElem?_eq_getElem (show a + 1 < l.length by omega)]
  unfold n16L w16
  rw [e1, e2]
  have h1 := UInt8.toNat_lt l[a]
  have h2 := UInt8.toNat_lt l[a + 1]
  rw [show ((l[a]).toNat * 256 + (l[a + 1]).toNat) / 256 = (l[a]).toNat by omega, show ((l[a]).toNat * 256 + (l[a + 1]).toNat) % 256 = (l[a + 1]).toNat by omega]
  rw [List.drop_eq_getElem_cons (by omega), List.take_succ_cons, List.drop_eq_getElem_cons (by omega), List.take_succ_cons, List.take_zero]
  simp

theorem firstL_frame (l r : List UInt8) (h : l.length ≤ 600) : firstL (frameL l ++ r) = some l.length := by
  have h0 : n16L (frameL l ++ r) 0 = l.length := by
    have := n16L_w16 [] l.length (w16 (65535 - l.length) ++ l ++ w16 (chkN l) ++ r) (by omega) 0 rfl
    simpa [frameL, List.append_assoc] using this
  have h2 : n16L (frameL l ++ r) 2 = 65535 - l.length := by
    have := n16L_w16 (w16 l.length) (65535 - l.length) (l ++ w16 (chkN l) ++ r) (by omega) 2 rfl
    simpa [frameL, List.append_assoc] using this
  have h4 : n16L (frameL l ++ r) (4 + l.length) = chkN l := by
    have := n16L_w16 (w16 l.length ++ w16 (65535 - l.length) ++ l) (chkN l) r (by have := chkN_lt l; omega) (4 + l.length) (by simp [w16_length]; omega)
    simpa [frameL, List.append_assoc] using this
  have hm : ((frameL l ++ r).drop 4).take l.length = l := by
    simp [frameL, w16]
  unfold firstL
  rw [h0, h2, h4, hm]
  have hl := frameL_length l
  simp only [List.length_append, hl]
  rw [if_neg (by omega), if_neg (by simp; omega), if_neg (by simp)]

theorem firstL_some {b : List UInt8} {n : Nat} (h : firstL b = some n) : n ≤ 600 ∧ n + 6 ≤ b.length ∧ b = frameL ((b.drop 4).take n) ++ b.drop (n + 6) := by
  unfold firstL at h
  split at h
  · cases h
  split at h
  · cases h
  split at h
  · cases h
  rename_i h1 h2 h3
  simp only [Option.some.injEq] at h
  rw [h] at h2 h3
  rw [Decidable.not_not] at h3
  have ha : n16L b 2 = 65535 - n := by
    rcases Decidable.em (n16L b 2 = 65535 - n) with e | e
    · exact e
    · exact absurd (.inl e) h2
  have hb : ¬ 600 < n := fun e => h2 (.inr (.inl e))
  have hc : ¬ b.length < n + 6 := fun e => h2 (.inr (.inr e))
  refine ⟨by omega, by omega, ?_⟩
  have hlen : ((b.drop 4).take n).length = n := by simp; omega
  unfold frameL
  rw [hlen, ← h3, ← ha]
  have e0 : w16 n = (b.drop 0).take 2 := by rw [← h]; exact w16_n16L b 0 (by omega)
  rw [e0, w16_n16L b 2 (by omega), w16_n16L b (4 + n) (by omega)]
  have hx : b = b.take 2 ++ ((b.drop 2).take 2 ++ ((b.drop 4).take n ++ ((b.drop (4 + n)).take 2 ++ b.drop (n + 6)))) := by
    have s1 := List.take_append_drop 2 b
    have s2 := List.take_append_drop 2 (b.drop 2)
    have s3 := List.take_append_drop n (b.drop 4)
    have s4 := List.take_append_drop 2 (b.drop (4 + n))
    rw [List.drop_drop] at s2 s3 s4
    rw [show 4 + n + 2 = n + 6 by omega] at s4
    rw [s4, s3, s2, s1]
  simp only [List.drop_zero, List.append_assoc]
  exact hx
theorem firstL_short {b : List UInt8} (l : List UInt8) (k : Nat) (hl : l.length ≤ 600) (hk : k < l.length + 6) (hb : b = (frameL l).take k) : firstL b = none := by
  cases h : firstL b with
  | none => rfl
  | some n =>
    exfalso
    obtain ⟨h1, h2, h3⟩ := firstL_some h
    have hlen : b.length = k := by rw [hb, List.length_take, frameL_length]; omega
    -- the length in the first two bytes is the same
    have e1 : n16L b 0 = n := by
      unfold firstL at h
      split at h
      · cases h
      split at h
      · cases h
      split at h
      · cases h
      exact Option.some.inj h
    have e2 : n16L b 0 = l.length := by
      have h0 : n16L (frameL l) 0 = l.length := by
        have := n16L_w16 [] l.length (w16 (65535 - l.length) ++ l ++ w16 (chkN l)) (by omega) 0 rfl
        simpa [frameL, List.append_assoc] using this
      rw [← h0, hb]
      unfold n16L
      simp only [List.getD, List.getElem?_take]
      rw [if_pos (by omega), if_pos (by omega)]
    omega
end Go.Proofs.YtidpffgdndjgpaaDoor
