/- Names in messages, by plain steps: the walk that ends by what it sees, and the walk of so many steps. It speaks of no program. -/
import Derived.Test.YtliofipccicnfaaBase
namespace Go.Proofs.Ytliofipccicnfaa
set_option linter.unusedVariables false
/-- The byte at a place. -/
def bt (s : ByteArray) (i : Nat) : Nat := if h : i < s.size then (s[i]'h).toNat else 0
theorem bt_lt (s : ByteArray) (i : Nat) : bt s i < 256 := by
  unfold bt
  split
  · exact UInt8.toNat_lt _
  · omega
theorem bt_get {s : ByteArray} {i : Nat} (h : i < s.size) : (s[i]'h).toNat = bt s i := by unfold bt; rw [dif_pos h]
/-- Where a pointer leads. -/
def ptr (s : ByteArray) (i : Nat) : Nat := (bt s i - 192) * 256 + bt s (i + 1)
def labAt (s : ByteArray) (i : Nat) : ByteArray := s.extract (i + 1) (i + 1 + bt s i)
/-- The program's steps: none, where they do not suffice. -/
def rdP (s : ByteArray) : Nat → List ByteArray → Nat → Nat → Nat → Nat → Option (Option (List ByteArray × Nat))
  | 0, _, _, _, _, _ => none
  | f + 1, ls, size, behind, i, bound =>
    if i < s.size then
      if 192 ≤ bt s i then
        if i + 1 < s.size then
          if ptr s i < bound then rdP s f ls size (if behind = 0 then i + 2 else behind) (ptr s i) (ptr s i) else some none
        else some none
      else if 63 < bt s i then some none
      else if 0 < bt s i then
        if s.size ≤ i + 1 + bt s i ∨ 254 < size + (1 + bt s i) then some none
        else rdP s f (ls ++ [labAt s i]) (size + (1 + bt s i)) behind (i + (1 + bt s i)) bound
      else some (some (ls, if behind = 0 then i + 1 else behind))
    else some none
/-- So many steps of the document's words. -/
def rfP (s : ByteArray) : Nat → List ByteArray → Nat → Nat → Option Nat → Option (List ByteArray × Nat)
  | 0, _, _, _, _ => none
  | f + 1, ls, i, low, e =>
    if i < s.size then
      if bt s i = 0 then some (ls, e.getD (i + 1))
      else if bt s i < 64 then
        if s.size ≤ i + bt s i then none else rfP s f (ls ++ [labAt s i]) (i + (bt s i + 1)) low e
      else if bt s i < 192 ∨ s.size ≤ i + 1 then none
      else if low ≤ ptr s i then none
      else rfP s f ls (ptr s i) (ptr s i) (some (e.getD (i + 2)))
    else none
def szs (ls : List ByteArray) : Nat := (ls.map (fun t => t.size + 1)).sum
theorem szs_snoc (ls : List ByteArray) (t : ByteArray) : szs (ls ++ [t]) = szs ls + (t.size + 1) := by simp [szs]
theorem labAt_size {s : ByteArray} {i : Nat} (h : i + bt s i < s.size) : (labAt s i).size = bt s i := by
  unfold labAt; rw [ByteArray.size_extract]; omega
/-- What a place may still cost. -/
def costP (t : Nat) : Nat := t + 65 * (t / 256) + (t % 256 - 192)
theorem cost_lt {a t : Nat} (h : a < t) : costP a + 1 ≤ costP t := by unfold costP; omega
theorem cost_two {a t : Nat} (h : a < t) (h2 : 192 ≤ a % 256 ∨ a + 2 ≤ t) : costP a + 2 ≤ costP t := by unfold costP; omega
theorem cost_three {a t : Nat} (h : a < t) (h2 : 192 ≤ a % 256) (h3 : t % 256 < 192) : costP a + 3 ≤ costP t := by unfold costP; omega
theorem ptr_mod (s : ByteArray) (i : Nat) : ptr s i % 256 = bt s (i + 1) := by
  have := bt_lt s (i + 1)
  unfold ptr; omega
section
variable (mk : List ByteArray → Bool) (hmk : ∀ ls, mk ls = true → szs ls ≤ 254)
include hmk
theorem rf_long (s : ByteArray) : ∀ (n : Nat) (ls : List ByteArray) (i low : Nat) (e : Option Nat), 254 < szs ls → (rfP s n ls i low e).filter (fun p => mk p.1) = none
  | 0, ls, i, low, e, h => rfl
  | n + 1, ls, i, low, e, h => by
    unfold rfP
    by_cases h1 : i < s.size
    · rw [if_pos h1]
      by_cases h2 : bt s i = 0
      · rw [if_pos h2]
        have : mk ls = false := by
          cases hm : mk ls with
          | false => rfl
          | true => have := hmk ls hm; omega
        simp [Option.filter, this]
      · rw [if_neg h2]
        by_cases h3 : bt s i < 64
        · rw [if_pos h3]
          by_cases h4 : s.size ≤ i + bt s i
          · rw [if_pos h4]; rfl
          · rw [if_neg h4]
            exact rf_long s n _ _ _ _ (by rw [szs_snoc]; omega)
        · rw [if_neg h3]
          by_cases h4 : bt s i < 192 ∨ s.size ≤ i + 1
          · rw [if_pos h4]; rfl
          · rw [if_neg h4]
            by_cases h5 : low ≤ ptr s i
            · rw [if_pos h5]; rfl
            · rw [if_neg h5]
              exact rf_long s n _ _ _ _ h
    · rw [if_neg h1]; rfl
/-- Side by side. -/
theorem rd_rf (s : ByteArray) : ∀ (K : Nat) (ls : List ByteArray) (size behind i bound : Nat) (r : Option (List ByteArray × Nat)) (n : Nat) (e : Option Nat), rdP s K ls size behind i bound = some r → size = szs ls → size ≤ 254 →
    (e = none ∧ behind = 0 ∨ e = some behind ∧ behind ≠ 0) →
    ((i = bound ∧ costP bound + 1 + 2 * (254 - size) + 1 ≤ 2 * n) ∨ (i = bound ∧ 192 ≤ bt s (bound + 1) ∧ bound % 256 < 192 ∧ costP bound + 2 * (254 - size) + 1 ≤ 2 * n) ∨ costP bound + 2 + 2 * (254 - size) + 1 ≤ 2 * n) →
    (rfP s n ls i bound e).filter (fun p => mk p.1) = r.filter (fun p => mk p.1)
  | 0, ls, size, behind, i, bound, r, n, e, h, _, _, _, _ => by simp [rdP] at h
  | K + 1, ls, size, behind, i, bound, r, n, e, h, hsz, hle, he, hn => by
    obtain ⟨n, rfl⟩ : ∃ m, n = m + 1 := ⟨n - 1, by omega⟩
    unfold rdP at h
    unfold rfP
    have hb := bt_lt s i
    by_cases h1 : i < s.size
    · rw [if_pos h1] at h ⊢
      by_cases h2 : 192 ≤ bt s i
      · rw [if_pos h2] at h
        rw [if_neg (show ¬ bt s i = 0 by omega), if_neg (show ¬ bt s i < 64 by omega)]
        by_cases h3 : i + 1 < s.size
        · rw [if_pos h3] at h
          rw [if_neg (show ¬ (bt s i < 192 ∨ s.size ≤ i + 1) by omega)]
          by_cases h4 : ptr s i < bound
          · rw [if_pos h4] at h
            rw [if_neg (show ¬ bound ≤ ptr s i by omega)]
            refine rd_rf s K ls size _ _ _ r n _ h hsz hle ?_ ?_
            · rcases he with ⟨rfl, rfl⟩ | ⟨rfl, hne⟩
              · right; simp
              · right; simp [hne]
            · have hm := ptr_mod s i
              rcases hn with ⟨rfl, hn⟩ | ⟨rfl, h5, h6, hn⟩ | hn
              · by_cases h7 : 192 ≤ ptr s i % 256 ∨ ptr s i + 2 ≤ i
                · have := cost_two h4 h7
                  left; exact ⟨rfl, by omega⟩
                · have := cost_lt h4
                  right; left
                  exact ⟨rfl, by rw [show ptr s i + 1 = i by omega]; exact h2, by omega, by omega⟩
              · have := cost_three h4 (by omega) h6
                left; exact ⟨rfl, by omega⟩
              · have := cost_lt h4
                left; exact ⟨rfl, by omega⟩
          · rw [if_neg h4] at h
            rw [if_pos (show bound ≤ ptr s i by omega)]
            injection h with h; subst h; rfl
        · rw [if_neg h3] at h
          rw [if_pos (show bt s i < 192 ∨ s.size ≤ i + 1 by omega)]
          injection h with h; subst h; rfl
      · rw [if_neg h2] at h
        by_cases h3 : 63 < bt s i
        · rw [if_pos h3] at h
          rw [if_neg (show ¬ bt s i = 0 by omega), if_neg (show ¬ bt s i < 64 by omega), if_pos (show bt s i < 192 ∨ s.size ≤ i + 1 by omega)]
          injection h with h; subst h; rfl
        · rw [if_neg h3] at h
          by_cases h4 : 0 < bt s i
          · rw [if_pos h4] at h
            rw [if_neg (show ¬ bt s i = 0 by omega), if_pos (show bt s i < 64 by omega)]
            by_cases h5 : s.size ≤ i + bt s i
            · rw [if_pos h5]
              rw [if_pos (show s.size ≤ i + 1 + bt s i ∨ 254 < size + (1 + bt s i) by omega)] at h
              injection h with h; subst h; rfl
            · rw [if_neg h5]
              have hl : (labAt s i).size = bt s i := labAt_size (by omega)
              by_cases h6 : s.size ≤ i + 1 + bt s i
              · rw [if_pos (.inl h6)] at h
                injection h with h; subst h
                cases n with
                | zero => rfl
                | succ n =>
                  unfold rfP
                  rw [if_neg (show ¬ i + (bt s i + 1) < s.size by omega)]
              · by_cases h7 : 254 < size + (1 + bt s i)
                · rw [if_pos (.inr h7)] at h
                  injection h with h; subst h
                  exact rf_long mk hmk s n _ _ _ _ (by rw [szs_snoc, hl]; omega)
                · rw [if_neg (show ¬ (s.size ≤ i + 1 + bt s i ∨ 254 < size + (1 + bt s i)) by omega)] at h
                  rw [Nat.add_comm (bt s i) 1]
                  refine rd_rf s K _ _ _ _ _ r n _ h (by rw [szs_snoc, hl]; omega) (by omega) he ?_
                  right; right
                  rcases hn with ⟨_, hn⟩ | ⟨_, _, _, hn⟩ | hn <;> omega
          · rw [if_neg h4] at h
            rw [if_pos (show bt s i = 0 by omega)]
            injection h with h; subst h
            rcases he with ⟨rfl, rfl⟩ | ⟨rfl, hne⟩
            · simp
            · simp [hne]
    · rw [if_neg h1] at h ⊢
      injection h with h; subst h; rfl
theorem rd_rf_start {s : ByteArray} (hs : s.size ≤ 3000) {K i : Nat} {r : Option (List ByteArray × Nat)} (h : rdP s K [] 0 0 i i = some r) : (rfP s 3100 [] i i none).filter (fun p => mk p.1) = r.filter (fun p => mk p.1) := by
  by_cases hi : i < s.size
  · refine rd_rf mk hmk s K [] 0 0 i i r 3100 none h rfl (by decide) (.inl ⟨rfl, rfl⟩) (.inl ⟨rfl, ?_⟩)
    unfold costP; omega
  · cases K with
    | zero => simp [rdP] at h
    | succ K =>
      unfold rdP at h
      rw [if_neg hi] at h
      injection h with h; subst h
      unfold rfP
      rw [if_neg hi]
end
/-- The program's steps come to an end. -/
theorem rd_ends (s : ByteArray) : ∀ (b : Nat) (m : Nat) (i : Nat) (ls : List ByteArray) (size behind : Nat), s.size - i ≤ m → ∃ K r, rdP s K ls size behind i b = some r := by
  intro b
  induction b using Nat.strongRecOn with
  | _ b ihb =>
    intro m
    induction m using Nat.strongRecOn with
    | _ m ihm =>
      intro i ls size behind hm
      by_cases h1 : i < s.size
      · by_cases h2 : 192 ≤ bt s i
        · by_cases h3 : i + 1 < s.size
          · by_cases h4 : ptr s i < b
            · obtain ⟨K, r, h⟩ := ihb (ptr s i) h4 (s.size - ptr s i) (ptr s i) ls size (if behind = 0 then i + 2 else behind) (Nat.le_refl _)
              exact ⟨K + 1, r, by unfold rdP; rw [if_pos h1, if_pos h2, if_pos h3, if_pos h4]; exact h⟩
            · exact ⟨1, none, by unfold rdP; rw [if_pos h1, if_pos h2, if_pos h3, if_neg h4]⟩
          · exact ⟨1, none, by unfold rdP; rw [if_pos h1, if_pos h2, if_neg h3]⟩
        · by_cases h3 : 63 < bt s i
          · exact ⟨1, none, by unfold rdP; rw [if_pos h1, if_neg h2, if_pos h3]⟩
          · by_cases h4 : 0 < bt s i
            · by_cases h5 : s.size ≤ i + 1 + bt s i ∨ 254 < size + (1 + bt s i)
              · exact ⟨1, none, by unfold rdP; rw [if_pos h1, if_neg h2, if_neg h3, if_pos h4, if_pos h5]⟩
              · obtain ⟨K, r, h⟩ := ihm (s.size - (i + (1 + bt s i))) (by omega) (i + (1 + bt s i)) (ls ++ [labAt s i]) (size + (1 + bt s i)) behind (Nat.le_refl _)
                exact ⟨K + 1, r, by unfold rdP; rw [if_pos h1, if_neg h2, if_neg h3, if_pos h4, if_neg h5]; exact h⟩
            · exact ⟨1, _, by unfold rdP; rw [if_pos h1, if_neg h2, if_neg h3, if_neg h4]⟩
      · exact ⟨1, none, by unfold rdP; rw [if_neg h1]⟩
end Go.Proofs.Ytliofipccicnfaa
