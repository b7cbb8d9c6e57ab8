/- Names as lists of bytes: labels, what is read of bytes, the text of a name. It speaks of no program. -/
import Derived.Test.YtkdknfedieeenaaGreatDoorBase
namespace Go.Proofs.YtkdknfedieeenaaGreatDoor
set_option linter.unusedVariables false

def isUp (c : UInt8) : Bool := decide (65 ≤ c.toNat ∧ c.toNat ≤ 90)
def fold8 (c : UInt8) : UInt8 := if isUp c then c + 32 else c
/-- The length of the label that begins bytes, with the byte of its length; none, if none begins. -/
def endAt : List UInt8 → Option Nat
  | [] => none
  | c :: r => if 1 ≤ c.toNat ∧ c.toNat ≤ 63 ∧ c.toNat ≤ r.length ∧ (r.take c.toNat).all (fun x => !isUp x) = true then some (c.toNat + 1) else none
def parseN : Nat → List UInt8 → Option (List (List UInt8))
  | _, [] => some []
  | 0, _ :: _ => none
  | f + 1, c :: r => match endAt (c :: r) with
    | none => none
    | some k => (parseN f ((c :: r).drop k)).map ((r.take (k - 1)) :: ·)
def parseL (l : List UInt8) : Option (List (List UInt8)) := parseN l.length l
def wire (ls : List (List UInt8)) : List UInt8 := ls.flatMap fun x => UInt8.ofNat x.length :: x
def okLabel (l : List UInt8) : Bool := decide (1 ≤ l.length ∧ l.length ≤ 63) && l.all (fun x => !isUp x)
def nameLabels (l : List UInt8) : Option (List (List UInt8)) := if l.length ≤ 254 then parseL l else none

theorem endAt_pos {l : List UInt8} {k : Nat} (h : endAt l = some k) : 2 ≤ k ∧ k ≤ l.length ∧ k ≤ 64 := by
  cases l with
  | nil => simp [endAt] at h
  | cons c r =>
    simp only [endAt] at h
    split at h
    · rename_i hc
      simp only [Option.some.injEq] at h
      simp only [List.length_cons]
      omega
    · cases h
theorem parseN_fuel : ∀ (f g : Nat) (l : List UInt8), l.length ≤ f → l.length ≤ g → parseN f l = parseN g l
  | f, g, [], _, _ => by cases f <;> cases g <;> rfl
  | 0, _, c :: r, h, _ => by simp at h
  | _, 0, c :: r, _, h => by simp at h
  | f + 1, g + 1, c :: r, hf, hg => by
    simp only [parseN]
    cases h : endAt (c :: r) with
    | none => rfl
    | some k =>
      have hk := endAt_pos h
      simp only
      rw [parseN_fuel f g _ (by simp at *; omega) (by simp at *; omega)]
theorem parseL_nil : parseL [] = some [] := rfl
theorem parseL_cons (c : UInt8) (r : List UInt8) : parseL (c :: r) = match endAt (c :: r) with
    | none => none
    | some k => (parseL ((c :: r).drop k)).map ((r.take (k - 1)) :: ·) := by
  show parseN (r.length + 1) (c :: r) = _
  simp only [parseN]
  cases h : endAt (c :: r) with
  | none => rfl
  | some k =>
    have hk := endAt_pos h
    simp only
    rw [parseN_fuel r.length _ _ (by simp; omega) (Nat.le_refl _)]
    rfl
/-- One step of a reader that stands at a place. -/
theorem parseL_step (l : List UInt8) (i : Nat) (hi : i < l.length) : parseL (l.drop i) = match endAt (l.drop i) with
    | none => none
    | some k => (parseL (l.drop (i + k))).map ((l.extract (i + 1) (i + k)) :: ·) := by
  rw [List.drop_eq_getElem_cons hi, parseL_cons]
  cases h : endAt (l[i] :: l.drop (i + 1)) with
  | none => rfl
  | some k =>
    have hk := endAt_pos h
    simp only
    rw [← List.drop_eq_getElem_cons hi, List.drop_drop]
    have e : l.extract (i + 1) (i + k) = (l.drop (i + 1)).take (k - 1) := by
      rw [List.extract_eq_take_drop, show i + k - (i + 1) = k - 1 by omega]
    rw [e]

theorem wire_cons (x : List UInt8) (ls : List (List UInt8)) : wire (x :: ls) = (UInt8.ofNat x.length :: x) ++ wire ls := by simp [wire]
theorem wire_append (a b : List (List UInt8)) : wire (a ++ b) = wire a ++ wire b := by simp [wire]
theorem endAt_wire (x : List UInt8) (r : List UInt8) (h : okLabel x = true) : endAt (UInt8.ofNat x.length :: (x ++ r)) = some (x.length + 1) := by
  simp only [okLabel, Bool.and_eq_true, decide_eq_true_eq] at h
  have hn : (UInt8.ofNat x.length).toNat = x.length := UInt8.toNat_ofNat_of_lt' (by have : UInt8.size = 256 := rfl; omega)
  simp only [endAt, hn, List.take_left, List.length_append]
  rw [if_pos ⟨h.1.1, h.1.2, by omega, h.2⟩]
theorem parseL_wire : ∀ (ls : List (List UInt8)), (∀ x ∈ ls, okLabel x = true) → parseL (wire ls) = some ls
  | [], _ => rfl
  | x :: ls, h => by
    rw [wire_cons, List.cons_append, parseL_cons, endAt_wire x _ (h x (by simp))]
    simp only [Nat.add_sub_cancel, List.take_left, List.drop_succ_cons, List.drop_left]
    rw [parseL_wire ls (fun y hy => h y (by simp [hy]))]
    rfl
theorem wire_parseL : ∀ (n : Nat) (l : List UInt8) (ls : List (List UInt8)), l.length ≤ n → parseL l = some ls → wire ls = l ∧ ∀ x ∈ ls, okLabel x = true
  | _, [], ls, _, h => by
    simp [parseL_nil] at h
    subst h
    exact ⟨rfl, by simp⟩
  | 0, c :: r, ls, hn, _ => by simp at hn
  | n + 1, c :: r, ls, hn, h => by
    rw [parseL_cons] at h
    cases he : endAt (c :: r) with
    | none => rw [he] at h; cases h
    | some k =>
      rw [he] at h
      simp only [Option.map_eq_some_iff] at h
      obtain ⟨ms, hm, rfl⟩ := h
      have hk := endAt_pos he
      obtain ⟨h1, h2⟩ := wire_parseL n _ ms (by simp at *; omega) hm
      simp only [endAt] at he
      split at he
      · rename_i hc
        simp only [Option.some.injEq] at he
        subst he
        simp only [Nat.add_sub_cancel]
        have hl : (r.take c.toNat).length = c.toNat := by simp; omega
        refine ⟨?_, ?_⟩
        · rw [wire_cons, h1, hl]
          simp [UInt8.ofNat_toNat]
        · intro x hx
          rcases List.mem_cons.1 hx with rfl | hx
          · simp only [okLabel, hl, Bool.and_eq_true, decide_eq_true_eq]
            exact ⟨⟨hc.1, hc.2.1⟩, hc.2.2.2⟩
          · exact h2 x hx
      · cases he
theorem parseL_iff (l : List UInt8) (ls : List (List UInt8)) : parseL l = some ls ↔ l = wire ls ∧ ∀ x ∈ ls, okLabel x = true := by
  constructor
  · intro h
    obtain ⟨h1, h2⟩ := wire_parseL l.length l ls (Nat.le_refl _) h
    exact ⟨h1.symm, h2⟩
  · rintro ⟨rfl, h⟩
    exact parseL_wire ls h
theorem nameLabels_iff (l : List UInt8) (ls : List (List UInt8)) : nameLabels l = some ls ↔ l.length ≤ 254 ∧ l = wire ls ∧ ∀ x ∈ ls, okLabel x = true := by
  unfold nameLabels
  split
  · rw [parseL_iff]; simp [*]
  · simp [*]
end Go.Proofs.YtkdknfedieeenaaGreatDoor
