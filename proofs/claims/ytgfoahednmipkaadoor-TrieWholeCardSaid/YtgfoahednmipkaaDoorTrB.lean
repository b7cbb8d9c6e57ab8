/- trie.May of any word. -/
import Derived.Test.YtgfoahednmipkaaDoorTrA
import Derived.Test.YtgfoahednmipkaaDoorShelf
import Derived.Test.YtgfoahednmipkaaDoorBuf
import Derived.Shelf.Strings.SlTrimAscii
namespace Go.Proofs.YtgfoahednmipkaaDoor
open Go.RowKit
set_option linter.unusedVariables false
set_option maxRecDepth 20000
def mayL (q : List UInt8) : Bool := decide (q.length ≤ 128) && q.all (fun b => b == 48 || b == 49)
theorem mayL_iff (q : List UInt8) : mayL q = true ↔ q.length ≤ 128 ∧ BitsL q := by
  simp [mayL, BitsL]
theorem all_trim (q : List UInt8) : Lib.trimS q [48, 49] = [] ↔ BitsL q := by
  have hc : ∀ x : UInt8, [48, 49].contains x = true ↔ x = 48 ∨ x = 49 := by simp
  have hdrop : ∀ l : List UInt8, l.dropWhile (fun x => [48, 49].contains x) = [] ↔ BitsL l := by
    intro l
    induction l with
    | nil => simp [BitsL]
    | cons a l ih =>
      by_cases ha : a = 48 ∨ a = 49
      · rw [List.dropWhile_cons_of_pos ((hc a).2 ha), ih]
        simp [BitsL, ha]
      · rw [List.dropWhile_cons_of_neg (fun e => ha ((hc a).1 e))]
        simp only [reduceCtorEq, false_iff]
        exact fun e => ha (e a (by simp))
  have hrev : ∀ l : List UInt8, BitsL l.reverse ↔ BitsL l := fun l => by simp [BitsL]
  unfold Lib.trimS Lib.trimLeftS
  rw [hdrop]
  constructor
  · intro h
    -- what is left of the right trim is of signs; and what was cut is
    have h1 : Lib.trimRightS q [48, 49] = [] := by
      by_cases hn : Lib.trimRightS q [48, 49] = []
      · exact hn
      · exfalso
        unfold Lib.trimRightS at hn h
        have hh : ∀ l : List UInt8, l.dropWhile (fun x => [48, 49].contains x) ≠ [] → ∃ a, a ∈ l.dropWhile (fun x => [48, 49].contains x) ∧ ¬ (a = 48 ∨ a = 49) := by
          intro l
          induction l with
          | nil => intro e; exact absurd rfl e
          | cons a l ih =>
            intro e
            by_cases ha : a = 48 ∨ a = 49
            · rw [List.dropWhile_cons_of_pos ((hc a).2 ha)] at e ⊢; exact ih e
            · rw [List.dropWhile_cons_of_neg (fun e => ha ((hc a).1 e))]
              exact ⟨a, by simp, ha⟩
        obtain ⟨a, h1, h2⟩ := hh q.reverse (fun e => hn (by rw [e]; rfl))
        exact h2 (h a (by simpa using h1))
    unfold Lib.trimRightS at h1
    have h2 : q.reverse.dropWhile (fun x => [48, 49].contains x) = [] := by simpa using h1
    exact (hrev q).1 ((hdrop _).1 h2)
  · intro h
    unfold Lib.trimRightS
    have : q.reverse.dropWhile (fun x => [48, 49].contains x) = [] := (hdrop _).2 ((hrev q).2 h)
    rw [this]
    intro x hx; cases hx
theorem trim_any (q : List UInt8) (w : World) (hq : q.length ≤ 9223372036854775807) :
    Calls Tryd.prog 24 #[.string (sb q), .string ⟨#[48, 49]⟩] w fun e w' => e = .returned (.string (sb (Lib.trimS q [48, 49]))) ∧ Below w.heap.size w w' := by
  have h := Any.strings_Trim_laid Tryd.lays160 (by kernel_rfl) (sb q) ⟨#[48, 49]⟩ w (by rw [sb_size]; exact hq) (by decide) (ascii_of_all (by decide))
  rw [sb_list] at h
  exact h
theorem may_any (q : List UInt8) (w : World) (hq : q.length ≤ 9223372036854775807) :
    Calls Tryd.prog 18 #[.string (sb q)] w fun e w' => e = .returned (.bool (mayL q)) ∧ Below w.heap.size w w' := by
  have hsz := sb_size q
  by_cases hl : q.length ≤ 128
  · have d1 : decide (((sb q).size : Int) ≤ 128) = true := by rw [hsz]; simp; omega
    have HT := Lib.hid (trim_any q w hq)
    by_cases hb : BitsL q
    · have hm : mayL q = true := (mayL_iff q).2 ⟨hl, hb⟩
      have e0 : Lib.trimS q [48, 49] = [] := (all_trim q).2 hb
      rw [e0] at HT
      rw [hm]
      have f0 : ((sb []).toList == (ByteArray.mk #[]).toList) = true := str_same _ _ rfl
      have f1 : (sb [] : ByteArray) = ⟨#[]⟩ := rfl
      clear hm e0 hsz hl
      go_enter Tryd.func18, Tryd.ntmps18
      go_wp2_with (go_at_call 24; refine HT.out.mono ?_; rintro e w' ⟨rfl, hB⟩)
      go_ret
      exact ⟨rfl, hB⟩
    · have hm : mayL q = false := by
        cases h : mayL q with
        | false => rfl
        | true => exact absurd ((mayL_iff q).1 h).2 hb
      have e0 : Lib.trimS q [48, 49] ≠ [] := fun e => hb ((all_trim q).1 e)
      rw [hm]
      generalize Lib.trimS q [48, 49] = T at *
      have hT : (sb T).toList.isEmpty = false := str_empty' _ (by rw [sb_size]; intro e; exact e0 (List.eq_nil_of_length_eq_zero e))
      have hT' : ((sb T).toList == []) = false := str_empty _ (by rw [sb_size]; intro e; exact e0 (List.eq_nil_of_length_eq_zero e))
      clear hm e0 hsz hl
      go_enter Tryd.func18, Tryd.ntmps18
      go_wp2_with (go_at_call 24; refine HT.out.mono ?_; rintro e w' ⟨rfl, hB⟩)
      go_ret
      exact ⟨rfl, hB⟩
  · have d1 : decide (((sb q).size : Int) ≤ 128) = false := by rw [hsz]; simp; omega
    have hm : mayL q = false := by
      cases h : mayL q with
      | false => rfl
      | true => exact absurd ((mayL_iff q).1 h).1 hl
    rw [hm]
    clear hm hsz hl
    go_enter Tryd.func18, Tryd.ntmps18
    go_wp2
    go_ret
    exact ⟨rfl, Below.refl _ _⟩
/-- Whether a word begins with another one. -/
theorem hasPrefix_any (q k : List UInt8) (w : World) (hq : q.length ≤ maxLen) (hk : k.length ≤ maxLen) :
    Calls Tryd.prog 22 #[.string (sb q), .string (sb k)] w fun e w' => e = .returned (.bool (decide (k <+: q))) ∧ w = w' := by
  have h := Tryd.strings_HasPrefix (sb q) (sb k) w
  rw [sb_list, sb_list] at h
  have e : Lib.hasPrefix q k = decide (k <+: q) := by
    rw [Bool.eq_iff_iff]; simp [Lib.hasPrefix]
  rw [e] at h
  exact h.mono fun e w' ⟨h1, h2⟩ => ⟨h1, h2.symm⟩
end Go.Proofs.YtgfoahednmipkaaDoor
