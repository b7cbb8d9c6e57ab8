/- Texts of labels: joined by points, split again. It speaks of no program. -/
import Derived.Test.YtfabnfcbldjadaaDoorNameD
import Derived.Lib.SplitLaws
import Derived.Lib.Strings
namespace Go.Proofs.YtfabnfcbldjadaaDoor
open Go.RowKit
set_option linter.unusedVariables false
set_option linter.unusedSimpArgs false
def signs (l : List UInt8) : List UInt8 := l.flatMap signL
theorem sign_no46 (c : UInt8) : (46 : UInt8) ∉ signL c := by
  have h : ∀ c : UInt8, (signL c).contains 46 = false := by
    intro c
    have : ∀ n : Fin 256, (signL (UInt8.ofNat n.val)).contains 46 = false := by decide +kernel
    have h2 := this ⟨c.toNat, UInt8.toNat_lt c⟩
    simpa using h2
  intro hm
  have := h c
  rw [List.contains_iff_mem.2 hm] at this
  cases this
theorem signs_no46 (l : List UInt8) : (46 : UInt8) ∉ signs l := by
  unfold signs
  intro h
  obtain ⟨c, _, h2⟩ := List.mem_flatMap.1 h
  exact sign_no46 c h2
theorem index_miss46 : ∀ (x : List UInt8), (46 : UInt8) ∉ x → Lib.index x [46] = -1
  | [], _ => rfl
  | b :: l, h => by
    have hb : b ≠ 46 := fun e => h (by simp [e])
    have ih := index_miss46 l (fun hm => h (by simp [hm]))
    have hp : ([46] : List UInt8).isPrefixOf (b :: l) = false := by simp [List.isPrefixOf, Ne.symm hb]
    rw [Lib.index, hp, ih]; simp
theorem index_hit46 : ∀ (x r : List UInt8), (46 : UInt8) ∉ x → Lib.index (x ++ 46 :: r) [46] = (x.length : Int)
  | [], r, _ => by simp [Lib.index, List.isPrefixOf]
  | b :: l, r, h => by
    have hb : b ≠ 46 := fun e => h (by simp [e])
    have ih := index_hit46 l r (fun hm => h (by simp [hm]))
    have hp : ([46] : List UInt8).isPrefixOf (b :: (l ++ 46 :: r)) = false := by simp [List.isPrefixOf, Ne.symm hb]
    rw [List.cons_append, Lib.index, hp, ih]
    have h9 : ((l.length : Int) == -1) = false := by rw [beq_eq_false_iff_ne]; omega
    simp [h9]
/-- The labels' signs, points between. -/
def joinL : List (List UInt8) → List UInt8
  | [] => []
  | [l] => signs l
  | l :: r :: rs => signs l ++ 46 :: joinL (r :: rs)
theorem textL_join : ∀ (l : List UInt8) (ls : List (List UInt8)), textL (l :: ls) = joinL (l :: ls) ++ [46]
  | l, [] => by simp [textL, joinL, signs]
  | l, r :: rs => by
    have ih := textL_join r rs
    have h : textL (l :: r :: rs) = (signs l ++ [46]) ++ textL (r :: rs) := by simp [textL, signs]
    rw [h, ih, joinL]; simp
theorem trim_join (l : List UInt8) (ls : List (List UInt8)) : Lib.trimSuffix (textL (l :: ls)) [46] = joinL (l :: ls) := by
  rw [textL_join]
  unfold Lib.trimSuffix
  have : Lib.hasSuffix (joinL (l :: ls) ++ [46]) [46] = true := by simp [Lib.hasSuffix]
  rw [if_pos this]; simp
theorem count_join : ∀ (l : List UInt8) (ls : List (List UInt8)), (joinL (l :: ls)).count 46 = ls.length
  | l, [] => by simp only [joinL, List.length_nil]; exact List.count_eq_zero.2 (signs_no46 l)
  | l, r :: rs => by
    rw [joinL, List.count_append, List.count_cons_self, count_join r rs, List.count_eq_zero.2 (signs_no46 l)]; simp
theorem split_join : ∀ (l : List UInt8) (ls : List (List UInt8)), Lib.splitK [46] 0 ls.length (joinL (l :: ls)) = (l :: ls).map signs
  | l, [] => by simp [Lib.splitK, joinL]
  | l, r :: rs => by
    have ih := split_join r rs
    have hi := index_hit46 (signs l) (joinL (r :: rs)) (signs_no46 l)
    have h9 : (((signs l).length : Int) == -1) = false := by rw [beq_eq_false_iff_ne]; omega
    rw [joinL, List.length_cons, Lib.splitK, hi, h9]
    simp only [Bool.false_eq_true, if_false, Int.toNat_natCast, Nat.add_zero, List.length_singleton, List.map_cons]
    rw [List.take_left]
    have hd : (signs l ++ 46 :: joinL (r :: rs)).drop ((signs l).length + 1) = joinL (r :: rs) := by
      rw [← List.drop_drop, List.drop_left]; rfl
    rw [hd, ih]; rfl
/-- What Split makes of a text. -/
theorem split_text (l : List UInt8) (ls : List (List UInt8)) (T : ByteArray) (hT : T = ⟨(joinL (l :: ls)).toArray⟩) : Lib.countB T ⟨#[46]⟩ = ls.length ∧ Lib.splitB ⟨#[46]⟩ 0 ls.length T = (l :: ls).map fun x => ByteArray.mk (signs x).toArray := by
  have hd : T.data.toList = joinL (l :: ls) := by rw [hT]
  refine ⟨?_, ?_⟩
  · have h : Lib.countB T ⟨#[46]⟩ = Lib.count T.data.toList [46] := rfl
    rw [h, Lib.count_one, hd, count_join]
  · have h := Lib.splitB_data ⟨#[46]⟩ 0 ls.length T
    rw [show (ByteArray.mk #[46]).data.toList = [46] from rfl, hd, split_join] at h
    have h2 : ∀ (a : List ByteArray) (b : List (List UInt8)), a.map (·.data.toList) = b → a = b.map fun x => ByteArray.mk x.toArray := by
      intro a b e
      subst e
      rw [List.map_map]
      have : ((fun x : List UInt8 => ByteArray.mk x.toArray) ∘ fun x : ByteArray => x.data.toList) = id := by funext x; simp
      rw [this, List.map_id]
    have h3 := h2 _ _ h
    rw [h3, List.map_map]; rfl
end Go.Proofs.YtfabnfcbldjadaaDoor
