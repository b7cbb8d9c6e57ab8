/- Texts that walks stand on, one behind the other. -/
import Derived.Test.YteaeplceahdioaaDoorMgSC
namespace Go.Proofs.YteaeplceahdioaaDoor
open Go.RowKit
set_option linter.unusedVariables false
set_option linter.unusedSimpArgs false
theorem foldl_mem9 : ∀ (rs out : List RecT) (q : RecT), q ∈ rs.foldl stepS out → q ∈ out ∨ q ∈ rs
  | [], out, q, h => .inl h
  | r :: rs, out, q, h => by
    rcases foldl_mem9 rs (stepS out r) q h with h | h
    · rcases stepS_cases out r with ⟨h', _⟩ | h'
      · rw [h'] at h; exact .inl h
      · rw [h'] at h
        unfold insR at h
        rcases List.mem_append.1 h with h | h
        · exact .inl ((List.takeWhile_sublist _).mem h)
        · rcases List.mem_cons.1 h with h | h
          · exact .inr (by simp [h])
          · exact .inl ((List.dropWhile_sublist _).mem h)
    · exact .inr (by simp [h])
theorem sortedR_mem (rs : List RecT) (q : RecT) : q ∈ sortedR rs ↔ q ∈ rs :=
  ⟨fun h => by
    rcases foldl_mem9 rs [] q h with h | h
    · cases h
    · exact h, sortedR_has⟩
theorem cmp_lt_irr {a b : RecT} (h1 : cmpR a b < 0) (h2 : cmpR b a < 0) : False := by
  have := cmpR_is.swap a b; omega
theorem cmp_lt_ne {a b : RecT} (h : cmpR a b < 0) : a ≠ b := fun e => by
  subst e; have := cmpR_is.refl a; omega
theorem rising_ext : ∀ {l1 l2 : List RecT}, Rising l1 → Rising l2 → (∀ q, q ∈ l1 ↔ q ∈ l2) → l1 = l2
  | [], [], _, _, _ => rfl
  | [], b :: u, _, _, h => by have := (h b).2 (by simp); cases this
  | a :: t, [], _, _, h => by have := (h a).1 (by simp); cases this
  | a :: t, b :: u, h1, h2, h => by
    have p1 := List.pairwise_cons.1 h1
    have p2 := List.pairwise_cons.1 h2
    have hab : a = b := by
      rcases List.mem_cons.1 ((h a).1 (by simp)) with e | ha
      · exact e
      · rcases List.mem_cons.1 ((h b).2 (by simp)) with e | hb
        · exact e.symm
        · exact (cmp_lt_irr (p2.1 a ha) (p1.1 b hb)).elim
    subst hab
    congr 1
    refine rising_ext p1.2 p2.2 (fun q => ⟨fun hq => ?_, fun hq => ?_⟩)
    · rcases List.mem_cons.1 ((h q).1 (by simp [hq])) with e | e
      · exact absurd e.symm (cmp_lt_ne (p1.1 q hq))
      · exact e
    · rcases List.mem_cons.1 ((h q).2 (by simp [hq])) with e | e
      · exact absurd e.symm (cmp_lt_ne (p2.1 q hq))
      · exact e
/-- The records of one that another one has. -/
def inR (a b : List RecT) : List RecT := a.filter fun r => hasB b r
theorem inR_next {a b : List RecT} {k : Nat} {r : RecT} (h : a[k]? = some r) : inR (a.take (k + 1)) b = inR (a.take k) b ++ if hasB b r then [r] else [] := by
  unfold inR; rw [List.take_add_one, h, List.filter_append]
  congr 1
  simp only [Option.toList_some, List.filter_cons, List.filter_nil]
theorem inR_le (a b : List RecT) : (inR a b).length ≤ a.length := List.length_filter_le _ _
theorem in_wo (a b : List RecT) : (inR a b).length + (woR a b).length = a.length := by
  unfold inR woR
  induction a with
  | nil => rfl
  | cons r a ih =>
    simp only [List.filter_cons]
    cases hasB b r <;> simp <;> omega
theorem inR_mem {a b : List RecT} {q : RecT} : q ∈ inR a b ↔ q ∈ a ∧ q ∈ b := by
  unfold inR; rw [List.mem_filter, hasB_iff]
theorem woR_mem {a b : List RecT} {q : RecT} : q ∈ woR a b ↔ q ∈ a ∧ q ∉ b := by
  unfold woR
  rw [List.mem_filter]
  constructor
  · rintro ⟨h1, h2⟩; exact ⟨h1, hasB_false.1 (by simpa using h2)⟩
  · rintro ⟨h1, h2⟩; exact ⟨h1, by simpa using hasB_false.2 h2⟩
theorem inR_rising {a b : List RecT} (h : Rising a) : Rising (inR a b) := List.Pairwise.sublist List.filter_sublist h
theorem woR_rising {a b : List RecT} (h : Rising a) : Rising (woR a b) := List.Pairwise.sublist List.filter_sublist h
theorem in_swap {a b : List RecT} (h1 : Rising a) (h2 : Rising b) : inR a b = inR b a :=
  rising_ext (inR_rising h1) (inR_rising h2) (fun q => by rw [inR_mem, inR_mem]; exact ⟨fun h => ⟨h.2, h.1⟩, fun h => ⟨h.2, h.1⟩⟩)
theorem in_wo_swap {a b : List RecT} (h1 : Rising a) (h2 : Rising b) : (inR a b).length + (woR b a).length = b.length := by
  rw [in_swap h1 h2]; exact in_wo b a
theorem sorted_join {a b : List RecT} (h1 : Rising a) (h2 : Rising b) : sortedR (inR a b ++ woR b a) = b :=
  rising_ext (sortedR_rising _) h2 (fun q => by
    rw [sortedR_mem, List.mem_append, inR_mem, woR_mem]
    constructor
    · rintro (h | h)
      · exact h.2
      · exact h.1
    · intro h
      by_cases hq : q ∈ a
      · exact .inl ⟨hq, h⟩
      · exact .inr ⟨h, hq⟩)
theorem rising_at {l : List RecT} (h : Rising l) {j k : Nat} {x y : RecT} (hj : l[j]? = some x) (hk : l[k]? = some y) (hjk : j < k) : cmpR x y < 0 := by
  obtain ⟨h1, e1⟩ := List.getElem?_eq_some_iff.1 hj
  obtain ⟨h2, e2⟩ := List.getElem?_eq_some_iff.1 hk
  have := List.pairwise_iff_getElem.1 h j k h1 h2 hjk
  rwa [e1, e2] at this
theorem originB_small (n : Nat) : (originB n).size ≤ 254 := by
  unfold originB
  rw [mk_size]
  exact nameZ_le _ (by intro z hz; simp at hz; omega)
end Go.Proofs.YteaeplceahdioaaDoor
