/- Triggers that may be: their labels are a name's, and are read as they are. It speaks of no program. -/
import Derived.Test.YtodpaejakgjblaaDoorOwnM
namespace Go.Proofs.YtodpaejakgjblaaDoor
set_option linter.unusedVariables false

theorem dig_ok : ∀ k : Fin 16, isUp (dig k.val) = false := by decide +kernel
theorem digsF_ok (b : Nat) (hb : 2 ≤ b ∧ b ≤ 16) : ∀ (f n : Nat), n < b ^ (f + 1) → (digsF f b n).all (fun c => !isUp c) = true
  | 0, n, h => by
    have hn : n < 16 := by rw [Nat.zero_add, Nat.pow_one] at h; omega
    have := dig_ok ⟨n, hn⟩
    simp only at this
    simp [digsF, this]
  | f + 1, n, h => by
    rw [digsF]
    split
    · have hn : n < 16 := by omega
      have := dig_ok ⟨n, hn⟩
      simp only at this
      simp [this]
    · have h1 := digsF_ok b hb f (n / b) (Nat.div_lt_of_lt_mul (by rw [Nat.mul_comm]; rw [Nat.pow_succ] at h; exact h))
      have h2 : n % b < 16 := by have := Nat.mod_lt n (show 0 < b by omega); omega
      have := dig_ok ⟨n % b, h2⟩
      simp only at this
      rw [List.all_append, h1]
      simp [this]
theorem digs_label {f b n : Nat} (hb : 2 ≤ b ∧ b ≤ 16) (h : n < b ^ (f + 1)) (hf : f ≤ 3) : okLabel (digsF f b n) = true ∧ (digsF f b n).length ≤ 4 := by
  have h1 := digsF_len f b n
  have h2 : 1 ≤ (digsF f b n).length := List.length_pos_iff.2 (digsF_ne f b n)
  refine ⟨?_, by omega⟩
  unfold okLabel
  rw [digsF_ok b hb f n h]
  simp; omega
theorem dec_label {n : Nat} (h : n < 256) : okLabel (dec n) = true ∧ (dec n).length ≤ 4 := digs_label (by omega) (by omega) (by omega)
theorem hex_label {n : Nat} (h : n < 65536) : okLabel (hex n) = true ∧ (hex n).length ≤ 4 := digs_label (by omega) (by omega) (by omega)
theorem prefix_labels {a : List UInt8} {bits : Int} : ∀ x ∈ prefixR a bits, okLabel x = true ∧ x.length ≤ 4 := by
  intro y hy
  unfold prefixR at hy
  split at hy
  · rename_i hm
    obtain ⟨h1, h2, h3⟩ := isCut_four (mayP_cut hm)
    unfold prefixL at hy
    simp only [List.mem_cons, List.mem_reverse] at hy
    rcases hy with rfl | hy
    · exact dec_label (by rcases h1 with h1 | h1 <;> rw [h1] at h3 <;> omega)
    · unfold body at hy
      split at hy
      · unfold body6 at hy
        obtain ⟨o, _, rfl⟩ := List.mem_map.1 hy
        cases o with
        | none => exact ⟨show okLabel zz = true by decide, show zz.length ≤ 4 by decide⟩
        | some k =>
          refine hex_label ?_
          rw [List.getD_eq_getElem?_getD]
          rcases Nat.lt_or_ge k (wordsL a).length with hk | hk
          · rw [List.getElem?_eq_getElem hk]; exact wordsL_lt a _ (List.getElem_mem hk)
          · rw [List.getElem?_eq_none hk]; simp
      · obtain ⟨c, _, rfl⟩ := List.mem_map.1 hy
        exact dec_label c.toNat_lt
  · cases hy
theorem short_wire : ∀ (ls : List (List UInt8)) (m : Nat), (∀ x ∈ ls, x.length ≤ m) → (wire ls).length ≤ (m + 1) * ls.length
  | [], _, _ => by simp [wire]
  | l :: ls, m, h => by
    have h1 := short_wire ls m (fun x hx => h x (by simp [hx]))
    have h2 := h l (by simp)
    rw [wire_cons]
    simp only [List.length_append, List.length_cons]
    rw [Nat.mul_add]
    omega
/-- A trigger whose labels are a name's, and are read as it. -/
structure GoodT (t : Trig) : Prop where
  ok : OkLs (labT t)
  ne : labT t ≠ []
  dec : decL (labT t) = some t
theorem GoodT.enc {t : Trig} (h : GoodT t) : encR t = some (wire (labT t)) := enc_of_dec h.ok h.ne h.dec
theorem GoodT.dec' {t : Trig} (h : GoodT t) : decR (wire (labT t)) = some t := dec_enc h.enc
theorem GoodT.labels {t : Trig} (h : GoodT t) : nameLabels (wire (labT t)) = some (labT t) := h.ok.labels
theorem getLastD_snoc {α : Type} (l : List α) (x d : α) : (l ++ [x]).getLastD d = x := by rw [List.getLastD_eq_getLast?]; simp
theorem good_pfx {k : Int} {a : List UInt8} {bits : Int} (hm : mayP a bits = true) (hk : k = 0 ∨ k = 3 ∨ k = 6) : GoodT ⟨k, [], a, bits⟩ := by
  obtain ⟨c, hc, hck, hl⟩ : ∃ c, (c = cClient ∨ c = cAnswer ∨ c = cNsip) ∧ kindOf c = some k ∧ labT ⟨k, [], a, bits⟩ = prefixR a bits ++ [c] := by
    rcases hk with rfl | rfl | rfl
    · exact ⟨cClient, .inl rfl, rfl, rfl⟩
    · exact ⟨cAnswer, .inr (.inl rfl), rfl, rfl⟩
    · exact ⟨cNsip, .inr (.inr rfl), rfl, rfl⟩
  have hcl : okLabel c = true ∧ c.length ≤ 13 := by rcases hc with rfl | rfl | rfl <;> decide
  have hpl := prefixR_len a bits
  refine ⟨?_, ?_, ?_⟩
  · rw [hl]
    refine ⟨?_, ?_⟩
    · intro x hx
      simp only [List.mem_append, List.mem_cons, List.not_mem_nil, or_false] at hx
      rcases hx with hx | rfl
      · exact (prefix_labels x hx).1
      · exact hcl.1
    · rw [wire_append, List.length_append]
      have h1 := short_wire (prefixR a bits) 4 (fun x hx => (prefix_labels x hx).2)
      have h2 := short_wire [c] 13 (by intro x hx; simp at hx; subst hx; exact hcl.2)
      simp only [List.length_cons, List.length_nil] at h2
      omega
  · rw [hl]; simp
  · rw [hl]
    unfold decL
    rw [getLastD_snoc, hck, List.dropLast_concat]
    simp only
    rw [if_neg (by rcases hk with rfl | rfl | rfl <;> decide), addr_prefix hm]
    rfl
def five : List (List UInt8) := [[97], [98], [119, 119, 119], [101, 120], [111, 114, 103]]
theorem five_ok : ∀ x ∈ five, okLabel x = true ∧ x ≠ star ∧ kindOf x = none ∧ x.length ≤ 3 := by decide
/-- Labels of the five, five at most. -/
structure FewX (X : List (List UInt8)) : Prop where
  mem : ∀ x ∈ X, x ∈ five
  len : X.length ≤ 5
theorem FewX.ok {X : List (List UInt8)} (h : FewX X) : OkLs X := by
  refine ⟨fun x hx => (five_ok x (h.mem x hx)).1, ?_⟩
  have := short_wire X 3 (fun x hx => (five_ok x (h.mem x hx)).2.2.2)
  have := h.len
  omega
theorem FewX.name {X : List (List UInt8)} (h : FewX X) : nameLabels ((makeL X).getD []) = some X := by rw [h.ok.make]; exact h.ok.labels
theorem FewX.more {X : List (List UInt8)} (h : FewX X) (p q : List (List UInt8)) (hp : ∀ x ∈ p ++ q, okLabel x = true ∧ x.length ≤ 20) (hl : (p ++ q).length ≤ 2) : OkLs (p ++ (X ++ q)) := by
  refine ⟨?_, ?_⟩
  · intro x hx
    simp only [List.mem_append] at hx
    rcases hx with hx | hx | hx
    · exact (hp x (by simp [hx])).1
    · exact (five_ok x (h.mem x hx)).1
    · exact (hp x (by simp [hx])).1
  · rw [wire_append, wire_append]
    have h1 := short_wire X 3 (fun x hx => (five_ok x (h.mem x hx)).2.2.2)
    have h2 := short_wire p 20 (fun x hx => (hp x (by simp [hx])).2)
    have h3 := short_wire q 20 (fun x hx => (hp x (by simp [hx])).2)
    have := h.len
    simp only [List.length_append] at hl ⊢
    omega
theorem good_name {k : Int} {X : List (List UInt8)} (h : FewX X) (hk : k = 1 ∨ k = 2 ∨ k = 4 ∨ k = 5) (hne : k = 1 ∨ k = 4 → X ≠ []) : GoodT ⟨k, (makeL X).getD [], [], 0⟩ := by
  have hn := h.name
  have hns : ∀ x r, X = x :: r → x ≠ star := fun x r e => (five_ok x (h.mem x (by rw [e]; simp))).2.1
  have hX : ∀ e d : Int, X ≠ [] → namedR X e d = some ⟨e, (makeL X).getD [], [], 0⟩ := by
    intro e d hX
    cases X with
    | nil => exact absurd rfl hX
    | cons x r => unfold namedR; simp only [if_neg (hns x r rfl)]
  have hS : ∀ e d : Int, namedR (star :: X) e d = some ⟨d, (makeL X).getD [], [], 0⟩ := fun e d => by simp only [namedR]; rfl
  have hlast : X ≠ [] → kindOf (X.getLastD []) = none := by
    intro hX
    have : X.getLastD [] ∈ X := by
      have := last_split [] hX
      rw [this]; simp
    exact (five_ok _ (h.mem _ this)).2.2.1
  rcases hk with rfl | rfl | rfl | rfl
  · have hl : labT ⟨1, (makeL X).getD [], [], 0⟩ = X := by show (nameLabels _).getD [] = X; rw [hn]; rfl
    have hX' := hne (.inl rfl)
    refine ⟨by rw [hl]; exact h.ok, by rw [hl]; exact hX', ?_⟩
    rw [hl]; unfold decL; rw [hlast hX']; exact hX 1 2 hX'
  · have hl : labT ⟨2, (makeL X).getD [], [], 0⟩ = star :: X := by show star :: (nameLabels _).getD [] = _; rw [hn]; rfl
    refine ⟨?_, by rw [hl]; simp, ?_⟩
    · rw [hl]
      have := h.more [star] [] (by decide) (by decide)
      simpa using this
    · rw [hl]; unfold decL
      have : kindOf ((star :: X).getLastD []) = none := by
        by_cases hX' : X = []
        · subst hX'; decide
        · have e : (star :: X).getLastD [] = X.getLastD [] := by
            cases X with
            | nil => exact absurd rfl hX'
            | cons x r => rfl
          rw [e]; exact hlast hX'
      rw [this]; exact hS 1 2
  · have hl : labT ⟨4, (makeL X).getD [], [], 0⟩ = X ++ [cNsname] := by show (nameLabels _).getD [] ++ [cNsname] = _; rw [hn]; rfl
    have hX' := hne (.inr rfl)
    refine ⟨?_, by rw [hl]; simp, ?_⟩
    · rw [hl]
      have := h.more [] [cNsname] (by decide) (by decide)
      simpa using this
    · rw [hl]; unfold decL
      rw [getLastD_snoc, show kindOf cNsname = some 4 from rfl, List.dropLast_concat]
      exact hX 4 5 hX'
  · have hl : labT ⟨5, (makeL X).getD [], [], 0⟩ = star :: (X ++ [cNsname]) := by show star :: ((nameLabels _).getD [] ++ [cNsname]) = _; rw [hn]; rfl
    refine ⟨?_, by rw [hl]; simp, ?_⟩
    · rw [hl]
      have := h.more [star] [cNsname] (by decide) (by decide)
      simpa using this
    · rw [hl]; unfold decL
      rw [show star :: (X ++ [cNsname]) = (star :: X) ++ [cNsname] by rfl, getLastD_snoc, show kindOf cNsname = some 4 from rfl, List.dropLast_concat]
      exact hS 4 5
end Go.Proofs.YtodpaejakgjblaaDoor
