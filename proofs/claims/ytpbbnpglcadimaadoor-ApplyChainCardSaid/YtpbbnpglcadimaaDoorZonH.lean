/- Records sorted: each once, in order; one put in, one taken out. It speaks of no program. -/
import Derived.Test.YtpbbnpglcadimaaDoorZonG
namespace Go.Proofs.YtpbbnpglcadimaaDoor
open Go.RowKit
set_option linter.unusedVariables false
set_option linter.unusedSimpArgs false
theorem takeWhile_all {α : Type} {p : α → Bool} : ∀ {l : List α} {a : α}, a ∈ l.takeWhile p → p a = true
  | [], _, h => by simp at h
  | x :: l, a, h => by
    by_cases hx : p x = true
    · rw [List.takeWhile_cons_of_pos hx] at h
      rcases List.mem_cons.1 h with rfl | h
      · exact hx
      · exact takeWhile_all h
    · rw [List.takeWhile_cons_of_neg hx] at h; cases h
theorem insR_has (out : List RecT) (r : RecT) : r ∈ insR out r := by unfold insR; simp
theorem insR_keeps {out : List RecT} {r q : RecT} (h : q ∈ out) : q ∈ insR out r := by
  rw [← List.takeWhile_append_dropWhile (p := lowB r) (l := out)] at h
  unfold insR
  rcases List.mem_append.1 h with h | h
  · exact List.mem_append.2 (.inl h)
  · exact List.mem_append.2 (.inr (List.mem_cons_of_mem _ h))
theorem stepS_cases (out : List RecT) (r : RecT) : (stepS out r = out ∧ r ∈ out) ∨ stepS out r = insR out r := by
  unfold stepS
  split
  · rename_i q l h
    split
    · rename_i he
      left
      refine ⟨rfl, ?_⟩
      have := (eqB_iff q r).1 he
      rw [← this]
      exact (List.dropWhile_sublist (lowB r)).mem (by rw [h]; simp)
    · right; rfl
  · right; rfl
theorem stepS_new {out : List RecT} {r : RecT} (h : r ∉ out) : stepS out r = insR out r := by
  rcases stepS_cases out r with ⟨_, h'⟩ | h'
  · exact absurd h' h
  · exact h'
theorem stepS_has (out : List RecT) (r : RecT) : r ∈ stepS out r := by
  rcases stepS_cases out r with ⟨h, h'⟩ | h
  · rw [h]; exact h'
  · rw [h]; exact insR_has _ _
theorem stepS_keeps {out : List RecT} {r q : RecT} (h : q ∈ out) : q ∈ stepS out r := by
  rcases stepS_cases out r with ⟨h', _⟩ | h'
  · rw [h']; exact h
  · rw [h']; exact insR_keeps h
theorem foldl_keeps : ∀ (rs out : List RecT) (q : RecT), q ∈ out ∨ q ∈ rs → q ∈ rs.foldl stepS out
  | [], out, q, h => by
    rcases h with h | h
    · exact h
    · cases h
  | r :: rs, out, q, h => by
    refine foldl_keeps rs (stepS out r) q ?_
    rcases h with h | h
    · exact .inl (stepS_keeps h)
    · rcases List.mem_cons.1 h with h | h
      · exact .inl (by rw [h]; exact stepS_has _ _)
      · exact .inr h
theorem sortedR_has {rs : List RecT} {q : RecT} (h : q ∈ rs) : q ∈ sortedR rs := foldl_keeps rs [] q (.inr h)
/-- In order, each once. -/
def Rising (l : List RecT) : Prop := l.Pairwise fun a b => cmpR a b < 0
theorem insR_rising {out : List RecT} {r : RecT} (h : Rising out) (hr : r ∉ out) : Rising (insR out r) := by
  unfold Rising at h ⊢
  rw [← List.takeWhile_append_dropWhile (p := lowB r) (l := out), List.pairwise_append] at h
  obtain ⟨h1, h2, h3⟩ := h
  have hlow : ∀ a ∈ out.takeWhile (lowB r), cmpR a r < 0 := by
    intro a ha
    have := takeWhile_all ha
    unfold lowB at this
    simpa using this
  have hhigh : ∀ b ∈ out.dropWhile (lowB r), cmpR r b < 0 := by
    intro b hb
    have hsub : b ∈ out := (List.dropWhile_sublist (lowB r)).mem hb
    have hne : cmpR r b ≠ 0 := by
      intro e
      have := (cmpR_is.zero _ _).1 e
      rw [this] at hr
      exact hr hsub
    -- the first of them is not lower than r
    cases hd : out.dropWhile (lowB r) with
    | nil => rw [hd] at hb; cases hb
    | cons q l =>
      have hq : lowB r q = false := by
        have := List.head?_dropWhile_not (lowB r) out
        rw [hd] at this
        simpa using this
      have hq0 : cmpR q r ≥ 0 := by unfold lowB at hq; simp at hq; omega
      have hrq : cmpR r q ≤ 0 := by have := cmpR_is.swap q r; omega
      rw [hd] at hb h2
      rcases List.mem_cons.1 hb with rfl | hb
      · omega
      · have hqb := (List.pairwise_cons.1 h2).1 b hb
        exact cmpR_is.lt_of_le_lt hrq hqb
  unfold insR
  rw [List.pairwise_append]
  refine ⟨h1, List.pairwise_cons.2 ⟨hhigh, h2⟩, fun a ha b hb => ?_⟩
  rcases List.mem_cons.1 hb with rfl | hb
  · exact hlow a ha
  · exact h3 a ha b hb
theorem stepS_old {out : List RecT} {r : RecT} (h : Rising out) (hr : r ∈ out) : stepS out r = out := by
  rw [← List.takeWhile_append_dropWhile (p := lowB r) (l := out)] at hr
  have hr2 : r ∈ out.dropWhile (lowB r) := by
    rcases List.mem_append.1 hr with h' | h'
    · have := takeWhile_all h'
      unfold lowB at this
      rw [cmpR_is.refl] at this
      simp at this
    · exact h'
  unfold Rising at h
  rw [← List.takeWhile_append_dropWhile (p := lowB r) (l := out), List.pairwise_append] at h
  obtain ⟨-, h2, -⟩ := h
  unfold stepS
  cases hd : out.dropWhile (lowB r) with
  | nil => rw [hd] at hr2; cases hr2
  | cons q l =>
    have hq : lowB r q = false := by
      have := List.head?_dropWhile_not (lowB r) out
      rw [hd] at this
      simpa using this
    have hqr : q = r := by
      rw [hd] at hr2 h2
      rcases List.mem_cons.1 hr2 with h' | h'
      · exact h'.symm
      · have := (List.pairwise_cons.1 h2).1 r h'
        unfold lowB at hq
        simp at hq
        omega
    dsimp only
    rw [(eqB_iff q r).2 hqr]
    simp
theorem foldl_rising : ∀ (rs out : List RecT), Rising out → Rising (rs.foldl stepS out)
  | [], _, h => h
  | r :: rs, out, h => by
    refine foldl_rising rs (stepS out r) ?_
    by_cases hr : r ∈ out
    · rw [stepS_old h hr]; exact h
    · rw [stepS_new hr]; exact insR_rising h hr
theorem sortedR_rising (rs : List RecT) : Rising (sortedR rs) := foldl_rising rs [] List.Pairwise.nil
/-- Records but one. -/
def lessR (z : List RecT) (s : RecT) : List RecT := z.filter fun x => !eqB x s
theorem lessR_at {z : List RecT} {s : RecT} {k : Nat} (h : Rising z) (hk : z[k]? = some s) (hn : s ∉ z.take k) : z.take k ++ z.drop (k + 1) = lessR z s := by
  have hlt := (List.getElem?_eq_some_iff.1 hk).1
  have he : z[k] = s := by rw [List.getElem?_eq_getElem hlt] at hk; injection hk
  have hz : z = z.take k ++ s :: z.drop (k + 1) := by
    conv => lhs; rw [← List.take_append_drop k z, List.drop_eq_getElem_cons hlt, he]
  have hs2 : s ∉ z.drop (k + 1) := by
    unfold Rising at h
    rw [hz, List.pairwise_append] at h
    intro hm
    have h3 := (List.pairwise_cons.1 h.2.1).1 s
    have := h3 hm
    rw [cmpR_is.refl] at this
    omega
  have f1 : ∀ l : List RecT, s ∉ l → l.filter (fun x => !eqB x s) = l := by
    intro l hl
    rw [List.filter_eq_self]
    intro x hx
    cases e : eqB x s with
    | false => rfl
    | true => rw [(eqB_iff x s).1 e] at hx; exact absurd hx hl
  unfold lessR
  conv => rhs; rw [hz]
  rw [List.filter_append, List.filter_cons, (eqB_iff s s).2 rfl, f1 _ hn, f1 _ hs2]
  simp
theorem lessR_none {z : List RecT} {s : RecT} (h : s ∉ z) : lessR z s = z := by
  unfold lessR
  rw [List.filter_eq_self]
  intro x hx
  cases e : eqB x s with
  | false => rfl
  | true => rw [(eqB_iff x s).1 e] at hx; exact absurd hx h
theorem lessR_next {z : List RecT} {s : RecT} {k : Nat} {r : RecT} (h : z[k]? = some r) : lessR (z.take (k + 1)) s = lessR (z.take k) s ++ (if eqB r s then [] else [r]) := by
  unfold lessR
  rw [List.take_add_one, h, List.filter_append]
  cases e : eqB r s <;> simp [e]
end Go.Proofs.YtpbbnpglcadimaaDoor
