/- Texts that walks stand on, one behind the other. -/
import Derived.Test.YtpbbnpglcadimaaDoorMgSC
import Derived.Test.YtpbbnpglcadimaaDoorMgSE
namespace Go.Proofs.YtpbbnpglcadimaaDoor
open Go.RowKit
set_option linter.unusedVariables false
set_option linter.unusedSimpArgs false
theorem nextS_mid {pre mid post : List RecT} {x : RecT} (hm : ∀ r ∈ mid, soaB r = false) (hx : soaB x = true) : nextS (pre ++ (mid ++ x :: post)) pre.length = pre.length + mid.length := by
  unfold nextS
  rw [List.drop_left]
  congr 1
  induction mid with
  | nil => simp [hx]
  | cons a mid ih =>
    have ha := hm a (by simp)
    simp only [List.cons_append, List.takeWhile_cons, ha, Bool.not_false, if_true, List.length_cons]
    rw [ih (fun r hr => hm r (by simp [hr]))]
theorem at_mid {pre post : List RecT} {x : RecT} : (pre ++ x :: post)[pre.length]? = some x := by simp
section
variable (o : ByteArray) (fr : Nat) (rows : List RowA)
def goneR (k : Nat) : List RecT := undersOf o false (rowAt rows (2 * k)) 5
def newR (k : Nat) : List RecT := undersOf o false (rowAt rows (2 * k + 1)) 5
/-- Where a step begins. -/
def posP (k : Nat) : Nat := 1 + (chainK o fr rows k).length
def posT (k : Nat) : Nat := posP o fr rows k + 1 + (goneR o rows k).length
theorem posP_next (k : Nat) : posP o fr rows (k + 1) = posT o fr rows k + 1 + (newR o rows k).length := by
  unfold posT posP
  simp only [chainK, stepR, List.length_append, List.length_cons, List.length_nil, goneR, newR]
  omega
theorem gone_no (k : Nat) : ∀ r ∈ goneR o rows k, soaB r = false := fun r hr => by
  unfold goneR undersOf at hr
  obtain ⟨a, _, rfl⟩ := List.mem_map.1 hr
  have := underR_type o a
  simp [soaB, this]
theorem new_no (k : Nat) : ∀ r ∈ newR o rows k, soaB r = false := fun r hr => by
  unfold newR undersOf at hr
  obtain ⟨a, _, rfl⟩ := List.mem_map.1 hr
  have := underR_type o a
  simp [soaB, this]
theorem soaB_soa (n : Nat) : soaB (soaR o n) = true := rfl
/-- A chain from a step on. -/
theorem chain_from (N : Nat) : ∀ k, k ≤ N → ∃ t, chainR o fr rows N = [soaR o (serP fr N)] ++ chainK o fr rows k ++ soaR o (serP fr k) :: t ∧ (k = N → t = []) := by
  intro k hk
  have key : ∀ j, k ≤ j → j ≤ N → ∃ t, chainK o fr rows j ++ [soaR o (serP fr j)] = chainK o fr rows k ++ soaR o (serP fr k) :: t ∧ (k = j → t = []) := by
    intro j hkj
    induction j with
    | zero =>
      intro _
      have : k = 0 := by omega
      subst this
      exact ⟨[], rfl, fun _ => rfl⟩
    | succ j ih =>
      intro hj
      by_cases e : k = j + 1
      · subst e; exact ⟨[], rfl, fun _ => rfl⟩
      · obtain ⟨t, h1, _⟩ := ih (by omega) (by omega)
        refine ⟨t ++ goneR o rows j ++ [soaR o (serP fr (j + 1))] ++ newR o rows j ++ [soaR o (serP fr (j + 1))], ?_, fun e2 => absurd e2 e⟩
        simp only [chainK, stepR]
        have : chainK o fr rows j ++ ([soaR o (serP fr j)] ++ undersOf o false (rowAt rows (2 * j)) 5 ++ [soaR o (serP fr (j + 1))] ++ undersOf o false (rowAt rows (2 * j + 1)) 5) ++ [soaR o (serP fr (j + 1))] = (chainK o fr rows j ++ [soaR o (serP fr j)]) ++ (goneR o rows j ++ [soaR o (serP fr (j + 1))] ++ newR o rows j ++ [soaR o (serP fr (j + 1))]) := by
          simp [goneR, newR]
        rw [this, h1]
        simp
  obtain ⟨t, h1, h2⟩ := key N hk (Nat.le_refl _)
  refine ⟨t, ?_, h2⟩
  unfold chainR
  rw [List.append_assoc, h1]
  simp
theorem chain_len (N : Nat) : (chainR o fr rows N).length = posP o fr rows N + 1 := by
  unfold chainR posP; simp; omega
theorem posP_le {k N : Nat} (h : k ≤ N) : posP o fr rows k ≤ posP o fr rows N := by
  induction N with
  | zero => have : k = 0 := by omega
            subst this; exact Nat.le_refl _
  | succ N ih =>
    by_cases e : k = N + 1
    · subst e; exact Nat.le_refl _
    · have := ih (by omega)
      rw [posP_next]; unfold posT; omega
/-- A step of the chain. -/
theorem chain_step (N k : Nat) (hk : k < N) : ∃ t, chainR o fr rows N = ([soaR o (serP fr N)] ++ chainK o fr rows k) ++ soaR o (serP fr k) :: (goneR o rows k ++ soaR o (serP fr (k + 1)) :: (newR o rows k ++ soaR o (serP fr (k + 1)) :: t)) := by
  obtain ⟨t, h, _⟩ := chain_from o fr rows N (k + 1) (by omega)
  refine ⟨t, ?_⟩
  rw [h]
  simp only [chainK, stepR, goneR, newR]
  simp
theorem pre_len (N k : Nat) : ([soaR o (serP fr N)] ++ chainK o fr rows k).length = posP o fr rows k := by unfold posP; simp; omega
theorem delta_step (sf : RecT → Nat) (hsf : ∀ n, n < 4294967296 → sf (soaR o n) = n) (N k f : Nat) (hk : k < N) :
    deltaR sf f (chainR o fr rows N) (posP o fr rows k) = if serP fr k = f then .inr (posT o fr rows k, posP o fr rows (k + 1)) else .inl 5 := by
  obtain ⟨t, ht⟩ := chain_step o fr rows N k hk
  have hpl := pre_len o fr rows N k
  have h0 : (chainR o fr rows N)[posP o fr rows k]? = some (soaR o (serP fr k)) := by rw [ht, ← hpl]; exact at_mid
  have h1 : nextS (chainR o fr rows N) (posP o fr rows k + 1) = posT o fr rows k := by
    have e : chainR o fr rows N = (([soaR o (serP fr N)] ++ chainK o fr rows k) ++ [soaR o (serP fr k)]) ++ (goneR o rows k ++ soaR o (serP fr (k + 1)) :: (newR o rows k ++ soaR o (serP fr (k + 1)) :: t)) := by rw [ht]; simp
    have l : ((([soaR o (serP fr N)] ++ chainK o fr rows k) ++ [soaR o (serP fr k)])).length = posP o fr rows k + 1 := by rw [List.length_append, hpl]; rfl
    rw [e, ← l, nextS_mid (gone_no o rows k) (soaB_soa o _), l]; rfl
  have h2 : nextS (chainR o fr rows N) (posT o fr rows k + 1) = posP o fr rows (k + 1) := by
    have e : chainR o fr rows N = ((([soaR o (serP fr N)] ++ chainK o fr rows k) ++ [soaR o (serP fr k)]) ++ goneR o rows k ++ [soaR o (serP fr (k + 1))]) ++ (newR o rows k ++ soaR o (serP fr (k + 1)) :: t) := by rw [ht]; simp
    have l : ((([soaR o (serP fr N)] ++ chainK o fr rows k) ++ [soaR o (serP fr k)]) ++ goneR o rows k ++ [soaR o (serP fr (k + 1))]).length = posT o fr rows k + 1 := by rw [List.length_append, List.length_append, List.length_append, hpl]; unfold posT; simp
    rw [e, ← l, nextS_mid (new_no o rows k) (soaB_soa o _), l, posP_next]
  have hle := posP_le o fr rows (k := k + 1) (N := N) (by omega)
  have hpn := posP_next o fr rows k
  have hlen := chain_len o fr rows N
  unfold deltaR
  rw [h0]
  simp only [soaB_soa, if_true, hsf _ (serP_lt fr k)]
  split
  · rw [h1, if_neg (by omega), h2, Nat.min_eq_left (by omega)]
  · rfl
/-- The deltas' places from a step on. -/
def tripsC (n : Nat) : Nat → List DTrip
  | 0 => []
  | j + 1 => (posP o fr rows n, posT o fr rows n, posP o fr rows (n + 1)) :: tripsC (n + 1) j
theorem tripsC_len : ∀ j n, (tripsC o fr rows n j).length = j
  | 0, n => rfl
  | j + 1, n => by simp [tripsC, tripsC_len j (n + 1)]
theorem tripsC_get : ∀ j n i, i < j → (tripsC o fr rows n j)[i]? = some (posP o fr rows (n + i), posT o fr rows (n + i), posP o fr rows (n + i + 1))
  | 0, n, i, h => by omega
  | j + 1, n, 0, h => by simp [tripsC]
  | j + 1, n, i + 1, h => by
    simp only [tripsC, List.getElem?_cons_succ]
    rw [tripsC_get j (n + 1) i (by omega), show n + 1 + i = n + (i + 1) by omega]
theorem at_T (N k : Nat) (hk : k < N) : rAt (chainR o fr rows N) (posT o fr rows k) = soaR o (serP fr (k + 1)) := by
  obtain ⟨t, ht⟩ := chain_step o fr rows N k hk
  have hpl := pre_len o fr rows N k
  refine rAt_of ?_
  have e : chainR o fr rows N = ((([soaR o (serP fr N)] ++ chainK o fr rows k) ++ [soaR o (serP fr k)]) ++ goneR o rows k) ++ soaR o (serP fr (k + 1)) :: (newR o rows k ++ soaR o (serP fr (k + 1)) :: t) := by rw [ht]; simp
  have l : ((([soaR o (serP fr N)] ++ chainK o fr rows k) ++ [soaR o (serP fr k)]) ++ goneR o rows k).length = posT o fr rows k := by rw [List.length_append, List.length_append, hpl]; rfl
  rw [e, ← l]; exact at_mid
theorem at_P (N k : Nat) (hk : k ≤ N) : rAt (chainR o fr rows N) (posP o fr rows k) = soaR o (serP fr k) := by
  obtain ⟨t, ht, _⟩ := chain_from o fr rows N k hk
  refine rAt_of ?_
  rw [ht, ← pre_len o fr rows N k]
  exact at_mid
theorem deltasG_chain (sf : RecT → Nat) (hsf : ∀ n, n < 4294967296 → sf (soaR o n) = n) (N : Nat) : ∀ j n fuel, n + j = N → j ≤ fuel → deltasG sf (chainR o fr rows N) fuel (serP fr n) (posP o fr rows n) = .inr (tripsC o fr rows n j) := by
  intro j
  induction j with
  | zero =>
    intro n fuel h _
    have : n = N := by omega
    subst this
    rw [deltasG_stop (by rw [chain_len]; omega)]; rfl
  | succ j ih =>
    intro n fuel h hf
    obtain ⟨fuel, rfl⟩ : ∃ f, fuel = f + 1 := ⟨fuel - 1, by omega⟩
    have hlt : posP o fr rows n < (chainR o fr rows N).length - 1 := by
      have h1 := posP_le o fr rows (k := n + 1) (N := N) (by omega)
      have h2 := posP_next o fr rows n
      rw [chain_len]; unfold posT at h2; omega
    unfold deltasG
    rw [if_pos hlt, delta_step o fr rows sf hsf N n _ (by omega), if_pos rfl]
    simp only
    rw [at_T o fr rows N n (by omega), hsf _ (serP_lt _ _), ih (n + 1) fuel (by omega) (by omega)]
    rfl
theorem deltas_chain (sf : RecT → Nat) (hsf : ∀ n, n < 4294967296 → sf (soaR o n) = n) (N : Nat) (h0 : 0 < N) : deltasR sf (serP fr 0) (chainR o fr rows N) = .inr (tripsC o fr rows 0 N) := by
  unfold deltasR
  have hp : posP o fr rows 0 = 1 := rfl
  have := deltasG_chain o fr rows sf hsf N N 0 (chainR o fr rows N).length (by omega) (by
    have h1 : ∀ n, n ≤ posP o fr rows n := fun n => by
      induction n with
      | zero => omega
      | succ n ih => rw [posP_next]; unfold posT; omega
    have := h1 N
    rw [chain_len]; omega)
  rw [hp] at this
  rw [this]
  simp only
  have he : endOk (chainR o fr rows N) (tripsC o fr rows 0 N) = true := by
    unfold endOk
    have hl : (tripsC o fr rows 0 N).getLast? = some (posP o fr rows (N - 1), posT o fr rows (N - 1), posP o fr rows (N - 1 + 1)) := by
      rw [List.getLast?_eq_getElem?, tripsC_len, tripsC_get o fr rows N 0 (N - 1) (by omega)]
      simp
    rw [hl]
    simp only
    have e0 : rAt (chainR o fr rows N) 0 = soaR o (serP fr N) := rAt_of (by unfold chainR; simp)
    have e1 : rAt (chainR o fr rows N) ((chainR o fr rows N).length - 1) = soaR o (serP fr N) := by
      rw [chain_len, Nat.add_sub_cancel]; exact at_P o fr rows N N (Nat.le_refl _)
    rw [e0, e1, at_T o fr rows N (N - 1) (by omega), show N - 1 + 1 = N by omega, eqB_refl]
    rfl
  rw [if_pos he]
theorem deltas_late (sf : RecT → Nat) (hsf : ∀ n, n < 4294967296 → sf (soaR o n) = n) (N f : Nat) (h0 : 0 < N) (hf : f ≠ serP fr 0) : deltasR sf f (chainR o fr rows N) = .inl 5 := by
  unfold deltasR
  have hp : posP o fr rows 0 = 1 := rfl
  have hlt : 1 < (chainR o fr rows N).length - 1 := by
    have h1 := posP_le o fr rows (k := 1) (N := N) (by omega)
    have h2 : posP o fr rows 1 = _ := posP_next o fr rows 0
    unfold posT at h2
    rw [hp] at h2
    rw [chain_len]; omega
  have hd := delta_step o fr rows sf hsf N 0 f h0
  rw [hp, if_neg (fun e => hf e.symm)] at hd
  rw [deltasG_err hlt (by omega) hd]
theorem adm_chain (ho : (labelsOf o).isSome = true) (N : Nat) : admR mayR o (chainR o fr rows N) = true := by
  have hs : ∀ n, admB mayR o (soaR o n) = true := fun n => by
    have := mayR_soa o n ho
    unfold admB
    rw [this]
    obtain ⟨ys, hy⟩ := Option.isSome_iff_exists.1 ho
    have h2 : (stripOf (soaR o n).1 o).isSome = true := strip_self10 hy
    rw [h2]
    have h3 : ((soaR o n).1.toList == o.toList) = true := by simp [soaR]
    rw [h3]; simp
  have hu : ∀ ds, ∀ r ∈ undersOf o false ds 5, admB mayR o r = true := fun ds r hr => by
    unfold undersOf at hr
    obtain ⟨a, _, rfl⟩ := List.mem_map.1 hr
    obtain ⟨h1, h2, h3⟩ := under_ok o a ho
    have h4 : soaB (underR o false a) = false := by have := underR_type o a; simp [soaB, this]
    unfold admB
    rw [h1, h2, h4]; rfl
  have hk : ∀ k, ∀ r ∈ chainK o fr rows k, admB mayR o r = true := by
    intro k
    induction k with
    | zero => intro r hr; cases hr
    | succ k ih =>
      intro r hr
      simp only [chainK, stepR, List.mem_append, List.mem_singleton] at hr
      rcases hr with hr | ((rfl | hr) | rfl) | hr
      · exact ih r hr
      · exact hs _
      · exact hu _ r hr
      · exact hs _
      · exact hu _ r hr
  unfold admR
  have h1 : (chainR o fr rows N).all (admB mayR o) = true := by
    rw [List.all_eq_true]
    intro r hr
    unfold chainR at hr
    simp only [List.mem_append, List.mem_singleton] at hr
    rcases hr with (rfl | hr) | rfl
    · exact hs _
    · exact hk N r hr
    · exact hs _
  rw [h1]
  unfold chainR
  simp [soaB_soa]
theorem full_chain (m : RecT → Bool) (N : Nat) (h0 : 0 < N) : fullR m o (chainR o fr rows N) = false := by
  have hlen := chain_len o fr rows N
  obtain ⟨t, ht⟩ := chain_step o fr rows N 0 h0
  have hc : chainK o fr rows 0 = [] := rfl
  rw [hc] at ht
  simp only [List.append_nil, List.singleton_append] at ht
  rw [ht]
  obtain ⟨X, hX⟩ : ∃ X, goneR o rows 0 ++ soaR o (serP fr (0 + 1)) :: (newR o rows 0 ++ soaR o (serP fr (0 + 1)) :: t) = X := ⟨_, rfl⟩
  have hXl : 0 < X.length := by rw [← hX]; simp; omega
  rw [hX]
  unfold fullR
  simp only
  have : ((List.drop 1 (soaR o (serP fr N) :: soaR o (serP fr 0) :: X)).take X.length).any soaB = true := by
    rw [List.any_eq_true]
    refine ⟨soaR o (serP fr 0), ?_, soaB_soa o _⟩
    obtain ⟨n, hn⟩ : ∃ n, X.length = n + 1 := ⟨X.length - 1, by omega⟩
    rw [hn]
    simp
  first
    | (rw [this]; simp)
    | (simp at this ⊢; simp [this])
theorem part_chain (sf : RecT → Nat) (hsf : ∀ n, n < 4294967296 → sf (soaR o n) = n) (ho : (labelsOf o).isSome = true) (N : Nat) (h0 : 0 < N) : partR mayR sf o (serP fr 0) (chainR o fr rows N) = .inr (some (some (tripsC o fr rows 0 N))) := by
  unfold partR
  have hl : (chainR o fr rows N).length ≠ 1 := by
    have h1 := posP_le o fr rows (k := 0) (N := N) (by omega)
    have : posP o fr rows 0 = 1 := rfl
    rw [chain_len]; omega
  rw [if_pos (adm_chain o fr rows ho N), if_neg hl, full_chain o fr rows mayR N h0, if_neg (by simp), deltas_chain o fr rows sf hsf N h0]
theorem part_late (sf : RecT → Nat) (hsf : ∀ n, n < 4294967296 → sf (soaR o n) = n) (ho : (labelsOf o).isSome = true) (N f : Nat) (h0 : 0 < N) (hf : f ≠ serP fr 0) : partR mayR sf o f (chainR o fr rows N) = .inl 5 := by
  unfold partR
  have hl : (chainR o fr rows N).length ≠ 1 := by
    have h1 := posP_le o fr rows (k := 0) (N := N) (by omega)
    have : posP o fr rows 0 = 1 := rfl
    rw [chain_len]; omega
  rw [if_pos (adm_chain o fr rows ho N), if_neg hl, full_chain o fr rows mayR N h0, if_neg (by simp), deltas_late o fr rows sf hsf N f h0 hf]
theorem part_none (sf : RecT → Nat) (ho : (labelsOf o).isSome = true) (f : Nat) : partR mayR sf o f (chainR o fr rows 0) = .inr (some none) := by
  unfold partR
  have ha := adm_chain o fr rows ho 0
  have hc : chainR o fr rows 0 = [soaR o (serP fr 0), soaR o (serP fr 0)] := rfl
  rw [hc] at ha ⊢
  have hf : fullR mayR o [soaR o (serP fr 0), soaR o (serP fr 0)] = true := by
    unfold fullR
    simp only
    rw [ha]
    simp [eqB_refl]
  rw [if_pos ha, if_neg (by simp), if_pos hf]
theorem gone_at (N k : Nat) (hk : k < N) : ((chainR o fr rows N).drop (posP o fr rows k + 1)).take (posT o fr rows k - (posP o fr rows k + 1)) = goneR o rows k := by
  obtain ⟨t, ht⟩ := chain_step o fr rows N k hk
  have hpl := pre_len o fr rows N k
  have e : chainR o fr rows N = (([soaR o (serP fr N)] ++ chainK o fr rows k) ++ [soaR o (serP fr k)]) ++ (goneR o rows k ++ soaR o (serP fr (k + 1)) :: (newR o rows k ++ soaR o (serP fr (k + 1)) :: t)) := by rw [ht]; simp
  have l : ((([soaR o (serP fr N)] ++ chainK o fr rows k) ++ [soaR o (serP fr k)])).length = posP o fr rows k + 1 := by rw [List.length_append, hpl]; rfl
  rw [e, ← l, List.drop_left, l]
  have : posT o fr rows k - (posP o fr rows k + 1) = (goneR o rows k).length := by unfold posT; omega
  rw [this, List.take_left]
theorem new_at (N k : Nat) (hk : k < N) : ((chainR o fr rows N).drop (posT o fr rows k + 1)).take (posP o fr rows (k + 1) - (posT o fr rows k + 1)) = newR o rows k := by
  obtain ⟨t, ht⟩ := chain_step o fr rows N k hk
  have hpl := pre_len o fr rows N k
  have e : chainR o fr rows N = ((([soaR o (serP fr N)] ++ chainK o fr rows k) ++ [soaR o (serP fr k)]) ++ goneR o rows k ++ [soaR o (serP fr (k + 1))]) ++ (newR o rows k ++ soaR o (serP fr (k + 1)) :: t) := by rw [ht]; simp
  have l : ((([soaR o (serP fr N)] ++ chainK o fr rows k) ++ [soaR o (serP fr k)]) ++ goneR o rows k ++ [soaR o (serP fr (k + 1))]).length = posT o fr rows k + 1 := by rw [List.length_append, List.length_append, List.length_append, hpl]; unfold posT; simp
  rw [e, ← l, List.drop_left, l]
  have : posP o fr rows (k + 1) - (posT o fr rows k + 1) = (newR o rows k).length := by rw [posP_next]; omega
  rw [this, List.take_left]
end
end Go.Proofs.YtpbbnpglcadimaaDoor
