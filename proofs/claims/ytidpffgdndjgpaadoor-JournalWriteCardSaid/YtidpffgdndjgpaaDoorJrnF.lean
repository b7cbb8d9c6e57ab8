/- What a journal's segments are: frames of chunks of records; what is left of them when the last is cut. It speaks of no program. -/
import Derived.Test.YtidpffgdndjgpaaDoorJrnE
namespace Go.Proofs.YtidpffgdndjgpaaDoor
open Go.RowKit
set_option linter.unusedVariables false
set_option linter.unusedSimpArgs false
def segF (ch : List (List (List UInt8))) : List (List UInt8) := ch.map fun xs => xs.flatMap frameL
def chF (ch : List (List (List UInt8))) : List (Nat × List (List UInt8)) := ch.map fun xs => ((xs.flatMap frameL).length, xs)
def Sm6 (ch : List (List (List UInt8))) : Prop := ∀ xs ∈ ch, ∀ x ∈ xs, x.length ≤ 600
theorem firstL_nil : firstL [] = none := by decide +kernel
theorem frm_whole (xs : List (List UInt8)) (h : ∀ x ∈ xs, x.length ≤ 600) : Frm (xs.flatMap frameL) (xs.flatMap frameL).length xs := ⟨⟨Nat.le_refl _, by simp, h⟩, by rw [List.drop_length]; exact firstL_nil⟩
theorem FrmAll.uniq {fs gs : List (Nat × List (List UInt8))} {segs : List (List UInt8)} (h : FrmAll fs segs) (h' : FrmAll gs segs) : fs = gs := by
  refine List.ext_getElem (h.1.trans h'.1.symm) (fun i h1 h2 => ?_)
  have h3 : i < segs.length := by rw [← h.1]; exact h1
  have h4 := (h.2 i fs[i] segs[i] (List.getElem?_eq_getElem h1) (List.getElem?_eq_getElem h3)).one (h'.2 i gs[i] segs[i] (List.getElem?_eq_getElem h2) (List.getElem?_eq_getElem h3))
  exact Prod.ext h4.1 h4.2
theorem frmAll_ch {ch : List (List (List UInt8))} (h : Sm6 ch) : FrmAll (chF ch) (segF ch) := by
  refine ⟨by simp [chF, segF], fun i f s h1 h2 => ?_⟩
  unfold chF at h1
  unfold segF at h2
  rw [List.getElem?_map] at h1 h2
  cases e : ch[i]? with
  | none => rw [e] at h1; cases h1
  | some xs =>
    rw [e] at h1 h2
    simp only [Option.map_some, Option.some.injEq] at h1 h2
    subst h1 h2
    exact frm_whole xs (h xs (List.mem_of_getElem? e))
theorem chF_flat (ch : List (List (List UInt8))) : (chF ch).flatMap (·.2) = ch.flatten := by
  unfold chF; rw [List.flatMap_map]; simp [List.flatMap_def]
theorem wholeB_ch (ch : List (List (List UInt8))) : wholeB (chF ch) (segF ch) = true := by
  unfold wholeB chF segF
  rw [List.zip_map, List.all_map]
  rw [List.all_eq_true]
  intro x hx
  have := List.of_mem_zip hx
  have e : x.1 = x.2 := by
    obtain ⟨i, hi, rfl⟩ := List.getElem_of_mem hx
    simp
  simp [e]
theorem frmAll_take {fs : List (Nat × List (List UInt8))} {segs : List (List UInt8)} (h : FrmAll fs segs) (k : Nat) : FrmAll (fs.take k) (segs.take k) := by
  refine ⟨by simp [h.1], fun i f s h1 h2 => ?_⟩
  by_cases hk : i < k
  · rw [List.getElem?_take_of_lt hk] at h1 h2
    exact h.2 i f s h1 h2
  · rw [List.getElem?_take_eq_none (by omega)] at h1; cases h1
theorem flat_take_le (fs : List (Nat × List (List UInt8))) (k : Nat) : ((fs.take k).flatMap (·.2)).length ≤ (fs.flatMap (·.2)).length := by
  have h : fs.flatMap (·.2) = (fs.take k).flatMap (·.2) ++ (fs.drop k).flatMap (·.2) := by rw [← List.flatMap_append, List.take_append_drop]
  rw [h, List.length_append]; omega
/-- Of the first segments no more is read than of all. -/
theorem read_few {fs : List (Nat × List (List UInt8))} {segs : List (List UInt8)} (h : FrmAll fs segs) {N : Nat} (hN : (fs.flatMap (·.2)).length ≤ N) : ∀ k gs, FrmAll gs (segs.take k) → (gs.flatMap (·.2)).length ≤ N := by
  intro k gs hg
  rw [hg.uniq (frmAll_take h k)]
  exact Nat.le_trans (flat_take_le _ _) hN
theorem Frm.cons {l : List UInt8} {p : Nat} {xs : List (List UInt8)} (h : Frm l p xs) (x : List UInt8) (hx : x.length ≤ 600) : Frm (frameL x ++ l) ((frameL x).length + p) (x :: xs) := by
  obtain ⟨⟨h1, h2, h3⟩, h4⟩ := h
  have hd : (frameL x ++ l).drop ((frameL x).length + p) = l.drop p := by rw [← List.drop_drop, List.drop_left]
  refine ⟨⟨by rw [List.length_append]; omega, ?_, ?_⟩, by rw [hd]; exact h4⟩
  · rw [hd, List.flatMap_cons, List.append_assoc, ← h2]
  · intro y hy
    rcases List.mem_cons.1 hy with rfl | hy
    · exact hx
    · exact h3 y hy
/-- What stands in frames of which only the first bytes are left. -/
theorem torn : ∀ (xs : List (List UInt8)) (q : Nat), (∀ x ∈ xs, x.length ≤ 600) → ∃ m, m ≤ xs.length ∧ Frm ((xs.flatMap frameL).take q) ((xs.take m).flatMap frameL).length (xs.take m) ∧ ∀ k, k ≤ xs.length → ((xs.take k).flatMap frameL).length ≤ q → k ≤ m
  | [], q, _ => ⟨0, Nat.le_refl _, by simpa using frm_nil, fun k hk _ => by simpa using hk⟩
  | x :: xs, q, h => by
    have hx := h x (by simp)
    by_cases hq : q < (frameL x).length
    · refine ⟨0, Nat.zero_le _, ?_, fun k hk hl => ?_⟩
      · have hf : firstL (((x :: xs).flatMap frameL).take q) = none := by
          refine firstL_short x q hx (by rw [frameL_length] at hq; exact hq) ?_
          rw [List.flatMap_cons, List.take_append_of_le_length (by omega)]
        exact ⟨Ahead.start _, by simpa using hf⟩
      · cases k with
        | zero => exact Nat.le_refl _
        | succ k =>
          rw [List.take_succ_cons, List.flatMap_cons, List.length_append] at hl
          omega
    · obtain ⟨m, h1, h2, h3⟩ := torn xs (q - (frameL x).length) (fun y hy => h y (by simp [hy]))
      have ht : ((x :: xs).flatMap frameL).take q = frameL x ++ (xs.flatMap frameL).take (q - (frameL x).length) := by
        rw [List.flatMap_cons, List.take_append, List.take_of_length_le (by omega)]
      refine ⟨m + 1, by simp; omega, ?_, fun k hk hl => ?_⟩
      · rw [ht, List.take_succ_cons, List.flatMap_cons, List.length_append]
        exact h2.cons x hx
      · cases k with
        | zero => exact Nat.zero_le _
        | succ k =>
          rw [List.take_succ_cons, List.flatMap_cons, List.length_append] at hl
          have := h3 k (by simpa using hk) (by omega)
          omega
/-- How a journal stands: its chunks, all that was written, its segments, how much of the last one is safe, how many records were when it was synced, how many deeds there were. -/
structure JS (ch : List (List (List UInt8))) (all : List (List UInt8)) (segs : List (List UInt8)) (safe N k : Nat) : Prop where
  sg : segs = segF ch
  al : all = ch.flatten
  small : Sm6 ch
  short : ∀ s ∈ segs, s.length ≤ 2048
  few : segs.length ≤ k
  many : all.length ≤ k
  le : N ≤ all.length
  sf : (ch = [] ∧ safe = 0 ∧ N = 0) ∨ ∃ init xs m, ch = init ++ [xs] ∧ m ≤ xs.length ∧ safe = ((xs.take m).flatMap frameL).length ∧ N ≤ init.flatten.length + m
theorem JS.start : JS [] [] [] 0 0 0 := ⟨rfl, rfl, (by intro xs h; cases h), (by intro s h; cases h), Nat.le_refl _, Nat.le_refl _, Nat.le_refl _, .inl ⟨rfl, rfl, rfl⟩⟩
section
variable {ch : List (List (List UInt8))} {all segs : List (List UInt8)} {safe N k : Nat}
theorem JS.mono (h : JS ch all segs safe N k) {k' : Nat} (hk : k ≤ k') : JS ch all segs safe N k' := ⟨h.sg, h.al, h.small, h.short, Nat.le_trans h.few hk, Nat.le_trans h.many hk, h.le, h.sf⟩
theorem segF_snoc (init : List (List (List UInt8))) (xs : List (List UInt8)) : segF (init ++ [xs]) = segF init ++ [xs.flatMap frameL] := by simp [segF]
theorem chF_snoc (init : List (List (List UInt8))) (xs : List (List UInt8)) : chF (init ++ [xs]) = chF init ++ [((xs.flatMap frameL).length, xs)] := by simp [chF]
theorem flat_len_take (xs : List (List UInt8)) (m : Nat) : ((xs.take m).flatMap frameL).length ≤ (xs.flatMap frameL).length := by
  have h : xs.flatMap frameL = (xs.take m).flatMap frameL ++ (xs.drop m).flatMap frameL := by rw [← List.flatMap_append, List.take_append_drop]
  rw [h, List.length_append]; omega
theorem JS.safeLe (h : JS ch all segs safe N k) : safe ≤ lastN segs := by
  rcases h.sf with ⟨rfl, rfl, rfl⟩ | ⟨init, xs, m, rfl, h1, rfl, h2⟩
  · exact Nat.zero_le _
  · rw [h.sg, segF_snoc, lastN_snoc]; exact flat_len_take xs m
theorem JS.sync (h : JS ch all segs safe N k) : JS ch all segs (lastN segs) all.length k := by
  refine ⟨h.sg, h.al, h.small, h.short, h.few, h.many, Nat.le_refl _, ?_⟩
  rcases h.sf with ⟨rfl, rfl, rfl⟩ | ⟨init, xs, m, rfl, h1, rfl, h2⟩
  · exact .inl ⟨rfl, by rw [h.sg]; rfl, by rw [h.al]; rfl⟩
  · refine .inr ⟨init, xs, xs.length, rfl, Nat.le_refl _, ?_, ?_⟩
    · rw [h.sg, segF_snoc, lastN_snoc, List.take_length]
    · rw [h.al]; simp
theorem JS.lastLe (h : JS ch all segs safe N k) : lastN segs ≤ 2048 := by
  rcases segs_cases segs with e | ⟨init, s, e⟩
  · rw [e]; exact Nat.zero_le _
  · rw [e, lastN_snoc]; exact h.short s (by rw [e]; simp)
theorem JS.write (h : JS ch all segs safe N k) (l : List UInt8) (hl : l.length ≤ 600) : ∃ ch', JS ch' (all ++ [l]) (wrS segs l) (wrSafe segs safe l) N (k + 1) := by
  have hfl := frameL_length l
  have hll := h.lastLe
  rcases h.sf with ⟨rfl, rfl, rfl⟩ | ⟨init, xs, m, rfl, h1, rfl, h2⟩
  · have hs := h.sg
    have ha := h.al
    obtain rfl : segs = [] := hs
    obtain rfl : all = [] := ha
    have e0 : lastN ([] : List (List UInt8)) = 0 := rfl
    refine ⟨[[l]], ?_, by simp, ?_, ?_, ?_, ?_, by simp, .inr ⟨[], [l], 0, rfl, Nat.zero_le _, ?_, by simp⟩⟩
    · unfold wrS; rw [if_neg (by rw [e0]; omega), appS_nil]; simp [segF]
    · intro ys hy x hx; simp at hy; subst hy; simp at hx; subst hx; exact hl
    · unfold wrS; rw [if_neg (by rw [e0]; omega), appS_nil]; intro s hs; simp at hs; subst hs; omega
    · unfold wrS; rw [if_neg (by rw [e0]; omega), appS_nil]; simp
    · simp
    · unfold wrSafe; rw [if_neg (by rw [e0]; omega), if_pos rfl]; rfl
  · have hs := h.sg
    rw [segF_snoc] at hs
    have hle : lastN segs = (xs.flatMap frameL).length := by rw [hs, lastN_snoc]
    have hlen : segs.length = (segF init).length + 1 := by rw [hs]; simp
    have hfew := h.few
    have hall := h.al
    have hmany := h.many
    have hN := h.le
    by_cases hc : 0 < lastN segs ∧ 2048 < lastN segs + (l.length + 6)
    · have ew : wrS segs l = segs ++ [frameL l] := by unfold wrS; rw [if_pos hc, appS_snoc]; rfl
      refine ⟨(init ++ [xs]) ++ [[l]], ?_, ?_, ?_, ?_, ?_, ?_, ?_, .inr ⟨init ++ [xs], [l], 0, rfl, Nat.zero_le _, ?_, ?_⟩⟩
      · rw [ew, segF_snoc, h.sg]; simp
      · rw [hall]; simp
      · intro ys hy x hx
        rcases List.mem_append.1 hy with hy | hy
        · exact h.small ys hy x hx
        · simp at hy; subst hy; simp at hx; subst hx; exact hl
      · rw [ew]; intro s hs'
        rcases List.mem_append.1 hs' with hs' | hs'
        · exact h.short s hs'
        · simp at hs'; subst hs'; omega
      · rw [ew]; simp; omega
      · simp; omega
      · simp; omega
      · unfold wrSafe; rw [if_pos hc]; rfl
      · rw [List.flatten_append, List.length_append]; have e1 : ([xs] : List (List (List UInt8))).flatten.length = xs.length := by simp
        rw [e1]; omega
    · have ew : wrS segs l = segF init ++ [xs.flatMap frameL ++ frameL l] := by unfold wrS; rw [if_neg hc, hs, appS_snoc]
      refine ⟨init ++ [xs ++ [l]], ?_, ?_, ?_, ?_, ?_, ?_, ?_, .inr ⟨init, xs ++ [l], m, rfl, by simp; omega, ?_, h2⟩⟩
      · rw [ew, segF_snoc]; simp
      · rw [hall]; simp
      · intro ys hy x hx
        rcases List.mem_append.1 hy with hy | hy
        · exact h.small ys (by simp [hy]) x hx
        · simp at hy; subst hy
          rcases List.mem_append.1 hx with hx | hx
          · exact h.small xs (by simp) x hx
          · simp at hx; subst hx; exact hl
      · rw [ew]; intro s hs'
        rcases List.mem_append.1 hs' with hs' | hs'
        · exact h.short s (by rw [hs]; simp [hs'])
        · simp at hs'; subst hs'
          rw [List.length_append, ← hle]
          omega
      · rw [ew]; simp; omega
      · simp; omega
      · simp; omega
      · unfold wrSafe; rw [if_neg hc, if_neg (by rw [hs]; simp), List.take_append_of_le_length h1]
end
end Go.Proofs.YtidpffgdndjgpaaDoor
