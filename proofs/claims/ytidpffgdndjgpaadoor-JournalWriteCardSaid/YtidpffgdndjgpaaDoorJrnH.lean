/- A journal whose last segment is torn: what is read of it, and what is left when it is recovered. -/
import Derived.Test.YtidpffgdndjgpaaDoorJrnG
namespace Go.Proofs.YtidpffgdndjgpaaDoor
open Go.RowKit
set_option linter.unusedVariables false
set_option linter.unusedSimpArgs false
set_option maxRecDepth 20000
/-- Segments whose frames are those of chunks, the last one's with something behind them. -/
def Torn (ch : List (List (List UInt8))) (segs : List (List UInt8)) : Prop := Sm6 ch ∧ ((ch = [] ∧ segs = []) ∨ ∃ init ys s, ch = init ++ [ys] ∧ segs = segF init ++ [s] ∧ Frm s (ys.flatMap frameL).length ys)
theorem Torn.whole {ch : List (List (List UInt8))} (h : Sm6 ch) : Torn ch (segF ch) := by
  refine ⟨h, ?_⟩
  rcases segs_cases ch with rfl | ⟨init, ys, rfl⟩
  · exact .inl ⟨rfl, rfl⟩
  · exact .inr ⟨init, ys, _, rfl, segF_snoc init ys, frm_whole ys (h ys (by simp))⟩
theorem Torn.frames {ch : List (List (List UInt8))} {segs : List (List UInt8)} (h : Torn ch segs) : ∃ fs, FrmAll fs segs ∧ fs.flatMap (·.2) = ch.flatten := by
  obtain ⟨h6, h⟩ := h
  rcases h with ⟨rfl, rfl⟩ | ⟨init, ys, s, rfl, rfl, hf⟩
  · exact ⟨[], ⟨rfl, by intro i f s h1; simp at h1⟩, rfl⟩
  · refine ⟨chF init ++ [((ys.flatMap frameL).length, ys)], (frmAll_ch (fun xs hx => h6 xs (by simp [hx]))).snoc hf, ?_⟩
    rw [List.flatMap_append, chF_flat, List.flatten_append]; simp
theorem Torn.len {ch : List (List (List UInt8))} {segs : List (List UInt8)} (h : Torn ch segs) : segs.length = ch.length := by
  rcases h.2 with ⟨rfl, rfl⟩ | ⟨init, ys, s, rfl, rfl, hf⟩
  · rfl
  · simp [segF]
section
variable {ch : List (List (List UInt8))} {all segs : List (List UInt8)} {safe N k : Nat}
theorem JS.cut (h : JS ch all segs safe N k) (K : Nat) : ∃ ch2, Torn ch2 (cutS segs (safe + K)) ∧ JS ch2 ch2.flatten (segF ch2) (lastN (segF ch2)) ch2.flatten.length k ∧ N ≤ ch2.flatten.length ∧ ch2.flatten.length ≤ all.length ∧
    (∀ (i : Nat) (x : List UInt8), ch2.flatten[i]? = some x → all[i]? = some x) ∧ lastN (segF ch2) ≤ lastN (cutS segs (safe + K)) ∧ (∀ x ∈ cutS segs (safe + K), x.length ≤ 2048) := by
  rcases h.sf with ⟨rfl, rfl, rfl⟩ | ⟨init, xs, m, rfl, h1, hs, h2⟩
  · have e : segs = [] := h.sg
    subst e
    exact ⟨[], ⟨h.small, .inl ⟨rfl, rfl⟩⟩, JS.start.mono (Nat.zero_le _), Nat.zero_le _, Nat.zero_le _, by intro i x hx; simp at hx, Nat.le_refl _, by intro x hx; cases hx⟩
  · obtain ⟨m', g1, g2, g3⟩ := torn xs (safe + K) (h.small xs (by simp))
    have hm := g3 m h1 (by rw [← hs]; omega)
    have hsg := h.sg
    rw [segF_snoc] at hsg
    have hcut : cutS segs (safe + K) = segF init ++ [(xs.flatMap frameL).take (safe + K)] := by rw [hsg, cutS_snoc]
    have h6 : Sm6 (init ++ [xs.take m']) := by
      intro ys hy x hx
      rcases List.mem_append.1 hy with hy | hy
      · exact h.small ys (by simp [hy]) x hx
      · simp at hy; subst hy
        exact h.small xs (by simp) x (List.mem_of_mem_take hx)
    have hlx : (xs.flatMap frameL).length ≤ 2048 := h.short _ (by rw [hsg]; simp)
    have hlt : ((xs.take m').flatMap frameL).length ≤ (xs.flatMap frameL).length := flat_len_take xs m'
    have hal := h.al
    have hfl : (init ++ [xs.take m']).flatten = init.flatten ++ xs.take m' := by simp
    have hfa : (init ++ [xs]).flatten = init.flatten ++ xs := by simp
    rw [hfa] at hal
    have hmany := h.many
    have hfew := h.few
    have hlen : segs.length = (segF init).length + 1 := by rw [hsg]; simp
    have hal2 : all.length = init.flatten.length + xs.length := by rw [hal, List.length_append]
    have hR : (init ++ [xs.take m']).flatten.length = init.flatten.length + m' := by rw [hfl, List.length_append, List.length_take]; omega
    refine ⟨init ++ [xs.take m'], ⟨h6, .inr ⟨init, xs.take m', _, rfl, hcut, g2⟩⟩, ?_, by rw [hR]; omega, by rw [hR]; omega, ?_, ?_, ?_⟩
    · refine ⟨rfl, rfl, h6, ?_, ?_, by rw [hR]; omega, Nat.le_refl _, .inr ⟨init, xs.take m', (xs.take m').length, rfl, Nat.le_refl _, ?_, ?_⟩⟩
      · intro s hs'
        rw [segF_snoc] at hs'
        rcases List.mem_append.1 hs' with hs' | hs'
        · exact h.short s (by rw [hsg]; simp [hs'])
        · simp only [List.mem_singleton] at hs'; rw [hs']; omega
      · rw [segF_snoc, List.length_append]; simp only [List.length_singleton]; omega
      · rw [segF_snoc, lastN_snoc, List.take_length]
      · rw [hR, List.length_take]; omega
    · intro i x hx
      rw [hfl] at hx
      rw [hal]
      by_cases hi : i < init.flatten.length
      · rw [List.getElem?_append_left hi] at hx ⊢; exact hx
      · rw [List.getElem?_append_right (by omega)] at hx ⊢
        by_cases hi2 : i - init.flatten.length < m'
        · rw [List.getElem?_take_of_lt hi2] at hx; exact hx
        · rw [List.getElem?_take_eq_none (by omega)] at hx; cases hx
    · rw [segF_snoc, lastN_snoc, hcut, lastN_snoc]
      have := g2.1.1
      exact this
    · rw [hcut]
      intro x hx
      rcases List.mem_append.1 hx with hx | hx
      · exact h.short x (by rw [hsg]; simp [hx])
      · simp only [List.mem_singleton] at hx; rw [hx, List.length_take]; omega
end
section
variable {F : Nat → Prop} {B : Nat} {W : World} {d j : Nat} {segs : List (List UInt8)} {safe writes : Nat} {w w' : World} {ch : List (List (List UInt8))}
theorem ahead_2048 (hx : ∀ x ∈ segs, x.length ≤ 2048) : ∀ x ∈ segs, ∀ p xs, Ahead x p xs → xs.length ≤ 4194304 := by
  intro x h p xs ha
  have := ahead_many ha
  have := hx x h
  omega
theorem read_torn (h : DevE F B W d segs safe writes w) (ht : Torn ch segs) (hn : segs.length ≤ 5000000000000) (hx : ∀ x ∈ segs, x.length ≤ 2048) (hm : ch.flatten.length ≤ 5000000000000) :
    Calls Tryd.prog 9 #[.pointer (some ⟨d, 0, none⟩)] w fun e w' => ∃ v vs b, e = .returned (.tuple #[v, .bool b]) ∧ Cp w.heap.size w ch.flatten v vs w' ∧ (segs = segF ch → b = true) := by
  obtain ⟨fs, h1, h2⟩ := ht.frames
  refine (read_gen h (by omega) (fun x q => by have := hx x q; omega) (ahead_2048 hx) (read_few h1 (by rw [h2]; exact hm))).mono ?_
  rintro e w' ⟨v, vs, fs', rfl, hcp, hfa⟩
  obtain rfl := hfa.uniq h1
  rw [h2] at hcp
  refine ⟨v, vs, _, rfl, hcp, fun e => ?_⟩
  subst e
  obtain rfl := h1.uniq (frmAll_ch ht.1)
  exact wholeB_ch ch
theorem take_frm {s : List UInt8} {ys : List (List UInt8)} {p : Nat} (h : Frm s p ys) : p = (ys.flatMap frameL).length ∧ s.take p = ys.flatMap frameL := by
  obtain ⟨⟨h1, h2, h3⟩, h4⟩ := h
  have hl := congrArg List.length h2
  rw [List.length_append, List.length_drop] at hl
  have hp : p = (ys.flatMap frameL).length := by omega
  refine ⟨hp, ?_⟩
  rw [h2, hp, List.take_left]
theorem rec_torn (h : DevE F B W d segs safe writes w) (hj : Jn2 F d j w) (ht : Torn ch segs) (hs : safe ≤ lastN segs) (hn : segs.length ≤ 5000000000000) (hx : ∀ x ∈ segs, x.length ≤ 2048) :
    Calls Tryd.prog 13 #[.pointer (some ⟨j, 0, none⟩)] w fun e w' => e = .returned (.int .i64 ((lastN segs - lastN (segF ch) : Nat) : Int)) ∧ DevE F B W d (segF ch) (lastN (segF ch)) writes w' ∧ Keep F w w' := by
  rcases ht.2 with ⟨rfl, rfl⟩ | ⟨init, ys, s, rfl, rfl, hf⟩
  · have e0 : lastN ([] : List (List UInt8)) = 0 := rfl
    have e1 : segF [] = [] := rfl
    rw [e0] at hs
    obtain rfl : safe = 0 := by omega
    refine (recover_nil h hj).mono ?_
    rintro e w' ⟨q1, q2⟩
    rw [e1, e0]
    exact ⟨q1, h.keep q2, Keep.below h.fl q2⟩
  · rw [lastN_snoc] at hs
    refine (recover_gen (segF init) s h hj hs (by simp at hn; omega) (fun x q => by have := hx x q; omega) (fun p xs ha => ahead_2048 hx s (by simp) p xs ha)).mono ?_
    rintro e w' ⟨p, xs, rfl, hf2, q2, q3⟩
    obtain ⟨rfl, rfl⟩ := hf2.one hf
    obtain ⟨-, e2⟩ := take_frm hf2
    rw [e2] at q2
    rw [segF_snoc, lastN_snoc, lastN_snoc]
    exact ⟨rfl, q2, q3⟩
end
end Go.Proofs.YtidpffgdndjgpaaDoor
