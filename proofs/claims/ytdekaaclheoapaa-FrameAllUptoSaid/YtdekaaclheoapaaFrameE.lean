/- frame.All of few bytes. -/
import Derived.Test.YtdekaaclheoapaaFrameD
import Derived.Test.YtdekaaclheoapaaLawFrameT
namespace Go.Proofs.Ytdekaaclheoapaa
open Go.RowKit
set_option linter.unusedVariables false
set_option linter.unusedSimpArgs false
set_option maxRecDepth 20000

theorem rows_info : (Try.prog.info? 22).map (fun i => (i.zero, i.size, i.bytes)) = some (some (.slice none 0 0), 1, 24) := by kernel_rfl
theorem RowsIn.drewN {w : World} {own : Option Nat} {vs : List Value} {ls : List (List UInt8)} (h : RowsIn w own vs ls) (k : Nat) : RowsIn (w.drewN k) own vs ls :=
  RowsIn.keep (w := w) (w' := w.drewN k) (own := own) (own' := own) (Nat.le_refl _) (fun _ _ _ => rfl) (fun _ _ h => h) h
theorem Ahead.many {l : List UInt8} {p : Nat} {xs : List (List UInt8)} (h : Ahead l p xs) : xs.length * 6 ≤ p := by
  have h1 : l.length = (xs.flatMap frameL).length + (l.length - p) := by
    have := congrArg List.length h.2.1
    simpa using this
  have h2 : ∀ ys : List (List UInt8), ys.length * 6 ≤ (ys.flatMap frameL).length := by
    intro ys
    induction ys with
    | nil => simp
    | cons y ys ih => simp only [List.flatMap_cons, List.length_append, frameL_length, List.length_cons]; omega
  have := h2 xs
  have := h.1
  omega
set_option maxHeartbeats 1600000 in
theorem all_any (A : Option Addr) (n c : Nat) (l : List UInt8) (w : World) (hS : Sl w w.heap.size 1 A n (l.map bv)) (hA0 : A = none → n = 0 ∧ c = 0) (hn : n ≤ c) (hN : n ≤ 4194304) :
    Calls Try.prog 40 #[.slice A n c] w fun e w' => ∃ v xs p vs, e = .returned (.tuple #[v, .int .i64 ((p : Nat) : Int)]) ∧ OB w.heap.size w v xs.length vs w' ∧ RowsIn w' v.ownBlock vs xs ∧ Ahead l p xs ∧ firstL (l.drop p) = none := by
  have hl : l.length = n := by simpa using hS.1
  obtain ⟨i0, hi, hz0, hz1, hz2⟩ := info_parts rows_info
  cases A with
  | none =>
    obtain ⟨rfl, rfl⟩ := hA0 rfl
    obtain rfl : l = [] := List.eq_nil_of_length_eq_zero hl
    refine (all_none none 0 0 [] w hS (fun _ => ⟨rfl, rfl⟩) (Nat.le_refl _) (by omega) (by decide +kernel)).mono ?_
    rintro e w' ⟨rfl, k, rfl⟩
    exact ⟨_, [], 0, [], rfl, (OB.start w).drewN k, trivial, Ahead.start [], by decide +kernel⟩
  | some ad =>
  by_cases h0 : n = 0
  · subst h0
    obtain rfl : l = [] := List.eq_nil_of_length_eq_zero hl
    refine (all_none (some ad) 0 c [] w hS (fun h => by cases h) (Nat.zero_le _) (by omega) (by decide +kernel)).mono ?_
    rintro e w' ⟨rfl, k, rfl⟩
    exact ⟨_, [], 0, [], rfl, (OB.start w).drewN k, trivial, Ahead.start [], by decide +kernel⟩
  obtain ⟨b, off, e, hb, -⟩ := hS.2 (by omega)
  obtain rfl := Option.some.inj e
  have HL := Lib.hid hl
  clear e hA0 hl
  go_enter Try.func40, Try.ntmps40
  go_wp2_with fail
  go_loopw [4, 5] (fun v i wr => ∃ (p : Nat) (xs : List (List UInt8)) (vs : List Value), i = .int .i64 p ∧ Hid (Ahead l p xs) ∧ p ≤ n ∧ xs.length * 6 ≤ p ∧ OB w.heap.size w v xs.length vs wr ∧ RowsIn wr v.ownBlock vs xs) (fun _ i _ => n - (intOf i).toNat)
  case atStart => exact ⟨0, [], [], rfl, Lib.hid (Ahead.start l), Nat.zero_le _, by simp, OB.start w, trivial⟩
  case round =>
    obtain ⟨p, xs, vs, rfl, hah, hp, hx6, hob, hrows⟩ := hrel
    have hpi : (p : Int) ≤ n := by omega
    have hpc : (p : Int) ≤ c := by omega
    have hp0 : (0 : Int) ≤ p := by omega
    obtain ⟨n', hn'⟩ : ∃ n', n' = n - p := ⟨_, rfl⟩
    obtain ⟨c', hc'⟩ : ∃ c', c' = c - p := ⟨_, rfl⟩
    have ens : ((n : Int) - p).toNat = n' := by omega
    have ecs : ((c : Int) - p).toNat = c' := by omega
    have hSp : Sl wr wr.heap.size 1 (some ⟨b, off + p, none⟩) n' ((l.drop p).map bv) := by
      have := (hS.part (a := p) (m := n') (by omega)).below hob.below
      rw [List.take_of_length_le (by simp [HL.out]; omega)] at this
      exact this.more hob.base
    have hSq : ∀ ad, n' = 0 → Sl wr wr.heap.size 1 ad n' ((l.drop p).map bv) := fun ad h => by
      rw [List.drop_eq_nil_of_le (by rw [HL.out]; omega), h]; exact Sl.nil _ _ _ _
    cases hf : firstL (l.drop p) with
    | none =>
      have HF := Lib.hid hf
      by_cases hcp : c = p
      · have F1 := Lib.hid ((first_any (some ⟨b, off, none⟩) 0 0 (l.drop p) wr (by have := hSq (some ⟨b, off, none⟩) (by omega); rwa [show n' = 0 by omega] at this) (fun h => by cases h) (by omega) (by omega)).1 hf)
        subst hcp
        clear hf hSp hSq hn' hc'
        go_wp2_with fail
        refine F1.out.mono ?_
        rintro e w1 ⟨rfl, k1, rfl⟩
        go_wp2_with fail
        go_ret2
        exact ⟨_, xs, _, vs, rfl, hob.drewN k1, hrows.drewN k1, hah.out, HF.out⟩
      · have F1 := Lib.hid ((first_any (some ⟨b, off + p, none⟩) (n - p) (c - p) (l.drop p) wr (hn' ▸ hSp) (fun h => by cases h) (by omega) (by omega)).1 hf)
        have hcp2 : ¬ p = c := fun h => hcp h.symm
        clear hf hSp hSq hn' hc'
        go_wp2_with fail
        refine F1.out.mono ?_
        rintro e w1 ⟨rfl, k1, rfl⟩
        go_wp2_with fail
        go_ret2
        exact ⟨_, xs, _, vs, rfl, hob.drewN k1, hrows.drewN k1, hah.out, HF.out⟩
    | some m =>
      obtain ⟨hpm, hnx⟩ := hah.out.next hf
      rw [HL.out] at hpm
      have HN := Lib.hid hnx
      have F1 := Lib.hid ((first_any (some ⟨b, off + p, none⟩) (n - p) (c - p) (l.drop p) wr (hn' ▸ hSp) (fun h => by cases h) (by omega) (by omega)).2 m hf)
      have hcp : ¬ c = p := by omega
      have hcp2 : ¬ p = c := by omega
      have hm600 := (firstL_some hf).1
      have e1 : IntKind.i64.wrap ((p : Int) + 4) = (p : Int) + 4 := IntWalk.i64_in _ (by omega)
      have e2 : IntKind.i64.wrap ((p : Int) + 4 + m) = (p : Int) + 4 + m := IntWalk.i64_in _ (by omega)
      have e3 : ((p : Int) + 4).toNat = p + 4 := by omega
      have e4 : ((p : Int) + 4 + m).toNat = p + 4 + m := by omega
      have hcq : ¬ c = p + 4 := by omega
      have hcq2 : ¬ p + 4 = c := by omega
      have g1 : (0 : Int) ≤ (p : Int) + 4 := by omega
      have g2 : (p : Int) + 4 ≤ (p : Int) + 4 + m := by omega
      have g3 : (p : Int) + 4 + m ≤ c := by omega
      have hSm : Sl wr wr.heap.size 1 (some ⟨b, off + (p + 4), none⟩) m (((l.drop (p + 4)).take m).map bv) := ((hS.part (a := p + 4) (m := m) (by omega)).below hob.below).more hob.base
      have HXL := hx6
      clear hf hSp hSq hn' hc' hnx
      go_wp2_with fail
      refine F1.out.mono ?_
      rintro e w1 ⟨rfl, k1, rfl⟩
      have hob1 := hob.drewN k1
      have hrows1 := hrows.drewN k1
      have hSm1 : Sl (wr.drewN k1) (wr.drewN k1).heap.size 1 (some ⟨b, off + (p + 4), none⟩) m (((l.drop (p + 4)).take m).map bv) := hSm.drewN k1
      generalize hw1 : wr.drewN k1 = w1 at *
      clear hw1 hob hrows hSm F1
      go_wp2_with fail
      obtain ⟨lk, hlk⟩ : ∃ lk, lk = (l.drop (p + 4)).take m := ⟨_, rfl⟩
      rw [← hlk] at hSm1
      have HLK := Lib.hid hlk
      clear hlk
      refine (clone_fresh (some ⟨b, off + (p + 4), none⟩) m (c - (p + 4)) lk w1 hSm1 (fun h => by cases h) (by omega)).mono ?_
      rintro e w2 ⟨v2, rfl, ⟨A2, n2, c2, rfl, htxt, hblk⟩, hb2⟩
      have hob2 := hob1.keep hb2 (Nat.le_refl _)
      have hrows2 := RowsIn.keep hb2.size (fun k hk _ => hb2.block k hk) (fun _ _ h => h) hrows1
      have hlt1 := hob1.lt
      have hs12 := hb2.size
      obtain ⟨W3, hW3⟩ : ∃ W, W = w2.alloc (.cells #[.slice A2 n2 c2] 22) := ⟨_, rfl⟩
      have hob3 := hob2.alloc (.cells #[.slice A2 n2 c2] 22)
      have hba := (Below.refl w2.heap.size w2).alloc (Nat.le_refl _) (.cells #[.slice A2 n2 c2] 22)
      have hfr := Sl.fresh w2 #[.slice A2 n2 c2] 22 1 [.slice A2 n2 c2] rfl rfl
      rw [← hW3] at hob3 hba hfr
      have hs23 := hba.size
      have hz3 : W3.heap.size = w2.heap.size + 1 := by rw [hW3]; simp
      have hrows3 := RowsIn.keep hs23 (fun k hk _ => hba.block k hk) (fun _ _ h => h) hrows2
      have htxt3 : Txt W3 A2 n2 lk := htxt.block (fun a ha => hba.block _ (hblk a ha).2) hs23
      have hsrc := hfr.src (P := Try.prog) (c := 1) Try.underlying73 (fun h => by cases h) (by intro u hu; simp at hu; subst hu; rfl)
      clear hob1 hrows1 hob2 hrows2 htxt hba hfr hb2 hSm1
      go_wp2_with (at_builtin; rw [← hW3]; refine wpList_append_ob rfl (.tmp 19) (.tmp 29) 73 73 rfl 22 i0 (.slice none 0 0) 24 Try.underlying73 hi hz0 hz1 hz2 rfl hob3 rfl rfl hsrc ?c1 ?c2 ?_)
      case c1 => unfold maxLen; omega
      case c2 => omega
      intro v3 w4 hob4 hsz4 hblk4 hown4
      rw [← hW3] at hblk4
      have hrows4 := RowsIn.keep (w := W3) (w' := w4) (own' := v3.ownBlock) (by omega) (fun k hk hne => hblk4 k (by omega) hne) (fun k hk hne => by
        rcases hown4 with h | h
        · rw [h]; exact hne
        · rw [h]; intro e; injection e with e; omega) hrows3
      have hrows5 := RowsIn.snoc hrows4 (v := .slice A2 n2 c2) (l := lk) ⟨A2, n2, c2, rfl, htxt3.block (fun a ha => hblk4 a.block (by have := (hblk a ha).2; omega) (fun e => by have := (hlt1 _ e.symm).2; have := (hblk a ha).1; omega)) (by omega), fun a ha => ⟨by have := (hblk a ha).2; omega, by
        rcases hown4 with h | h
        · rw [h]; exact fun e => by have := (hlt1 _ e.symm).2; have := (hblk a ha).1; omega
        · rw [h]; have := (hblk a ha).2; intro e; injection e with e; omega⟩⟩
      have e5 : IntKind.i64.wrap (4 + (m : Int)) = 4 + (m : Int) := IntWalk.i64_in _ (by omega)
      have e6 : IntKind.i64.wrap (4 + (m : Int) + 2) = 4 + (m : Int) + 2 := IntWalk.i64_in _ (by omega)
      have e7 : IntKind.i64.wrap ((p : Int) + (4 + (m : Int) + 2)) = (p : Int) + (4 + (m : Int) + 2) := IntWalk.i64_in _ (by omega)
      clear hrows4 hrows3 htxt3 hob3 hblk4 hown4 hblk hlt1 hW3 hsrc
      go_wp2_with fail
      go_roundw
      case rel => exact ⟨p + m + 6, xs ++ [lk], vs ++ [.slice A2 n2 c2], by go_num, by rw [HLK.out]; exact HN, by omega, by simp; omega, by simpa using hob4, hrows5⟩
      case measure => simp [intOf]; omega
end Go.Proofs.Ytdekaaclheoapaa
