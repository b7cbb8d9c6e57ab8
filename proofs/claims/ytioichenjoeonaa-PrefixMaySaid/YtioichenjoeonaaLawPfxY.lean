/- The walk of PrefixMay. -/
import Derived.Test.YtioichenjoeonaaLawPfxA
namespace Go.Proofs.Ytioichenjoeonaa
open Go.RowKit
set_option linter.unusedVariables false
theorem hasB_none (p a : ByteArray) (bits : Int) (h : hasB p bits p = false) : hasB p bits a = false := by
  rw [Bool.eq_false_iff]
  intro h2
  have h3 : hasB p bits p = true := by
    unfold hasB at h2 ⊢
    simp only [Bool.and_eq_true, beq_iff_eq] at h2 ⊢
    obtain ⟨hc, he⟩ := h2
    obtain ⟨h4, h5, h6⟩ := isCut_addr hc
    have hs : p.size = a.size := by
      have := congrArg List.length he
      rw [cutL_length] at this
      simpa using this.symm
    refine ⟨by rw [hs]; exact hc, ?_⟩
    rw [← he]
    exact cutL_cutL _ _ (by rw [show a.data.toList.length = a.size by simp]; omega)
  rw [h] at h3; cases h3
set_option maxHeartbeats 1600000 in
theorem prefixMay_walk (w : World) (p : ByteArray) (hp : p.size ≤ 140737488351232) (bits : Int) (hb : (Lit.int .i64 bits).wf = true) (a : ByteArray) (ha : a.size ≤ 140737488351232) :
    Calls Try.prog 5 #[.agg #[.string p, .int .i64 bits], .string a] w fun e w' => e = .returned (.bool true) ∧ Below w.heap.size w w' := by
  have hmay := fun w => may_any p bits w (by omega)
  have hhas := fun w => has_any p bits a w (by omega)
  have HMAY := Lib.hid hmay
  have HHAS := Lib.hid hhas
  clear hmay hhas
  obtain ⟨C, ok, n, hcut, his⟩ : ∃ (C : ByteArray) (ok : Bool) (n : Int), (∀ w, Calls Try.prog 16 #[.string p, .int .i64 bits] w fun e w' => e = .returned (.tuple #[.agg #[.string C, .int .i64 n], .bool ok]) ∧ Below w.heap.size w w') ∧
      ((ok = true ∧ n = bits ∧ hasB p bits p = (C.toList == p.toList)) ∨ (ok = false ∧ hasB p bits p = false)) := by
    cases hc : isCut p.size bits with
    | false => exact ⟨⟨#[]⟩, false, 0, fun w => pcut_no p bits w (by omega) hc, .inr ⟨rfl, by simp [hasB, hc]⟩⟩
    | true =>
      obtain ⟨h1, h2, h3⟩ := isCut_addr hc
      obtain ⟨n, rfl⟩ := Int.eq_ofNat_of_zero_le h2
      have hl : p.data.toList.length = p.size := by simp
      have hy := fun w => pcut_yes p.data.toList n w (by rw [hl]; exact h1) (by rw [hl]; omega)
      rw [ba_eta] at hy
      refine ⟨⟨(cutL p.data.toList n).toArray⟩, true, n, hy, .inl ⟨rfl, rfl, ?_⟩⟩
      unfold hasB
      rw [hc, ByteArray.toList_eq, ByteArray.toList_eq]; simp
  have HCUT := Lib.hid hcut
  clear hcut hb
  have start : ∀ (is : Bool), hasB p bits p = is → Hid (hasB p bits p = is) := fun is h => Lib.hid h
  rcases his with ⟨rfl, rfl, hi⟩ | ⟨rfl, hi⟩
  · cases hd : (C.toList == p.toList) with
    | true =>
      rw [hd] at hi
      have hE : C = p := by
        rw [beq_iff_eq, ByteArray.toList_eq, ByteArray.toList_eq] at hd
        apply ByteArray.ext; exact Array.toList_inj.1 hd
      subst hE
      have HI := Lib.hid hi
      clear hd hi start
      go_enter Try.func5, Try.ntmps5
      go_wp2_with fail
      refine (awake12_any _).mono ?_
      rintro e w1 ⟨rfl, hb1⟩
      have c0 := hb1.cell (p := ⟨w.heap.size, 0, none⟩) (by simp)
      have c1 := hb1.cell (p := ⟨w.heap.size, 1, none⟩) (by simp)
      have hz1 := hb1.size
      have hB1 := below_alloc _ (Below.refl _ _) (Nat.le_refl _) hb1
      simp at c0 c1 hz1
      have hlt1 : w.heap.size < w1.heap.size := by omega
      clear hb1
      go_wp2_with fail
      refine (HCUT.out _).mono ?_
      rintro e w2 ⟨rfl, hb2⟩
      have d0 := (hb2.cell (p := ⟨w.heap.size, 0, none⟩) hlt1).trans c0
      have d1 := (hb2.cell (p := ⟨w.heap.size, 1, none⟩) hlt1).trans c1
      have hB2 := hB1.trans (hb2.mono hB1.size)
      have hlt2 : w.heap.size < w2.heap.size := Nat.lt_of_lt_of_le hlt1 hb2.size
      clear hb2 c0 c1
      go_wp2_with fail
      refine (HMAY.out _).mono ?_
      rw [HI.out]
      rintro e w3 ⟨rfl, hb3⟩
      have hB3 := below_alloc _ hB2 hB2.size hb3
      go_wp2_with fail
      go_ret
      exact ⟨rfl, hB3⟩
    | false =>
      rw [hd] at hi
      have HI := Lib.hid hi
      have HN := Lib.hid (hasB_none p a n hi)
      have HKEY := Lib.hid (fun w => key_no p n w (by omega) hi)
      clear hi start
      go_enter Try.func5, Try.ntmps5
      go_wp2_with fail
      refine (awake12_any _).mono ?_
      rintro e w1 ⟨rfl, hb1⟩
      have c0 := hb1.cell (p := ⟨w.heap.size, 0, none⟩) (by simp)
      have c1 := hb1.cell (p := ⟨w.heap.size, 1, none⟩) (by simp)
      have hz1 := hb1.size
      have hB1 := below_alloc _ (Below.refl _ _) (Nat.le_refl _) hb1
      simp at c0 c1 hz1
      have hlt1 : w.heap.size < w1.heap.size := by omega
      clear hb1
      go_wp2_with fail
      refine (HCUT.out _).mono ?_
      rintro e w2 ⟨rfl, hb2⟩
      have d0 := (hb2.cell (p := ⟨w.heap.size, 0, none⟩) hlt1).trans c0
      have d1 := (hb2.cell (p := ⟨w.heap.size, 1, none⟩) hlt1).trans c1
      have hB2 := hB1.trans (hb2.mono hB1.size)
      have hlt2 : w.heap.size < w2.heap.size := Nat.lt_of_lt_of_le hlt1 hb2.size
      clear hb2 c0 c1
      go_wp2_with fail
      refine (HMAY.out _).mono ?_
      rw [HI.out]
      rintro e w3 ⟨rfl, hb3⟩
      have hB3 := below_alloc _ hB2 hB2.size hb3
      have f0 := (hb3.cell (p := ⟨w.heap.size, 0, none⟩) (by simp; omega)).trans ((World.cell?_alloc_lt w2 _ ⟨w.heap.size, 0, none⟩ hlt2).trans d0)
      have f1 := (hb3.cell (p := ⟨w.heap.size, 1, none⟩) (by simp; omega)).trans ((World.cell?_alloc_lt w2 _ ⟨w.heap.size, 1, none⟩ hlt2).trans d1)
      have hz3 := hb3.size
      simp at hz3
      have hlt3 : w.heap.size < w3.heap.size := by omega
      clear hb3
      go_wp2_with fail
      refine (HHAS.out _).mono ?_
      rw [HN.out]
      rintro e w4 ⟨rfl, hb4⟩
      have g0 := (hb4.cell (p := ⟨w.heap.size, 0, none⟩) hlt3).trans f0
      have g1 := (hb4.cell (p := ⟨w.heap.size, 1, none⟩) hlt3).trans f1
      have hB4 := hB3.trans (hb4.mono hB3.size)
      go_wp2_with fail
      refine (HKEY.out _).mono ?_
      rintro e w5 ⟨rfl, hb5⟩
      have hB5 := hB4.trans (hb5.mono hB4.size)
      go_wp2_with fail
      go_ret
      exact ⟨rfl, hB5⟩
  · have HI := Lib.hid hi
    have HN := Lib.hid (hasB_none p a bits hi)
    have HKEY := Lib.hid (fun w => key_no p bits w (by omega) hi)
    clear hi start
    go_enter Try.func5, Try.ntmps5
    go_wp2_with fail
    refine (awake12_any _).mono ?_
    rintro e w1 ⟨rfl, hb1⟩
    have c0 := hb1.cell (p := ⟨w.heap.size, 0, none⟩) (by simp)
    have c1 := hb1.cell (p := ⟨w.heap.size, 1, none⟩) (by simp)
    have hz1 := hb1.size
    have hB1 := below_alloc _ (Below.refl _ _) (Nat.le_refl _) hb1
    simp at c0 c1 hz1
    have hlt1 : w.heap.size < w1.heap.size := by omega
    clear hb1
    go_wp2_with fail
    refine (HCUT.out _).mono ?_
    rintro e w2 ⟨rfl, hb2⟩
    have d0 := (hb2.cell (p := ⟨w.heap.size, 0, none⟩) hlt1).trans c0
    have d1 := (hb2.cell (p := ⟨w.heap.size, 1, none⟩) hlt1).trans c1
    have hB2 := hB1.trans (hb2.mono hB1.size)
    have hlt2 : w.heap.size < w2.heap.size := Nat.lt_of_lt_of_le hlt1 hb2.size
    clear hb2 c0 c1
    go_wp2_with fail
    refine (HMAY.out _).mono ?_
    rw [HI.out]
    rintro e w3 ⟨rfl, hb3⟩
    have hB3 := below_alloc _ hB2 hB2.size hb3
    have f0 := (hb3.cell (p := ⟨w.heap.size, 0, none⟩) (by simp; omega)).trans ((World.cell?_alloc_lt w2 _ ⟨w.heap.size, 0, none⟩ hlt2).trans d0)
    have f1 := (hb3.cell (p := ⟨w.heap.size, 1, none⟩) (by simp; omega)).trans ((World.cell?_alloc_lt w2 _ ⟨w.heap.size, 1, none⟩ hlt2).trans d1)
    have hz3 := hb3.size
    simp at hz3
    have hlt3 : w.heap.size < w3.heap.size := by omega
    clear hb3
    go_wp2_with fail
    refine (HHAS.out _).mono ?_
    rw [HN.out]
    rintro e w4 ⟨rfl, hb4⟩
    have g0 := (hb4.cell (p := ⟨w.heap.size, 0, none⟩) hlt3).trans f0
    have g1 := (hb4.cell (p := ⟨w.heap.size, 1, none⟩) hlt3).trans f1
    have hB4 := hB3.trans (hb4.mono hB3.size)
    go_wp2_with fail
    refine (HKEY.out _).mono ?_
    rintro e w5 ⟨rfl, hb5⟩
    have hB5 := hB4.trans (hb5.mono hB4.size)
    go_wp2_with fail
    go_ret
    exact ⟨rfl, hB5⟩
end Go.Proofs.Ytioichenjoeonaa
