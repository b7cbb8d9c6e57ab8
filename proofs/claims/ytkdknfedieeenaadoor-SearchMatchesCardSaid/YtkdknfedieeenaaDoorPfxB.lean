/- The contracts of layer 12: Has, May, Key. -/
import Derived.Test.YtkdknfedieeenaaDoorPfxA
import Derived.WalkLawsBesides
namespace Go.Proofs.YtkdknfedieeenaaDoor
open Go.RowKit
set_option linter.unusedVariables false
set_option maxRecDepth 20000

theorem isCut_addr {n : Nat} {m : Int} (h : isCut n m = true) : isAddr n = true ∧ 0 ≤ m ∧ m ≤ 8 * n := by
  simp only [isCut, Bool.and_eq_true, decide_eq_true_eq] at h
  exact ⟨h.1.1, h.1.2, h.2⟩
theorem isAddr_le {n : Nat} (h : isAddr n = true) : n ≤ 16 := by simp [isAddr] at h; omega
theorem pfx_info : (Tryd.prog.info? 5).map (fun i => (i.zero, i.size, i.bytes)) = some (some (.int .u8 0), 1, 1) := by kernel_rfl
/-- Does an address begin with given first bits. -/
def hasB (p : ByteArray) (bits : Int) (a : ByteArray) : Bool := isCut a.size bits && (cutL a.data.toList bits.toNat == p.data.toList)
set_option maxHeartbeats 800000 in
theorem has_any (p : ByteArray) (bits : Int) (a : ByteArray) (w : World) (hs : a.size ≤ 140737488355328) :
    Calls Tryd.prog 16 #[.agg #[.string p, .int .i64 bits], .string a] w fun e w' => e = .returned (.bool (hasB p bits a)) ∧ Below w.heap.size w w' := by
  cases hc : isCut a.size bits with
  | false =>
    have hr : hasB p bits a = false := by simp [hasB, hc]
    rw [hr]
    go_enter Tryd.func16, Tryd.ntmps16
    go_wp2_with fail
    refine (pcut_no a bits _ hs hc).mono ?_
    rintro e w1 ⟨rfl, hb⟩
    have hbel := below_alloc _ (Below.refl _ _) (Nat.le_refl _) hb
    unfold noPrefix
    clear hc hr
    go_wp2_with fail
    go_ret
    refine ⟨rfl, ?_⟩
    have := hbel.size
    exact ((hbel.alloc this _))
  | true =>
    obtain ⟨h1, h2, h3⟩ := isCut_addr hc
    obtain ⟨n, rfl⟩ := Int.eq_ofNat_of_zero_le h2
    have hl : a.data.toList.length = a.size := by simp
    have hy := pcut_yes a.data.toList n (w.alloc (.cells #[.string p, .int .i64 n] 31)) (by rw [hl]; exact h1) (by rw [hl]; omega)
    rw [ba_eta] at hy
    obtain ⟨C, eC⟩ : ∃ C : ByteArray, C = ⟨(cutL a.data.toList n).toArray⟩ := ⟨_, rfl⟩
    rw [← eC] at hy
    have hr : hasB p n a = (C.data.toList == p.data.toList) := by
      unfold hasB
      rw [hc, eC]; simp
    have hq := str_is C p.data.toList
    have hpl : p.toList = p.data.toList := ByteArray.toList_eq p
    have HR := Lib.hid hr
    have HY := Lib.hid hy
    clear hr hy eC hc h1 h2 h3 hl
    cases hd : (C.data.toList == p.data.toList) with
    | true =>
      have hE : C = p := by
        rw [beq_iff_eq] at hd
        apply ByteArray.ext; exact Array.toList_inj.1 hd
      subst hE
      clear hq hpl hd
      go_enter Tryd.func16, Tryd.ntmps16
      go_wp2_with fail
      refine HY.out.mono ?_
      rintro e w1 ⟨rfl, hb⟩
      have hbel := below_alloc _ (Below.refl _ _) (Nat.le_refl _) hb
      have c0 := hb.cell (p := ⟨w.heap.size, 0, none⟩) (by simp)
      have c1 := hb.cell (p := ⟨w.heap.size, 1, none⟩) (by simp)
      have hz := hb.size
      simp at c0 c1 hz
      have hz1 : w.heap.size < w1.heap.size := by omega
      clear hb hz
      go_wp2_with fail
      go_ret
      exact ⟨by rw [HR.out]; simp, hbel.alloc (by omega) _⟩
    | false =>
      have hd1 : (C.toList == p.toList) = false := by rw [hpl, hq]; exact hd
      have HD := Lib.hid hd
      clear hq hpl hd
      go_enter Tryd.func16, Tryd.ntmps16
      go_wp2_with fail
      refine HY.out.mono ?_
      rintro e w1 ⟨rfl, hb⟩
      have hbel := below_alloc _ (Below.refl _ _) (Nat.le_refl _) hb
      have c0 := hb.cell (p := ⟨w.heap.size, 0, none⟩) (by simp)
      have c1 := hb.cell (p := ⟨w.heap.size, 1, none⟩) (by simp)
      have hz := hb.size
      simp at c0 c1 hz
      have hz1 : w.heap.size < w1.heap.size := by omega
      clear hb hz
      go_wp2_with fail
      go_ret
      exact ⟨by rw [HR.out, HD.out]; simp, hbel.alloc (by omega) _⟩
theorem pmay_any (p : ByteArray) (bits : Int) (w : World) (hs : p.size ≤ 140737488355328) :
    Calls Tryd.prog 62 #[.agg #[.string p, .int .i64 bits]] w fun e w' => e = .returned (.bool (hasB p bits p)) ∧ Below w.heap.size w w' := by
  go_enter Tryd.func62, Tryd.ntmps62
  go_wp2_with fail
  refine (has_any p bits p _ hs).mono ?_
  rintro e w1 ⟨rfl, hb⟩
  have hbel := below_alloc _ (Below.refl _ _) (Nat.le_refl _) hb
  go_wp2_with fail
  go_ret
  exact ⟨rfl, hbel⟩
end Go.Proofs.YtkdknfedieeenaaDoor
