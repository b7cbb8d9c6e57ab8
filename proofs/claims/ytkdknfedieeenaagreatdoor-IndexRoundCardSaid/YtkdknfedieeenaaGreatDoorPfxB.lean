/- The contracts of layer 12: Has, May, Key. -/
import Derived.Test.YtkdknfedieeenaaGreatDoorPfxA
import Derived.WalkLawsBesides
namespace Go.Proofs.YtkdknfedieeenaaGreatDoor
open Go.RowKit
set_option linter.unusedVariables false
set_option maxRecDepth 20000

theorem isCut_addr {n : Nat} {m : Int} (h : isCut n m = true) : isAddr n = true ∧ 0 ≤ m ∧ m ≤ 8 * n := by
  simp only [isCut, Bool.and_eq_true, decide_eq_true_eq] at h
  exact ⟨h.1.1, h.1.2, h.2⟩
theorem isAddr_le {n : Nat} (h : isAddr n = true) : n ≤ 16 := by simp [isAddr] at h; omega
theorem pfx_info : (Tryz.prog.info? 5).map (fun i => (i.zero, i.size, i.bytes)) = some (some (.int .u8 0), 1, 1) := by kernel_rfl
/-- Does an address begin with given first bits. -/
def hasB (p : ByteArray) (bits : Int) (a : ByteArray) : Bool := isCut a.size bits && (cutL a.data.toList bits.toNat == p.data.toList)
set_option maxHeartbeats 800000 in
theorem has_any (p : ByteArray) (bits : Int) (a : ByteArray) (w : World) (hs : a.size ≤ 140737488355328) :
    Calls Tryz.prog 70 #[.agg #[.string p, .int .i64 bits], .string a] w fun e w' => e = .returned (.bool (hasB p bits a)) ∧ Below w.heap.size w w' := by
  cases hc : isCut a.size bits with
  | false =>
    have hr : hasB p bits a = false := by simp [hasB, hc]
    rw [hr]
    go_enter Tryz.func70, Tryz.ntmps70
    go_wp2_with fail
    refine (pcut_no a bits _ hs hc).mono ?_
    rintro e w1 ⟨rfl, hb⟩
    have hbel := below_alloc _ (Below.refl _ _) (Nat.le_refl _) hb
    unfold noPrefix
    clear hc hr
    go_wp2_with fail
    go_ret
    refine ⟨rfl, ?_⟩
    have := hbel.size
    exact ((hbel.alloc this _))
  | true =>
    obtain ⟨h1, h2, h3⟩ := isCut_addr hc
    obtain ⟨n, rfl⟩ := Int.eq_ofNat_of_zero_le h2
    have hl : a.data.toList.length = a.size := by simp
    have hy := pcut_yes a.data.toList n (w.alloc (.cells #[.string p, .int .i64 n] 44)) (by rw [hl]; exact h1) (by rw [hl]; omega)
    rw [ba_eta] at hy
    obtain ⟨C, eC⟩ : ∃ C : ByteArray, C = ⟨(cutL a.data.toList n).toArray⟩ := ⟨_, rfl⟩
    rw [← eC] at hy
    have hr : hasB p n a = (C.data.toList == p.data.toList) := by
      unfold hasB
      rw [hc, eC]; simp
    have hq := str_is C p.data.toList
    have hpl : p.toList = p.data.toList := ByteArray.toList_eq p
    have HR := Lib.hid hr
    have HY := Lib.hid hy
    clear hr hy eC hc h1 h2 h3 hl
    cases hd : (C.data.toList == p.data.toList) with
    | true =>
      have hE : C = p := by
        rw [beq_iff_eq] at hd
        apply ByteArray.ext; exact Array.toList_inj.1 hd
      subst hE
      clear hq hpl hd
      go_enter Tryz.func70, Tryz.ntmps70
      go_wp2_with fail
      refine HY.out.mono ?_
      rintro e w1 ⟨rfl, hb⟩
      have hbel := below_alloc _ (Below.refl _ _) (Nat.le_refl _) hb
      have c0 := hb.cell (p := ⟨w.heap.size, 0, none⟩) (by simp)
      have c1 := hb.cell (p := ⟨w.heap.size, 1, none⟩) (by simp)
      have hz := hb.size
      simp at c0 c1 hz
      have hz1 : w.heap.size < w1.heap.size := by omega
      clear hb hz
      go_wp2_with fail
      go_ret
      exact ⟨by rw [HR.out]; simp, hbel.alloc (by omega) _⟩
    | false =>
      have hd1 : (C.toList == p.toList) = false := by rw [hpl, hq]; exact hd
      have HD := Lib.hid hd
      clear hq hpl hd
      go_enter Tryz.func70, Tryz.ntmps70
      go_wp2_with fail
      refine HY.out.mono ?_
      rintro e w1 ⟨rfl, hb⟩
      have hbel := below_alloc _ (Below.refl _ _) (Nat.le_refl _) hb
      have c0 := hb.cell (p := ⟨w.heap.size, 0, none⟩) (by simp)
      have c1 := hb.cell (p := ⟨w.heap.size, 1, none⟩) (by simp)
      have hz := hb.size
      simp at c0 c1 hz
      have hz1 : w.heap.size < w1.heap.size := by omega
      clear hb hz
      go_wp2_with fail
      go_ret
      exact ⟨by rw [HR.out, HD.out]; simp, hbel.alloc (by omega) _⟩
theorem pmay_any (p : ByteArray) (bits : Int) (w : World) (hs : p.size ≤ 140737488355328) :
    Calls Tryz.prog 94 #[.agg #[.string p, .int .i64 bits]] w fun e w' => e = .returned (.bool (hasB p bits p)) ∧ Below w.heap.size w w' := by
  go_enter Tryz.func94, Tryz.ntmps94
  go_wp2_with fail
  refine (has_any p bits p _ hs).mono ?_
  rintro e w1 ⟨rfl, hb⟩
  have hbel := below_alloc _ (Below.refl _ _) (Nat.le_refl _) hb
  go_wp2_with fail
  go_ret
  exact ⟨rfl, hbel⟩
theorem key_val (c e : Nat) (hc : c < 256) : Value.int .u8 ((48 + bits BinOp.and .u8 ((c : Int) / 2 ^ e) 1) % 256) = bv (sign1 (c / 2 ^ e % 2 == 1)) := by
  have h1 : c / 2 ^ e ≤ c := Nat.div_le_self _ _
  rw [show (c : Int) / 2 ^ e = ((c / 2 ^ e : Nat) : Int) by simp, show (1 : Int) = ((1 : Nat) : Int) by rfl, u8_and_nat _ _ (by omega) (by omega), nat_mask1]
  generalize c / 2 ^ e = q
  rcases Nat.mod_two_eq_zero_or_one q with h | h <;> rw [h] <;> rfl
theorem key_no (p : ByteArray) (bits : Int) (w : World) (hs : p.size ≤ 140737488355328) (h : hasB p bits p = false) :
    Calls Tryz.prog 59 #[.agg #[.string p, .int .i64 bits]] w fun e w' => e = .returned (.string ⟨#[]⟩) ∧ Below w.heap.size w w' := by
  have hm := pmay_any p bits (w.alloc (.cells #[.string p, .int .i64 bits] 44)) hs
  rw [h] at hm
  have HM := Lib.hid hm
  clear hm h
  go_enter Tryz.func59, Tryz.ntmps59
  go_wp2_with fail
  refine HM.out.mono ?_
  rintro e w1 ⟨rfl, hb⟩
  have hbel := below_alloc _ (Below.refl _ _) (Nat.le_refl _) hb
  go_wp2_with fail
  go_ret
  exact ⟨rfl, hbel⟩
set_option maxHeartbeats 800000 in
theorem key_yes (l : List UInt8) (n : Nat) (w : World) (h : hasB ⟨l.toArray⟩ n ⟨l.toArray⟩ = true) :
    Calls Tryz.prog 59 #[.agg #[.string ⟨l.toArray⟩, .int .i64 n]] w fun e w' => e = .returned (.string ⟨(signs ((bitsL l).take n)).toArray⟩) ∧ Below w.heap.size w w' := by
  have hc : isCut (⟨l.toArray⟩ : ByteArray).size n = true := by simp only [hasB, Bool.and_eq_true] at h; exact h.1
  obtain ⟨h1, h2, h3⟩ := isCut_addr hc
  rw [mk_size] at h1 h3
  have hl16 := isAddr_le h1
  have hm := pmay_any ⟨l.toArray⟩ n (w.alloc (.cells #[.string ⟨l.toArray⟩, .int .i64 n] 44)) (by rw [mk_size]; omega)
  rw [h] at hm
  obtain ⟨S, eS⟩ : ∃ S : ByteArray, S = ⟨l.toArray⟩ := ⟨_, rfl⟩
  have hSs : S.size = l.length := by rw [eS, mk_size]
  have hSg : ∀ i (h : i < S.size) (h' : i < l.length), S[i] = l[i] := by intro i h h'; subst eS; rfl
  rw [← eS] at hm ⊢
  obtain ⟨i0, hi, hi0, hi1, hi2⟩ := info_parts pfx_info
  have HM := Lib.hid hm
  have HSS := Lib.hid hSs
  have HSG := Lib.hid hSg
  obtain ⟨N, eN⟩ : ∃ N, N = l.length := ⟨_, rfl⟩
  have EN := Lib.hid eN
  have hS16 : S.size ≤ 16 := by omega
  have hnS : n ≤ 8 * S.size := by omega
  clear hm hSs hSg h hc h1 h2 h3 eS eN hl16
  go_enter Tryz.func59, Tryz.ntmps59
  go_wp2_with fail
  refine HM.out.mono ?_
  rintro e w1 ⟨rfl, hb⟩
  have hbel := below_alloc _ (Below.refl _ _) (Nat.le_refl _) hb
  have c0 := hb.cell (p := ⟨w.heap.size, 0, none⟩) (by simp)
  have c1 := hb.cell (p := ⟨w.heap.size, 1, none⟩) (by simp)
  have hz := hb.size
  simp at c0 c1 hz
  have hz1 : w.heap.size < w1.heap.size := by omega
  clear hb hz
  go_wp2_with (first
    | (at_make; refine wpList_make_full _ rfl _ _ 23 rfl w1.heap.size 5 i0 (.int .u8 0) 1 Tryz.underlying23 hi hi0 hi1 _ _ _ _ n rfl rfl (by omega) (by omega) (by rw [hi2]; omega) (by unfold maxLen; omega) (by simp) ?_; intro w2 hown2 hg2))
  rw [show (madeCells (Value.int .u8 0).cells (n * 1)).toList = (List.replicate n (0 : UInt8)).map bv by rw [Nat.mul_one, List.map_replicate]; exact toList_madeCells_one _ _] at hown2
  have hob := OB.of_own hown2 (below_grown_none (Below.refl _ _) hg2 (Nat.le_refl _)) hg2.size
  clear hown2 hg2
  have hbl : (bitsL l).length = 8 * S.size := by rw [bitsL_length, ← EN.out, HSS.out, EN.out]
  have HBL := Lib.hid hbl
  clear hbl
  go_loopw [13] (fun i wr => ∃ k : Nat, k ≤ n ∧ i = .int .i64 k ∧ OB w1.heap.size w1 (.slice (some ⟨w1.heap.size, 0, none⟩) n n) n ((keyL (bitsL l) n k).map bv) wr) (fun i _ => n - (intOf i).toNat)
  case atStart => exact ⟨0, Nat.zero_le _, rfl, by rw [keyL_zero]; exact hob⟩
  case round =>
    obtain ⟨k, hk, rfl, hb⟩ := hrel
    by_cases hlt : k < n
    · have hkS : k / 8 < S.size := by omega
      have hkl : k / 8 < l.length := by rw [← HSS.out]; exact hkS
      have hget := keyL_get (bitsL l) n k hlt (by rw [HBL.out]; omega)
      have hset := keyL_set (bitsL l) n k _ hlt (bitsL_get l k hkl)
      rw [← HSG.out (k / 8) hkS hkl] at hset
      have hcell := hb.cell k (bv 0) (by rw [List.getElem?_map, hget]; rfl)
      have hfrz := hb.frozen k hlt
      have hb2 := hb.set k hlt (bv (sign1 ((S[k / 8]).toNat / 2 ^ (7 - k % 8) % 2 == 1)))
      rw [← List.map_set, hset] at hb2
      have f0 := (hb.bel.cell (p := ⟨w.heap.size, 0, none⟩) hz1).trans c0
      have f1 := (hb.bel.cell (p := ⟨w.heap.size, 1, none⟩) hz1).trans c1
      have HB2 := Lib.hid hb2
      simp only [bv] at hcell
      have h8 := UInt8.toNat_lt S[k / 8]
      have hkS' : (k : Int) / 8 < S.size := by omega
      clear hget hset hb2
      go_wp2_with fail
      go_roundw
      case rel => exact ⟨k + 1, by omega, by go_num, by rw [key_val _ _ h8]; exact HB2.out⟩
      case measure => simp [intOf]; omega
    · obtain rfl : k = n := by omega
      rw [keyL_all] at hb
      have hst := run_string_of (P := Tryz.prog) wr 23 9 5 _ _ k (signs ((bitsL l).take k)) Tryz.underlying23 Tryz.underlying5 Tryz.underlying9 hb.sl (by intro h; cases h) k
      obtain ⟨C, eC⟩ : ∃ C : ByteArray, C = ⟨(signs ((bitsL l).take k)).toArray⟩ := ⟨_, rfl⟩
      rw [← eC] at hst
      have EC := Lib.hid eC
      have hbel2 := hbel.trans (hb.bel.mono hbel.size)
      clear eC hb
      go_wp2_with fail
      go_ret
      exact ⟨by rw [← EC.out]; rfl, hbel2⟩
end Go.Proofs.YtkdknfedieeenaaGreatDoor
