/- strconv.FormatUint(n, 16) of numbers of sixteen bits. -/
import Derived.Test.YtkdknfedieeenaaGreatDoorRows
import Derived.Test.YtkdknfedieeenaaGreatDoorOwnP
import Derived.Test.YtkdknfedieeenaaGreatDoorOb
import Derived.Outline
import Derived.Deep.DeepCutAuto
import Derived.Laws.BitsAllLaws
namespace Go.Proofs.YtkdknfedieeenaaGreatDoor
open Go.RowKit
set_option linter.unusedVariables false

/-- k digits are written, u is left. -/
def HexSt (n k u : Nat) (D : List UInt8) : Prop := hex n = digsF (3 - k) 16 u ++ D ∧ u < 16 ^ (4 - k) ∧ D.length = k ∧ k ≤ 3
theorem HexSt.start {n : Nat} (h : n < 65536) : HexSt n 0 n [] := ⟨by simp [hex], by simpa using h, rfl, by omega⟩
theorem HexSt.next {n k u : Nat} {D : List UInt8} (h : HexSt n k u D) (hu : 16 ≤ u) : HexSt n (k + 1) (u / 16) (dig (u % 16) :: D) ∧ k ≤ 2 := by
  obtain ⟨h1, h2, h3, h4⟩ := h
  have hk : k ≤ 2 := by
    rcases Nat.lt_or_ge k 3 with hk | hk
    · omega
    · obtain rfl : k = 3 := by omega
      simp at h2; omega
  refine ⟨⟨?_, ?_, by simp [h3], by omega⟩, hk⟩
  · rw [h1, show 3 - k = (3 - (k + 1)) + 1 by omega, digsF, if_neg (by omega)]
    simp
  · rw [show 4 - k = (4 - (k + 1)) + 1 by omega, Nat.pow_succ] at h2
    exact Nat.div_lt_of_lt_mul (by omega)
theorem HexSt.done {n k u : Nat} {D : List UInt8} (h : HexSt n k u D) (hu : u < 16) : hex n = dig u :: D := by
  obtain ⟨h1, h2, h3, h4⟩ := h
  rw [h1]
  have : digsF (3 - k) 16 u = [dig u] := by
    generalize 3 - k = f
    cases f with
    | zero => rfl
    | succ f => rw [digsF, if_pos hu]
  rw [this]; rfl
theorem HexSt.lt {n k u : Nat} {D : List UInt8} (h : HexSt n k u D) : u < 65536 ∧ D.length = k ∧ k ≤ 3 := by
  obtain ⟨h1, h2, h3, h4⟩ := h
  refine ⟨?_, h3, h4⟩
  have : 16 ^ (4 - k) ≤ 16 ^ 4 := Nat.pow_le_pow_right (by omega) (by omega)
  omega
def digitsB : ByteArray := { data := #[48, 49, 50, 51, 52, 53, 54, 55, 56, 57, 97, 98, 99, 100, 101, 102, 103, 104, 105, 106, 107, 108, 109, 110, 111, 112, 113, 114, 115, 116, 117, 118, 119, 120, 121, 122] }
theorem dig_at (u : Nat) (h : u < 16) (h' : u < digitsB.size) : digitsB[u]'h' = dig u := by
  have : ∀ i : Fin 16, ∀ h', digitsB[i.val]'h' = dig i.val := by decide +kernel
  exact this ⟨u, h⟩ h'
theorem dig_val (u : Nat) (h : u < 16) (h' : u < digitsB.size) : Value.int .u8 ((digitsB[u]'h').toNat : Int) = bv (dig u) := by rw [dig_at u h h']; rfl
theorem dig_sz (u : Nat) (h : u < 16) : u < digitsB.size := by simp [digitsB, ByteArray.size]; omega
theorem Sl.dropO {w : World} {B b off n k : Nat} {xs : List Value} (h : Sl w B 1 (some ⟨b, off, none⟩) (k + n) xs) : Sl w B 1 (some ⟨b, off + k, none⟩) n (xs.drop k) := by
  refine ⟨by have := h.1; simp at this ⊢; omega, fun hn => ?_⟩
  obtain ⟨b', off', e, hb, hc⟩ := h.2 (by omega)
  injection e with e
  injection e with e1 e2
  subst e1 e2
  refine ⟨b, off + k, rfl, hb, fun j u hu => ?_⟩
  have := hc (k + j) u (by simpa using hu)
  rwa [show off + k + j = off + (k + j) by omega]
theorem ispow_any (w : World) : Calls Tryz.prog 182 #[.int .i64 16] w fun e w' => e = .returned (.bool true) ∧ w = w' := by
  go_enter Tryz.func182, Tryz.ntmps182
  go_wp2
  go_ret
  exact ⟨rfl, rfl⟩
set_option maxHeartbeats 4000000 in
set_option maxRecDepth 20000 in
theorem fbits_any (n : Nat) (hn : n < 65536) (w : World) (htz : ∀ w' : World, Below w.heap.size w w' → Calls Tryz.prog 183 #[.int .u64 16] w' fun e w2 => e = .returned (.int .i64 4) ∧ ∃ k, w2 = w'.drewN k) :
    Calls Tryz.prog 174 #[.slice none 0 0, .int .u64 n, .int .i64 16, .bool false, .bool false] w fun e w' => e = .returned (.tuple #[.slice none 0 0, sv (hex n)]) ∧ Below w.heap.size w w' := by
  have hp := fun w => ispow_any w
  go_enter Tryz.func174, Tryz.ntmps174
  go_upto_region 11 with (first
    | (go_at_call 182; refine (hp _).mono ?_; rintro e w1 ⟨rfl, rfl⟩)
    | (go_at_call 183; refine (htz _ ((Below.refl _ _).alloc (Nat.le_refl _) _)).mono ?_; rintro e w1 ⟨rfl, k1, rfl⟩))
  have hz65 : Tryz.zeroCells264.toList = (List.replicate 65 (0 : UInt8)).map bv := by kernel_rfl
  have hob0 := (OB.fresh (Below.refl w.heap.size w) (Nat.le_refl _) Tryz.zeroCells264 264 65 _ hz65 (by kernel_rfl) (by unfold maxLen; omega)).drewN k1
  have hst := Lib.hid (HexSt.start hn)
  clear htz hp hz65
  go_loopw [1, 13] (fun vu vi wr => ∃ (k u : Nat) (D l : List UInt8), vu = .int .u64 u ∧ vi = .int .i64 ((65 - k : Nat) : Int) ∧ Hid (HexSt n k u D) ∧ l.length = 65 ∧ Hid (l.drop (65 - k) = D) ∧ OB w.heap.size w (.slice (some ⟨w.heap.size, 0, none⟩) 65 65) 65 (l.map bv) wr) (fun vu _ _ => (intOf vu).toNat)
  case atStart => exact ⟨0, n, [], List.replicate 65 0, rfl, rfl, hst, by simp, Lib.hid (by simp), hob0⟩
  case round =>
    obtain ⟨k, u, D, l, rfl, rfl, HS, hl, HD, hob⟩ := hrel
    obtain ⟨hu, hD, hk⟩ := HS.out.lt
    obtain ⟨p, hp⟩ : ∃ p, p = 65 - k := ⟨_, rfl⟩
    obtain ⟨p1, hp1⟩ : ∃ p1, p1 = p - 1 := ⟨_, rfl⟩
    have hpl : p1 < 65 := by omega
    have hp2 : (p : Int) - 1 = (p1 : Int) := by omega
    rw [← hp] at HD ⊢
    have hfrz := hob.frozen p1 hpl
    have hcell := hob.cell p1 (bv l[p1]) (by rw [List.getElem?_map, List.getElem?_eq_getElem (by omega)]; rfl)
    simp only [bv] at hcell
    generalize (l[p1]).toNat = y at hcell
    have hd1 : p1 = 65 - (k + 1) := by omega
    have HP := Lib.hid hd1
    have hl1 : ∀ x : UInt8, (l.set p1 x).drop p1 = x :: l.drop p := by
      intro x
      rw [List.drop_eq_getElem_cons (by simp; omega), List.getElem_set_self, List.drop_set_of_lt (by omega), show p1 + 1 = p by omega]
    have HL1 := Lib.hid hl1
    have HLL := Lib.hid hl
    by_cases h16 : 16 ≤ u
    · obtain ⟨hn1, hk2⟩ := HS.out.next h16
      have hset := hob.set p1 hpl (bv (dig (u % 16)))
      rw [← List.map_set] at hset
      obtain ⟨m, hm⟩ : ∃ m, m = u % 16 := ⟨_, rfl⟩
      obtain ⟨q, hq⟩ : ∃ q, q = u / 16 := ⟨_, rfl⟩
      rw [← hm] at hn1 hset
      rw [← hq] at hn1
      have hand : bits .and .u64 (u : Int) 15 = (m : Int) := by
        rw [show (15 : Int) = ((15 : Nat) : Int) by rfl]
        have : bits .and .u64 (u : Int) ((15 : Nat) : Int) = ((u &&& 15 : Nat) : Int) := u64_and_nat u 15 (by omega) (by omega)
        rw [this, hm]
        congr 1
        exact Nat.and_two_pow_sub_one_eq_mod u 4
      have hshr : (u : Int) / 16 = (q : Int) := by omega
      have hm16 : m < 16 := by omega
      have hqu : q < u := by omega
      have HN := Lib.hid hn1
      have HSET := Lib.hid hset
      clear hset hn1 hl hl1 hd1 hp hp1 hm hq hD hob hk
      have HD1 := Lib.hid (dig_val m hm16 (dig_sz m hm16))
      go_wp2
      refine ⟨⟨k + 1, q, dig m :: D, l.set p1 (dig m), rfl, by rw [← HP.out], HN, by simpa using HLL.out, Lib.hid (by rw [← HP.out, HL1.out, HD.out]), ?_⟩, by simp [intOf]; omega⟩
      exact Eq.mp (congrArg (fun v => OB w.heap.size w (Value.slice (some ⟨w.heap.size, 0, none⟩) 65 65) 65 (List.map bv (l.set p1 (dig m))) (wr.setCell ⟨w.heap.size, p1, none⟩ v)) HD1.out.symm) HSET.out
    · have hdone := HS.out.done (by omega)
      have hset := hob.set p1 hpl (bv (dig u))
      rw [← List.map_set] at hset
      obtain ⟨r, hr⟩ : ∃ r, r = 65 - p1 := ⟨_, rfl⟩
      have hsl := Sl.dropO (k := p1) (n := r) (by rw [show p1 + r = 65 by omega]; exact hset.sl)
      have hdr := hl1 (dig u)
      rw [HD.out, ← hdone] at hdr
      rw [← List.map_drop, hdr, Nat.zero_add] at hsl
      have hbel := hset.bel
      have hlt16 : u < 16 := by omega
      have hr2 : (65 : Int) - p1 = r := by omega
      have hsz := dig_sz u hlt16
      rw [← dig_val u hlt16 hsz] at hsl hbel
      have HSL := Lib.hid hsl
      have HBEL := Lib.hid hbel
      clear hset hsl hbel hl hl1 hd1 hp hp1 HP hD HLL hob hk HD hdone HL1 hdr HS h16 hr2
      subst hr
      have hal : Tryz.prog.arrayLen 264 = 65 := by simp [Program.arrayLen, Tryz.underlying264]
      have hsa : ∀ W, (Instr.sliceAt 264 (.pointer (some ⟨w.heap.size, 0, none⟩)) (some (.int .i64 (p1 : Int))) none none).run Tryz.prog W = .ok (.slice (some ⟨w.heap.size, p1, none⟩) (65 - p1) (65 - p1)) W := fun W => by
        rw [run_sliceAt_array_l W 264 ⟨w.heap.size, 0, none⟩ (by simp [Program.arrayLen, Program.elem, Tryz.underlying264]) .i64 (p1 : Int) (by omega) (by rw [hal]; omega), hal]
        go_simp
        omega
      go_upto_region 30 with fail
      obtain ⟨C, eC⟩ : ∃ C : ByteArray, C = ⟨(hex n).toArray⟩ := ⟨_, rfl⟩
      have hst := fun (W : World) (h : Sl W (wr.setCell ⟨w.heap.size, p1, none⟩ (.int .u8 ((digitsB[u]'hsz).toNat : Int))).heap.size 1 (some ⟨w.heap.size, p1, none⟩) (65 - p1) ((hex n).map bv)) => run_string_of (P := Tryz.prog) W 23 9 5 _ _ (65 - p1) (hex n) Tryz.underlying23 Tryz.underlying5 Tryz.underlying9 h (by intro h; cases h) (65 - p1)
      rw [← eC] at hst
      have HST := Lib.hid hst
      have EC := Lib.hid eC
      clear eC hst
      go_wp2
      rw [HST.out]
      case h => exact HSL.out
      go_wp2
      go_ret2
      exact ⟨by rw [EC.out]; rfl, HBEL.out⟩
end Go.Proofs.YtkdknfedieeenaaGreatDoor
