/- internal/strconv.ParseUint(s, 16, 16) at every string that is not empty. -/
import Derived.Test.YtkdknfedieeenaaGreatDoorRows
import Derived.Test.YtkdknfedieeenaaGreatDoorOwnP
import Derived.Lib.Strings
import Derived.Lib.Walk
import Derived.Lib.ConvBytes
import Derived.Lib.ParseIntBMem
import Derived.Lib.Hide
import Derived.Laws.Strings3
import Derived.Laws.Closers25
import Derived.Laws.Closers25b
import Derived.WalkKit
import Derived.BigCall
import Derived.BigGuard
namespace Go.Proofs.YtkdknfedieeenaaGreatDoor
open Go.RowKit
set_option linter.unusedVariables false

theorem lower_any (c : UInt8) (w : World) : Calls Tryz.prog 166 #[.int .u8 (c.toNat : Int)] w fun e w' => e = .returned (.int .u8 ((c ||| 32).toNat : Int)) ∧ w = w' := by
  have h : ∀ i : Fin 256, bits .or .u8 ((UInt8.ofNat i.val).toNat : Int) 32 = (((UInt8.ofNat i.val) ||| 32).toNat : Int) := by decide +kernel
  have hc := h ⟨c.toNat, c.toNat_lt⟩
  simp only [UInt8.ofNat_toNat] at hc
  generalize (c ||| 32).toNat = p at *
  go_enter Tryz.func166, Tryz.ntmps166
  go_wp2
  go_ret
  exact ⟨rfl, rfl⟩

set_option maxHeartbeats 32000000 in
set_option maxRecDepth 100000 in
/-- internal/strconv.ParseUint(s, 16, 16), s not empty. -/
theorem ipu16_any (t : ByteArray) (hne : t.size ≠ 0) (hmax : t.size ≤ 9223372036854775806) (w : World) :
    Calls Tryz.prog 157 #[.string t, .int .i64 16, .int .i64 16] w fun e w' => e = .returned (Lib.uintTupleM 231 65535 (puM 65535 0 t.data.toList)) ∧ w' = Lib.bytesWorld w 5 t := by
  have hemp : t.toList.isEmpty = false := by
    rw [← decide_eq_emptyBytes]
    exact decide_eq_false (fun h => hne (by rw [h]; rfl))
  have hcv := Lib.run_convert_string_bytes (P := Tryz.prog) w 9 23 5 t (u := .string) Tryz.underlying9 Tryz.underlying23 Tryz.underlying5
  have hB : ∀ j, j < t.size → (Lib.bytesWorld w 5 t).cell? ⟨w.heap.size, j, none⟩ = some (.int .u8 (t.data.toList.getD j 0).toNat) := fun j hj => Lib.bytesWorld_cell w 5 t j hj
  obtain ⟨W1, hW1⟩ : ∃ W1, W1 = Lib.bytesWorld w 5 t := ⟨_, rfl⟩
  rw [← hW1] at hcv hB ⊢
  clear hW1
  obtain ⟨bs, hL⟩ : ∃ bs, bs = t.data.toList := ⟨_, rfl⟩
  have hLn : bs.length = t.size := by rw [hL, Lib.size_eq]
  rw [← hL] at hB ⊢
  clear hL
  have hmv : IntKind.u64.wrap (IntKind.u64.wrap 65536 - 1) = 65535 := by
    rw [IntKind.wrap_u64, IntKind.wrap_u64]
    decide
  go_enter Tryz.func157, Tryz.ntmps157
  go_wp2
  go_loop [12, 13, 101] (fun vu vn vi => ∃ (k acc : Nat) (a : Int), vu = .bool false ∧ vn = .int .u64 a ∧ vi = .int .i64 k ∧ k ≤ t.size ∧ Hid (a = (acc : Int) ∧ acc ≤ 65535 ∧ puM 65535 0 bs = puM 65535 acc (bs.drop k)))
    (fun _ _ vi => t.size - (intOf vi).toNat)
  case atStart => exact ⟨0, 0, 0, rfl, rfl, rfl, by omega, rfl, by omega, rfl⟩
  case round =>
    obtain ⟨k, acc, a, rfl, rfl, rfl, hk, hh⟩ := hrel
    obtain ⟨ha, hacc, hdec⟩ := hh.out
    clear hh
    have a0 : 0 ≤ a := by omega
    have a1 : a ≤ 65535 := by omega
    by_cases hkn : k < t.size
    · have hc := hB k hkn
      have hdrop : bs.drop k = bs[k]'(by omega) :: bs.drop (k + 1) := List.drop_eq_getElem_cons (by omega)
      have hget : bs.getD k 0 = bs[k]'(by omega) := by simp [List.getD, List.getElem?_eq_getElem (show k < bs.length by omega)]
      rw [hdrop] at hdec
      rw [hget] at hc
      generalize bs[k]'(by omega) = c at hc hdec
      have hc256 : c.toNat < 256 := c.toNat_lt
      have hlow := fun w => lower_any c w
      have hp256 : (c ||| 32).toNat < 256 := (c ||| 32).toNat_lt
      have h95 : c.toNat = 95 → (c ||| 32).toNat = 127 := by
        intro h
        obtain rfl : c = 95 := UInt8.toNat_inj.1 h
        rfl
      have hstep := puM.eq_2 65535 acc c (bs.drop (k + 1))
      unfold dval at hstep
      generalize (c ||| 32).toNat = p at hlow hp256 hstep h95
      generalize c.toNat = c at *
      clear hB hdrop hget
      by_cases hdig : 48 ≤ c ∧ c ≤ 57
      · obtain ⟨hd0, hd1⟩ := hdig
        rw [if_pos ⟨hd0, hd1⟩] at hstep
        simp only at hstep
        rw [if_neg (by omega)] at hstep
        by_cases hov : 65535 < acc * 16 + (c - 48)
        · rw [if_pos hov] at hstep
          rw [hstep] at hdec
          have iov : 65535 < a * 16 + ((c : Int) - 48) := by omega
          clear hacc hstep hov ha hlow
          go_wp2
          go_ret2
          first | exact ⟨rfl, rfl⟩ | exact ⟨by rw [hdec]; rfl, rfl⟩
        · rw [if_neg hov] at hstep
          have HN : Hid (a * 16 + ((c : Int) - 48) = ((acc * 16 + (c - 48) : Nat) : Int) ∧ acc * 16 + (c - 48) ≤ 65535 ∧ puM 65535 0 bs = puM 65535 (acc * 16 + (c - 48)) (bs.drop (k + 1))) := Lib.hid ⟨by omega, by omega, hdec.trans hstep⟩
          have iov : a * 16 + ((c : Int) - 48) ≤ 65535 := by omega
          clear hacc hstep hov hdec ha hlow
          go_wp2
          refine ⟨⟨k + 1, acc * 16 + (c - 48), a * 16 + ((c : Int) - 48), rfl, (by first | rfl | (congr 1; omega)), (by first | rfl | (congr 1; omega)), by omega, HN⟩, by simp [intOf]; omega⟩
      · rw [if_neg hdig] at hstep
        by_cases hlet : 97 ≤ p ∧ p ≤ 122
        · rw [if_pos hlet] at hstep
          simp only at hstep
          obtain ⟨hp0, hp1⟩ := hlet
          have hnd : c < 48 ∨ 57 < c := by omega
          have e95 : ((c : Int) == 95) = false := by rw [beq_eq_false_iff_ne]; omega
          have HLOW := Lib.hid hlow
          clear hlow hdig h95
          by_cases hbig : 16 ≤ p - 87
          · rw [if_pos hbig] at hstep
            rw [hstep] at hdec
            have ibig : 16 ≤ (p : Int) - 97 + 10 := by omega
            clear hacc hstep ha hbig
            rcases hnd with hnd | hnd
            all_goals
              go_wp2_with (go_at_call 166; refine (HLOW.out _).mono ?_; rintro e w' ⟨rfl, rfl⟩)
              go_ret2
              first | exact ⟨rfl, rfl⟩ | exact ⟨by rw [hdec]; rfl, rfl⟩
          · rw [if_neg hbig] at hstep
            have hp2 : p ≤ 102 := by omega
            by_cases hov : 65535 < acc * 16 + (p - 87)
            · rw [if_pos hov] at hstep
              rw [hstep] at hdec
              have iov : 65535 < a * 16 + ((p : Int) - 97 + 10) := by omega
              clear hacc hstep hov ha hbig
              rcases hnd with hnd | hnd
              all_goals
                go_wp2_with (go_at_call 166; refine (HLOW.out _).mono ?_; rintro e w' ⟨rfl, rfl⟩)
                go_ret2
                exact ⟨by rw [hdec]; rfl, rfl⟩
            · rw [if_neg hov] at hstep
              have HN : Hid (a * 16 + ((p : Int) - 97 + 10) = ((acc * 16 + (p - 87) : Nat) : Int) ∧ acc * 16 + (p - 87) ≤ 65535 ∧ puM 65535 0 bs = puM 65535 (acc * 16 + (p - 87)) (bs.drop (k + 1))) := Lib.hid ⟨by omega, by omega, hdec.trans hstep⟩
              have iov : a * 16 + ((p : Int) - 97 + 10) ≤ 65535 := by omega
              clear hacc hstep hov hdec ha hbig
              rcases hnd with hnd | hnd
              all_goals
                go_wp2_with (go_at_call 166; refine (HLOW.out _).mono ?_; rintro e w' ⟨rfl, rfl⟩)
                refine ⟨⟨k + 1, acc * 16 + (p - 87), a * 16 + ((p : Int) - 97 + 10), rfl, (by first | rfl | (congr 1; omega)), (by first | rfl | (congr 1; omega)), by omega, HN⟩, by simp [intOf]; omega⟩
        · rw [if_neg hlet] at hstep
          simp only at hstep
          rw [hstep] at hdec
          have hnd : c < 48 ∨ 57 < c := by omega
          have hnl : p < 97 ∨ (97 ≤ p ∧ 122 < p) := by omega
          by_cases e : c = 95
          · obtain rfl := h95 e
            subst e
            have HLOW : Hid (∀ w, Calls Tryz.prog 166 #[.int .u8 95] w fun e w' => e = .returned (.int .u8 127) ∧ w = w') := Lib.hid hlow
            clear hacc hstep ha hlow hdig hlet h95 hnl hnd
            go_wp2_with (go_at_call 166; refine (HLOW.out _).mono ?_; rintro e w' ⟨rfl, rfl⟩)
            go_ret2
            first | exact ⟨rfl, rfl⟩ | exact ⟨by rw [hdec]; rfl, rfl⟩
          · have e95 : ((c : Int) == 95) = false := by rw [beq_eq_false_iff_ne]; omega
            have HLOW := Lib.hid hlow
            clear hacc hstep ha hlow hdig hlet h95 e
            rcases hnd with hnd | hnd <;> rcases hnl with hnl | ⟨hnl, hnl2⟩
            all_goals
              go_wp2_with (go_at_call 166; refine (HLOW.out _).mono ?_; rintro e w' ⟨rfl, rfl⟩)
              go_ret2
              first | exact ⟨rfl, rfl⟩ | exact ⟨by rw [hdec]; rfl, rfl⟩
    · have hkk : k = t.size := by omega
      subst hkk
      have hF : puM 65535 acc (bs.drop t.size) = .ok acc := by rw [List.drop_eq_nil_of_le (by omega)]; rfl
      rw [hF] at hdec
      subst ha
      clear hacc hF a0 a1
      go_wp2
      go_ret2
      first | exact ⟨rfl, rfl⟩ | exact ⟨by rw [hdec]; rfl, rfl⟩
end Go.Proofs.YtkdknfedieeenaaGreatDoor
