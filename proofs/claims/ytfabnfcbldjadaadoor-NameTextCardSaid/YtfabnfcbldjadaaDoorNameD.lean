/- The contracts of sign and Text. -/
import Derived.Test.YtfabnfcbldjadaaDoorNameC
import Derived.Test.YtfabnfcbldjadaaDoorBld
namespace Go.Proofs.YtfabnfcbldjadaaDoor
open Go.RowKit
set_option linter.unusedVariables false

def plainC (c : UInt8) : Bool := decide ((97 ≤ c.toNat ∧ c.toNat ≤ 122) ∨ (48 ≤ c.toNat ∧ c.toNat ≤ 57) ∨ c.toNat = 45 ∨ c.toNat = 95 ∨ c.toNat = 42)
def signL (c : UInt8) : List UInt8 := if plainC c then [c] else [92, 48 + c / 100, 48 + c / 10 % 10, 48 + c % 10]
theorem sign_d1 (c : UInt8) : bv (48 + c / 100) = .int .u8 (48 + (c.toNat : Int) / 100) := by
  unfold bv
  have := UInt8.toNat_lt c
  rw [UInt8.toNat_add, UInt8.toNat_div]
  simp; omega
theorem sign_d2 (c : UInt8) : bv (48 + c / 10 % 10) = .int .u8 (48 + (c.toNat : Int) / 10 % 10) := by
  unfold bv
  have := UInt8.toNat_lt c
  rw [UInt8.toNat_add, UInt8.toNat_mod, UInt8.toNat_div]
  simp; omega
theorem sign_d3 (c : UInt8) : bv (48 + c % 10) = .int .u8 (48 + (c.toNat : Int) % 10) := by
  unfold bv
  have := UInt8.toNat_lt c
  rw [UInt8.toNat_add, UInt8.toNat_mod]
  simp; omega

set_option maxHeartbeats 1600000 in
theorem sign_any (c : UInt8) (w : World) : Calls Tryd.prog 16 #[.int .u8 (c.toNat : Int)] w fun e w' => e = .returned (sv (signL c)) ∧ Below w.heap.size w w' := by
  have hc1 := run_string_of (P := Tryd.prog) (w.alloc (.cells #[bv c] 5)) 36 9 5 _ (some ⟨w.heap.size, 0, none⟩) 1 [c] Tryd.underlying36 Tryd.underlying5 Tryd.underlying9 (Sl.fresh _ _ _ _ _ rfl rfl) (fun h => by cases h) 1
  have hc4 := run_string_of (P := Tryd.prog) (w.alloc (.cells #[bv 92, bv (48 + c / 100), bv (48 + c / 10 % 10), bv (48 + c % 10)] 5)) 36 9 5 _ (some ⟨w.heap.size, 0, none⟩) 4 [92, 48 + c / 100, 48 + c / 10 % 10, 48 + c % 10] Tryd.underlying36 Tryd.underlying5 Tryd.underlying9 (Sl.fresh _ _ _ _ _ rfl rfl) (fun h => by cases h) 4
  rw [sign_d1, sign_d2, sign_d3, show bv 92 = .int .u8 92 by rfl] at hc4
  rw [show bv c = .int .u8 (c.toNat : Int) by rfl] at hc1
  have hlt := UInt8.toNat_lt c
  have hpl : plainC c = decide ((97 ≤ c.toNat ∧ c.toNat ≤ 122) ∨ (48 ≤ c.toNat ∧ c.toNat ≤ 57) ∨ c.toNat = 45 ∨ c.toNat = 95 ∨ c.toNat = 42) := rfl
  have hbel : ∀ o, Below w.heap.size w (w.alloc o) := fun o => (Below.refl _ w).alloc (Nat.le_refl _) o
  by_cases hp : plainC c = true
  · have hsg : signL c = [c] := by unfold signL; rw [if_pos hp]
    rw [hp] at hpl
    replace hpl := of_decide_eq_true hpl.symm
    rw [hsg]
    unfold sv
    generalize c.toNat = n at *
    generalize (⟨[c].toArray⟩ : ByteArray) = r at *
    have HB := Lib.hid hbel
    clear hc4 hsg hp hbel hlt
    rcases hpl with h | h | h | h | h
    all_goals
      first | have d1 : (97 : Int) ≤ n := by omega | have d1 : ¬ (97 : Int) ≤ n := by omega
      first | have d2 : (n : Int) ≤ 122 := by omega | have d2 : ¬ (n : Int) ≤ 122 := by omega
      first | have d3 : (48 : Int) ≤ n := by omega | have d3 : ¬ (48 : Int) ≤ n := by omega
      first | have d4 : (n : Int) ≤ 57 := by omega | have d4 : ¬ (n : Int) ≤ 57 := by omega
      try subst h
      try simp only [show ((45 : Nat) : Int) = 45 from rfl, show ((95 : Nat) : Int) = 95 from rfl, show ((42 : Nat) : Int) = 42 from rfl] at hc1 ⊢
      go_enter Tryd.func16, Tryd.ntmps16
      go_wp2
      go_ret
      exact ⟨rfl, HB.out _⟩
  · have hsg : signL c = [92, 48 + c / 100, 48 + c / 10 % 10, 48 + c % 10] := by unfold signL; rw [if_neg hp]
    rw [Bool.not_eq_true] at hp
    rw [hp] at hpl
    replace hpl := of_decide_eq_false hpl.symm
    rw [hsg]
    unfold sv
    generalize (⟨[92, 48 + c / 100, 48 + c / 10 % 10, 48 + c % 10].toArray⟩ : ByteArray) = r at *
    generalize c.toNat = n at *
    have HB := Lib.hid hbel
    clear hc1 hsg hp hbel
    have d5 : ((n : Int) == 45) = false := by rw [beq_eq_false_iff_ne]; omega
    have d6 : ((n : Int) == 95) = false := by rw [beq_eq_false_iff_ne]; omega
    have d7 : ((n : Int) == 42) = false := by rw [beq_eq_false_iff_ne]; omega
    have e1 : IntKind.u8.wrap (48 + (n : Int) / 100) = 48 + (n : Int) / 100 := by simp [IntKind.wrap, IntKind.bits, IntKind.signed]; omega
    have e2 : IntKind.u8.wrap (48 + (n : Int) / 10 % 10) = 48 + (n : Int) / 10 % 10 := by simp [IntKind.wrap, IntKind.bits, IntKind.signed]; omega
    have e3 : IntKind.u8.wrap (48 + (n : Int) % 10) = 48 + (n : Int) % 10 := by simp [IntKind.wrap, IntKind.bits, IntKind.signed]; omega
    have hlt' : (n : Int) < 256 := by omega
    have h : n < 48 ∨ (58 ≤ n ∧ n < 97) ∨ (123 ≤ n ∧ n < 256) := by omega
    clear hpl
    rcases h with h | h | h
    all_goals
      first | have d1 : (97 : Int) ≤ n := by omega | have d1 : ¬ (97 : Int) ≤ n := by omega
      first | have d2 : (n : Int) ≤ 122 := by omega | have d2 : ¬ (n : Int) ≤ 122 := by omega
      first | have d3 : (48 : Int) ≤ n := by omega | have d3 : ¬ (48 : Int) ≤ n := by omega
      first | have d4 : (n : Int) ≤ 57 := by omega | have d4 : ¬ (n : Int) ≤ 57 := by omega
      clear h hlt
      go_enter Tryd.func16, Tryd.ntmps16
      go_wp2
      go_ret
      exact ⟨rfl, HB.out _⟩

def textL (ls : List (List UInt8)) : List UInt8 := ls.flatMap fun l => l.flatMap signL ++ [46]
def textOf (s : ByteArray) : List UInt8 := match labelsOf s with | none => [] | some [] => [46] | some ls => textL ls
theorem signL_length (c : UInt8) : (signL c).length ≤ 4 := by unfold signL; split <;> simp
theorem signs_length : ∀ (l : List UInt8), (l.flatMap signL).length ≤ 4 * l.length
  | [] => by simp
  | c :: l => by
    have h1 := signs_length l
    have h2 := signL_length c
    simp only [List.flatMap_cons, List.length_append, List.length_cons]; omega
theorem wire_length_cons (l : List UInt8) (ls : List (List UInt8)) : (wire (l :: ls)).length = l.length + 1 + (wire ls).length := by simp [wire]; omega
theorem textL_length : ∀ (ls : List (List UInt8)), (textL ls).length ≤ 4 * (wire ls).length
  | [] => by simp [textL]
  | l :: ls => by
    have h1 := textL_length ls
    have h2 := signs_length l
    have h3 := wire_length_cons l ls
    have h4 : (textL (l :: ls)).length = (l.flatMap signL).length + 1 + (textL ls).length := by simp [textL]; omega
    omega
theorem textL_take {ls : List (List UInt8)} {k : Nat} (h : k < ls.length) : textL (ls.take (k + 1)) = textL (ls.take k) ++ (ls[k].flatMap signL ++ [46]) := by
  unfold textL; rw [List.take_succ_eq_append_getElem h, List.flatMap_append]; simp only [List.flatMap_cons, List.flatMap_nil, List.append_nil]
theorem wire_take_le (ls : List (List UInt8)) (k : Nat) : (wire (ls.take k)).length ≤ (wire ls).length := by
  have h := wire_length_le (ls.take k) (ls.drop k)
  rwa [List.take_append_drop] at h

set_option maxHeartbeats 3200000 in
theorem text_any (s : ByteArray) (w : World) (hs : s.size ≤ maxLen) :
    Calls Tryd.prog 8 #[.string s] w fun e w' => e = .returned (sv (textOf s)) ∧ Below w.heap.size w w' := by
  have hlab := fun w => labels_any s w hs
  cases hl : labelsOf s with
  | none =>
    have ht : textOf s = [] := by unfold textOf; rw [hl]
    rw [ht]
    rw [hl] at hlab
    have HL := Lib.hid hlab
    clear hlab hl ht
    go_enter Tryd.func8, Tryd.ntmps8
    go_wp2_with (go_at_call 14; refine (HL.out _).mono ?_; rintro e w1 ⟨v, rfl, hb⟩)
    go_ret
    exact ⟨rfl, hb.below⟩
  | some ls =>
    have hL : labelsL s = ls := by unfold labelsL; rw [hl]; rfl
    rw [hL, hl] at hlab
    cases ls with
    | nil =>
      have ht : textOf s = [46] := by unfold textOf; rw [hl]
      rw [ht]
      have HL := Lib.hid hlab
      clear hlab hl ht hL
      go_enter Tryd.func8, Tryd.ntmps8
      go_wp2_with (go_at_call 14; refine (HL.out _).mono ?_; rintro e w1 ⟨v, rfl, hb⟩; obtain ⟨A, c, rfl, hc⟩ := hb.slice)
      go_ret
      exact ⟨rfl, hb.below⟩
    | cons l0 ls0 =>
      have ht : textOf s = textL (l0 :: ls0) := by unfold textOf; rw [hl]
      have hne : ((l0 :: ls0).length : Int) ≠ 0 := by simp; omega
      rw [ht]
      have hwire := ((nameLabels_iff _ _).1 hl)
      have hw1 : (wire (l0 :: ls0)).length ≤ 254 := by rw [← hwire.2.1]; exact hwire.1
      generalize l0 :: ls0 = ls at *
      generalize hn : ls.length = n at *
      have HL := Lib.hid hlab
      have hok := hwire.2.2
      have hne' : ((n : Int) == 0) = false := by rw [beq_eq_false_iff_ne]; exact hne
      clear hlab hl ht hL hwire hne
      go_enter Tryd.func8, Tryd.ntmps8
      go_wp2_with (go_at_call 14; refine (HL.out _).mono ?_; rintro e w1 ⟨v, rfl, hb⟩; obtain ⟨A, c, rfl, hc⟩ := hb.slice)
      have hS := hb.sl
      have hB1 := hb.below
      have hnew : Bld (w1.alloc (.cells #[.pointer none, .slice none 0 0] 41)) w1.heap.size w1.heap.size [] := bld_new w1
      have hB0 : Below w1.heap.size w1 (w1.alloc (.cells #[.pointer none, .slice none 0 0] 41)) := (Below.refl _ _).alloc (Nat.le_refl _) _
      have hlsn : ls.length = n := hn
      have hnb : n ≤ 9223372036854775807 := by have h1 := hc.1; have h2 := hc.2.1; unfold maxLen at h2; omega
      go_loopw [21] (fun i wr => ∃ k : Nat, i = .int .i64 k ∧ k ≤ n ∧ Bld wr w1.heap.size w1.heap.size (textL (ls.take k)) ∧ Below w1.heap.size w1 wr) (fun i _ => n - (intOf i).toNat)
      case atStart => exact ⟨0, rfl, Nat.zero_le _, by simpa [textL] using hnew, hB0⟩
      case round =>
        obtain ⟨k, rfl, hk, hbl, hbel⟩ := hrel
        have htl := textL_length (ls.take k)
        have hwt := wire_take_le ls k
        by_cases hlt : k < n
        · have hlt' : (k : Int) < n := by omega
          have hkl : k < ls.length := by omega
          obtain ⟨b, off, u, rfl, hbb, hu, hc⟩ := hS.at_ hlt
          have hokk := hok ls[k] (List.getElem_mem hkl)
          simp only [okLabel, Bool.and_eq_true, decide_eq_true_eq] at hokk
          have hll := hokk.1.2
          have hcell : wr.cell? ⟨b, off + k, none⟩ = some (sv ls[k]) := by
            rw [hbel.cell hbb, hc]
            simp only [List.getElem?_map, List.getElem?_eq_getElem hkl, Option.map_some] at hu
            exact hu.symm
          have htk := textL_take hkl
          obtain ⟨t, ht⟩ : ∃ t : ByteArray, ls[k] = t.data.toList := ⟨⟨ls[k].toArray⟩, by simp⟩
          rw [ht] at hll htk hcell
          rw [sv_bytes] at hcell
          have hlsz : t.data.toList.length = t.size := by simp
          rw [hlsz] at hll
          generalize hT : textL (ls.take k) = T at *
          have hrs : w1.heap.size ≤ wr.heap.size := hbel.size
          have HTK := Lib.hid htk
          have HU := Lib.hid hu
          have HC := Lib.hid hc
          have HT := Lib.hid hT
          have HH := Lib.hid ht
          clear hu hc htk hT hokk ht
          go_wp2_with fail
          go_loopw [27] (fun i w2 => ∃ j : Nat, i = .int .i64 j ∧ j ≤ t.size ∧ Bld w2 w1.heap.size w1.heap.size (T ++ (t.data.toList.take j).flatMap signL) ∧ Below w1.heap.size w1 w2) (fun i _ => t.size - (intOf i).toNat)
          case atStart => exact ⟨0, rfl, Nat.zero_le _, by simpa using hbl, hbel⟩
          case round =>
            obtain ⟨j, rfl, hj, hbl2, hbel2⟩ := hrel
            by_cases hjl : j < t.size
            · have hjl' : (j : Int) < t.size := by omega
              have hsg := fun w => sign_any t[j] w
              have htj : (t.data.toList.take (j + 1)).flatMap signL = (t.data.toList.take j).flatMap signL ++ signL t[j] := by
                rw [List.take_succ_eq_append_getElem (by omega), List.flatMap_append, toList_get t j hjl]; simp
              have hle := signL_length t[j]
              have hl2 : (T ++ (t.data.toList.take j).flatMap signL).length ≤ 4 * 254 + 4 * 63 := by
                have := signs_length (t.data.toList.take j)
                simp only [List.length_append, List.length_take] at *
                omega
              generalize signL t[j] = sg at *
              have HS := Lib.hid hsg
              have HJ := Lib.hid htj
              have HL2 := Lib.hid hl2
              have hw2 := hbel2.size
              clear hsg htj hl2
              go_wp2_with fail
              refine (HS.out _).mono ?_
              rintro e w3 ⟨rfl, hb3⟩
              have hbl3 := hbl2.keep hb3 (Nat.le_refl _)
              have hbel3 := hbel2.trans (hb3.mono hw2)
              have hw3 := hbel3.size
              clear hbl2 hbel2 hb3
              go_wp2_with fail
              refine (writeString_any _ _ _ _ _ hbl3 (by have := HL2.out; rw [mk_size]; omega) hw3).mono ?_
              rintro e w4 ⟨rfl, hbl4, hb4⟩
              have hbel4 := hbel3.trans hb4
              clear hbl3 hbel3 hb4
              go_wp2
              go_roundw
              case rel => exact ⟨j + 1, by go_num, by omega, by rw [HJ.out, ← List.append_assoc]; simpa using hbl4, hbel4⟩
              case measure => simp [intOf]; omega
            · obtain rfl : j = t.size := by omega
              rw [List.take_of_length_le (by omega)] at hbl2
              have hl2 : (T ++ t.data.toList.flatMap signL).length ≤ 4 * 254 + 4 * 63 := by
                have := signs_length t.data.toList
                simp only [List.length_append] at *
                omega
              have HL2 := Lib.hid hl2
              have hw2 := hbel2.size
              clear hl2
              go_wp2_with fail
              refine (writeString_any _ _ _ _ _ hbl2 (by have := HL2.out; have h1 : (ByteArray.mk #[46]).size = 1 := rfl; omega) hw2).mono ?_
              rintro e w4 ⟨rfl, hbl4, hb4⟩
              have hbel4 := hbel2.trans hb4
              clear hbl2 hbel2 hb4
              go_wp2
              go_roundw
              case rel => exact ⟨k + 1, by go_num, by omega, by rw [HTK.out, ← List.append_assoc]; exact hbl4, hbel4⟩
              case measure => simp [intOf]; omega
        · obtain rfl : k = n := by omega
          have hlt' : ¬ (k : Int) < k := by omega
          rw [List.take_of_length_le (by omega)] at hbl
          have hw1' := hbel.size
          have hbout := hB1.trans (hbel.mono hB1.size)
          go_wp2_with fail
          refine (string_any _ _ _ _ hbl hw1').mono ?_
          rintro e w4 ⟨rfl, hb4⟩
          have hbout4 := hbout.trans (hb4.mono hB1.size)
          clear hbl hbel hb4 hbout
          go_wp2
          go_ret
          exact ⟨rfl, hbout4⟩
end Go.Proofs.YtfabnfcbldjadaaDoor
