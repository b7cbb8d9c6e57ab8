/- The contracts of Strip, Below. -/
import Derived.Test.YtkdknfedieeenaaDoorNameE
import Derived.Test.YtkdknfedieeenaaDoorNameC
namespace Go.Proofs.YtkdknfedieeenaaDoor
open Go.RowKit
set_option linter.unusedVariables false

def stripL (ls ms : List (List UInt8)) : Option (List (List UInt8)) := if ms.length ≤ ls.length ∧ ls.drop (ls.length - ms.length) = ms then some (ls.take (ls.length - ms.length)) else none
def stripOf (s t : ByteArray) : Option (List UInt8) := match labelsOf s, labelsOf t with | some ls, some ms => (stripL ls ms).map wire | _, _ => none
def pos (ls : List (List UInt8)) (k : Nat) : Nat := (wire (ls.take k)).length
section
variable {ls ms : List (List UInt8)}
theorem stripL_found {k : Nat} (hk : k ≤ ls.length) (h : ls.drop k = ms) : stripL ls ms = some (ls.take k) := by
  have hl : ms.length = ls.length - k := by rw [← h]; simp
  have e : ls.length - ms.length = k := by omega
  unfold stripL
  rw [e, if_pos ⟨by omega, h⟩]
theorem stripL_none (h : ∀ j, j < ls.length → ls.drop j ≠ ms) (hm : ms ≠ []) : stripL ls ms = none := by
  unfold stripL
  rw [if_neg]
  rintro ⟨h1, h2⟩
  have h3 : 0 < ms.length := List.length_pos_iff.2 hm
  exact h (ls.length - ms.length) (by omega) h2
theorem wire_drop (ls : List (List UInt8)) (k : Nat) : (wire ls).drop (pos ls k) = wire (ls.drop k) := by
  have h : wire ls = wire (ls.take k) ++ wire (ls.drop k) := by rw [← wire_append, List.take_append_drop]
  rw [h]
  exact List.drop_left
theorem wire_take (ls : List (List UInt8)) (k : Nat) : (wire ls).take (pos ls k) = wire (ls.take k) := by
  have h : wire ls = wire (ls.take k) ++ wire (ls.drop k) := by rw [← wire_append, List.take_append_drop]
  rw [h]
  exact List.take_left
theorem pos_succ {k : Nat} (hk : k < ls.length) : pos ls (k + 1) = pos ls k + 1 + ls[k].length := by
  unfold pos
  rw [List.take_succ_eq_append_getElem hk, wire_append]
  simp [wire]; omega
theorem pos_le (ls : List (List UInt8)) (k : Nat) : pos ls k ≤ (wire ls).length := by
  have := wire_length_le (ls.take k) (ls.drop k)
  rwa [List.take_append_drop] at this
theorem pos_lt {k : Nat} (hk : k < ls.length) : pos ls k < (wire ls).length := by
  have h1 := pos_succ hk
  have h2 := pos_le ls (k + 1)
  omega
theorem pos_all : pos ls ls.length = (wire ls).length := by unfold pos; rw [List.take_length]
theorem wire_at {k : Nat} (hk : k < ls.length) : (wire ls)[pos ls k]'(pos_lt hk) = UInt8.ofNat ls[k].length := by
  have h1 := wire_drop ls k
  rw [List.drop_eq_getElem_cons hk, wire_cons, List.drop_eq_getElem_cons (pos_lt hk)] at h1
  injection h1
theorem wire_inj {a b : List (List UInt8)} (ha : ∀ x ∈ a, okLabel x = true) (hb : ∀ x ∈ b, okLabel x = true) (h : wire a = wire b) : a = b := by
  have h1 := parseL_wire a ha
  rw [h, parseL_wire b hb] at h1
  injection h1 with h1
  exact h1.symm
theorem wire_nil_iff : wire ls = [] ↔ ls = [] := by
  cases ls with
  | nil => simp [wire]
  | cons a l => simp [wire]
end

/-- What the walk asks of a name at a label's beginning. -/
theorem strip_at {s t : ByteArray} {ls ms : List (List UInt8)} (hl : labelsOf s = some ls) (hm : labelsOf t = some ms) {k : Nat} (hk : k < ls.length) :
    ∃ hp : pos ls k < s.size, (s[pos ls k]'hp).toNat = ls[k].length ∧ pos ls (k + 1) = pos ls k + 1 + ls[k].length ∧ pos ls (k + 1) ≤ s.size ∧ s.size ≤ 254 ∧
      ((s.extract (pos ls k) s.size).toList == t.toList) = decide (ls.drop k = ms) ∧ Value.string (s.extract 0 (pos ls k)) = sv (wire (ls.take k)) := by
  have h1 := (nameLabels_iff _ _).1 hl
  have h2 := (nameLabels_iff _ _).1 hm
  have hsz : s.data.toList.length = s.size := by simp
  have hlen : s.size = (wire ls).length := by rw [← hsz, h1.2.1]
  have hp : pos ls k < s.size := by rw [hlen]; exact pos_lt hk
  have hok := h1.2.2 ls[k] (List.getElem_mem hk)
  simp only [okLabel, Bool.and_eq_true, decide_eq_true_eq] at hok
  refine ⟨hp, ?_, pos_succ hk, by rw [hlen]; exact pos_le _ _, by rw [← hsz]; exact h1.1, ?_, ?_⟩
  · rw [← toList_get s _ hp]
    have h3 := wire_at hk
    simp only [h1.2.1, h3]
    exact UInt8.toNat_ofNat_of_lt' (by have : UInt8.size = 256 := rfl; omega)
  · rw [ByteArray.toList_eq, ByteArray.toList_eq, h2.2.1]
    have h3 : (s.extract (pos ls k) s.size).data.toList = wire (ls.drop k) := by
      rw [← wire_drop, ← h1.2.1]
      simp only [ByteArray.data_extract, Array.toList_extract, List.extract_eq_take_drop]
      exact List.take_of_length_le (by simp)
    rw [h3]
    by_cases hd : ls.drop k = ms
    · rw [hd]; simp
    · have : wire (ls.drop k) ≠ wire ms := fun h => hd (wire_inj (fun x hx => h1.2.2 x (List.mem_of_mem_drop hx)) h2.2.2 h)
      simp [hd, this]
  · rw [ba_extract, ← wire_take, ← h1.2.1]
    congr 1

set_option maxHeartbeats 3200000 in
theorem strip_any (s t : ByteArray) (w : World) (hs : s.size ≤ maxLen) (ht : t.size ≤ maxLen) :
    Calls Tryd.prog 27 #[.string s, .string t] w fun e w' => e = .returned (.tuple #[sv ((stripOf s t).getD []), .bool (stripOf s t).isSome]) ∧ Below w.heap.size w w' := by
  have hms := fun w => may_any s w hs
  have hmt := fun w => may_any t w ht
  cases hl : labelsOf s with
  | none =>
    have hst : stripOf s t = none := by unfold stripOf; rw [hl]
    rw [hst]
    rw [hl] at hms
    have HS := Lib.hid hms
    clear hms hmt hl hst
    go_enter Tryd.func27, Tryd.ntmps27
    go_wp2_with fail
    refine (HS.out _).mono ?_
    rintro e w1 ⟨rfl, hb⟩
    go_wp2_with fail
    go_ret2
    exact ⟨rfl, hb⟩
  | some ls =>
    cases hm : labelsOf t with
    | none =>
      have hst : stripOf s t = none := by unfold stripOf; rw [hl, hm]
      rw [hst]
      rw [hl] at hms
      rw [hm] at hmt
      have HS := Lib.hid hms
      have HT := Lib.hid hmt
      clear hms hmt hl hst
      go_enter Tryd.func27, Tryd.ntmps27
      go_wp2_with fail
      refine (HS.out _).mono ?_
      rintro e w1 ⟨rfl, hb1⟩
      go_wp2_with fail
      refine (HT.out _).mono ?_
      rintro e w2 ⟨rfl, hb2⟩
      have hb := hb1.trans (hb2.mono hb1.size)
      clear hb1 hb2
      go_wp2_with fail
      go_ret2
      exact ⟨rfl, hb⟩
    | some ms =>
      have hst : stripOf s t = (stripL ls ms).map wire := by unfold stripOf; rw [hl, hm]
      have hat := fun k hk => @strip_at s t ls ms hl hm k hk
      have h1 := (nameLabels_iff _ _).1 hl
      have h2 := (nameLabels_iff _ _).1 hm
      have hsz : s.data.toList.length = s.size := by simp
      have htz : t.data.toList.length = t.size := by simp
      have hlen : s.size = (wire ls).length := by rw [← hsz, h1.2.1]
      have hall : pos ls ls.length = s.size := by rw [hlen]; exact pos_all
      have hsv : sv (wire ls) = .string s := by rw [← h1.2.1, sv_bytes]
      have htm : t.data.toList = wire ms := h2.2.1
      rw [hl] at hms
      rw [hm] at hmt
      have HS := Lib.hid hms
      have HT := Lib.hid hmt
      have HR := Lib.hid hst
      have HA := Lib.hid hat
      have HV := Lib.hid hsv
      have HM := Lib.hid htm
      clear hms hmt hl hm hst h1 h2 hsz hlen hat hsv htm
      go_enter Tryd.func27, Tryd.ntmps27
      go_wp2_with fail
      refine (HS.out _).mono ?_
      rintro e w1 ⟨rfl, hb1⟩
      go_wp2_with fail
      refine (HT.out _).mono ?_
      rintro e w2 ⟨rfl, hb2⟩
      have hb := hb1.trans (hb2.mono hb1.size)
      clear hb1 hb2
      go_wp2_with fail
      go_loop [6] (fun i => ∃ k : Nat, i = .int .i64 (pos ls k) ∧ k ≤ ls.length ∧ Hid (∀ j, j < k → ls.drop j ≠ ms)) (fun i => s.size - (intOf i).toNat)
      case atStart => exact ⟨0, by simp [pos, wire], Nat.zero_le _, Lib.hid (fun j hj => absurd hj (Nat.not_lt_zero _))⟩
      case round =>
        obtain ⟨k, rfl, hk, hno⟩ := hrel
        by_cases hlt : k < ls.length
        · obtain ⟨hp, hbyte, hsucc, hle, h254, htest, hres⟩ := HA.out k hlt
          by_cases hd : ls.drop k = ms
          · have hf := stripL_found hk hd
            rw [decide_eq_true hd] at htest
            have hp' : ((pos ls k : Nat) : Int) < s.size := by omega
            have HF := Lib.hid hf
            have HQ := Lib.hid hres
            clear hf hres hd hsucc hbyte
            go_wp2_with fail
            go_ret2
            refine ⟨?_, hb⟩
            rw [HR.out, HF.out]
            simp only [Option.map_some, Option.getD_some, Option.isSome_some]
            rw [← HQ.out]
            rfl
          · rw [decide_eq_false hd] at htest
            have hp' : ((pos ls k : Nat) : Int) < s.size := by omega
            have HD := Lib.hid hd
            have HU := Lib.hid hsucc
            have i1 : IntKind.i64.wrap (ls[k].length : Int) = ls[k].length := IntWalk.i64_in _ (by omega)
            generalize ls[k].length = m at *
            clear hres hd
            go_wp2_with fail
            go_round
            case rel => exact ⟨k + 1, by rw [HU.out]; go_num, by omega, Lib.hid (fun j hj => by
              rcases Nat.lt_or_ge j k with h | h
              · exact hno.out j h
              · obtain rfl : j = k := by omega
                exact HD.out)⟩
            case measure => simp [intOf]; omega
        · obtain rfl : k = ls.length := by omega
          have hp' : ¬ ((pos ls ls.length : Nat) : Int) < s.size := by omega
          by_cases hm0 : ms = []
          · have hf := stripL_found (Nat.le_refl ls.length) (show ls.drop ls.length = ms by rw [hm0]; simp)
            rw [List.take_length] at hf
            have ht0 : t.size = 0 := by rw [← htz, HM.out, hm0]; rfl
            have he : t = ⟨#[]⟩ := by
              apply ByteArray.ext
              apply Array.eq_empty_of_size_eq_zero
              exact ht0
            subst he
            have HF := Lib.hid hf
            clear hf
            go_wp2_with fail
            go_ret2
            refine ⟨?_, hb⟩
            rw [HR.out, HF.out]
            simp only [Option.map_some, Option.getD_some, Option.isSome_some]
            rw [HV.out]
            rfl
          · have hf := stripL_none hno.out hm0
            have ht0 : t.size ≠ 0 := by
              rw [← htz, HM.out]
              intro h
              exact hm0 (wire_nil_iff.1 (List.eq_nil_of_length_eq_zero h))
            have hne := str_empty t ht0
            have hne' := str_empty' t ht0
            have HF := Lib.hid hf
            clear hf
            go_wp2_with fail
            go_ret2
            refine ⟨?_, hb⟩
            rw [HR.out, HF.out]
            rfl

theorem below_any (s t : ByteArray) (w : World) (hs : s.size ≤ maxLen) (ht : t.size ≤ maxLen) :
    Calls Tryd.prog 19 #[.string s, .string t] w fun e w' => e = .returned (.bool (stripOf s t).isSome) ∧ Below w.heap.size w w' := by
  go_enter Tryd.func19, Tryd.ntmps19
  go_wp2_with (go_at_call 27; refine (strip_any s t _ hs ht).mono ?_; rintro e w1 ⟨rfl, hb⟩)
  go_ret
  exact ⟨rfl, hb⟩
end Go.Proofs.YtkdknfedieeenaaDoor
