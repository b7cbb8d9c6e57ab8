/- The contract of Make. -/
import Derived.Test.YtkdknfedieeenaaGreatDoorNameB
namespace Go.Proofs.YtkdknfedieeenaaGreatDoor
open Go.RowKit
set_option linter.unusedVariables false

def lowL (ls : List (List UInt8)) : List (List UInt8) := ls.map (·.map fold8)
def okLen (l : List UInt8) : Bool := decide (1 ≤ l.length ∧ l.length ≤ 63)
def makeL (ls : List (List UInt8)) : Option (List UInt8) := if ls.all okLen = true ∧ (wire (lowL ls)).length ≤ 254 then some (wire (lowL ls)) else none
theorem lowL_append (a b : List (List UInt8)) : lowL (a ++ b) = lowL a ++ lowL b := by simp [lowL]
theorem wire_length_le (a b : List (List UInt8)) : (wire a).length ≤ (wire (a ++ b)).length := by rw [wire_append]; simp

def Made (ls : List (List UInt8)) (k : Nat) (out : List UInt8) : Prop := k ≤ ls.length ∧ out = wire (lowL (ls.take k)) ∧ (ls.take k).all okLen = true ∧ out.length ≤ 254
section
variable {ls : List (List UInt8)} {k : Nat} {out : List UInt8}
theorem Made.start (ls : List (List UInt8)) : Made ls 0 [] := ⟨Nat.zero_le _, by simp [lowL, wire], by simp, by simp⟩
theorem Made.wire_next (h : Made ls k out) (hk : k < ls.length) : wire (lowL (ls.take (k + 1))) = out ++ UInt8.ofNat ls[k].length :: ls[k].map fold8 := by
  rw [List.take_succ_eq_append_getElem hk, lowL_append, wire_append, ← h.2.1]
  simp [lowL, wire]
theorem Made.next (h : Made ls k out) (hk : k < ls.length) (h1 : 1 ≤ ls[k].length) (h2 : ls[k].length ≤ 63) (h3 : out.length + 1 + ls[k].length ≤ 254) : Made ls (k + 1) (out ++ UInt8.ofNat ls[k].length :: ls[k].map fold8) := by
  refine ⟨hk, (h.wire_next hk).symm, ?_, by simp; omega⟩
  rw [List.take_succ_eq_append_getElem hk, List.all_append, h.2.2.1]
  simp [okLen, h1, h2]
theorem Made.bad (h : Made ls k out) (hk : k < ls.length) (hb : ls[k].length < 1 ∨ 63 < ls[k].length ∨ 254 < out.length + 1 + ls[k].length) : makeL ls = none := by
  unfold makeL
  rw [if_neg]
  rintro ⟨h1, h2⟩
  rw [List.all_eq_true] at h1
  have h3 := h1 ls[k] (List.getElem_mem hk)
  simp only [okLen, decide_eq_true_eq] at h3
  have h4 : (wire (lowL (ls.take (k + 1)))).length ≤ (wire (lowL ls)).length := by
    have h5 := wire_length_le (lowL (ls.take (k + 1))) (lowL (ls.drop (k + 1)))
    rwa [← lowL_append, List.take_append_drop] at h5
  rw [h.wire_next hk] at h4
  simp at h4
  omega
theorem Made.done (h : Made ls k out) (hk : ¬ k < ls.length) : makeL ls = some out := by
  have he : ls.take k = ls := List.take_of_length_le (by omega)
  have h1 := h.2.1; have h2 := h.2.2.1; have h3 := h.2.2.2
  rw [he] at h1 h2
  unfold makeL
  rw [if_pos ⟨h2, by rw [← h1]; exact h3⟩, h1]
end

def bytesOf (ts : List ByteArray) : List (List UInt8) := ts.map (·.data.toList)
def makeOf (ts : List ByteArray) : Option (List UInt8) := makeL (bytesOf ts)
def nameOf (ts : List ByteArray) : List UInt8 := (makeOf ts).getD []
theorem bytesOf_length (ts : List ByteArray) : (bytesOf ts).length = ts.length := by simp [bytesOf]
theorem bytesOf_get (ts : List ByteArray) (k : Nat) (h : k < ts.length) : (bytesOf ts)[k]'(by rw [bytesOf_length]; exact h) = ts[k].data.toList := by simp [bytesOf]
theorem byte_val (n : Nat) (h : n < 256) : Value.int .u8 (n : Int) = bv (UInt8.ofNat n) := by
  unfold bv
  rw [UInt8.toNat_ofNat_of_lt' (by have : UInt8.size = 256 := rfl; omega)]

theorem byte_info : (Tryz.prog.info? 5).map (fun i => (i.zero, i.size, i.bytes)) = some (some (.int .u8 0), 1, 1) := by kernel_rfl

set_option maxHeartbeats 1600000 in
theorem make_any (A : Option Addr) (n c : Nat) (ts : List ByteArray) (w : World) (hA : Sl w w.heap.size 1 A n (ts.map .string)) (hsz : ∀ t ∈ ts, t.size ≤ maxLen) (hn : n ≤ maxLen) :
    Calls Tryz.prog 39 #[.slice A n c] w fun e w' => e = .returned (.tuple #[sv (nameOf ts), .bool (makeOf ts).isSome]) ∧ Below w.heap.size w w' := by
  obtain ⟨i0, hi, hz0, hz1, hz2⟩ := info_parts byte_info
  have hts : ts.length = n := by simpa using hA.1
  unfold maxLen at hn
  go_enter Tryz.func39, Tryz.ntmps39
  go_wp2_with fail
  go_loopw [4, 10] (fun v i wr => ∃ (k : Nat) (out : List UInt8), i = .int .i64 k ∧ Hid (Made (bytesOf ts) k out) ∧ Buf w.heap.size 5 w v out.length (out.map bv) wr) (fun _ i _ => n - (intOf i).toNat)
  case atStart => exact ⟨0, [], rfl, Lib.hid (Made.start _), Buf.start _ _⟩
  case round =>
    obtain ⟨k, out, rfl, hr, hb⟩ := hrel
    have hk0 := hr.out.1
    have ho := hr.out.2.2.2
    rw [bytesOf_length, hts] at hk0
    obtain ⟨D, cd, rfl, hd1, hd2, hd3⟩ := hb.slice
    by_cases hlt : k < n
    · obtain ⟨b, off, u, rfl, hbb, hu, hc⟩ := hA.at_ hlt
      have hkl : k < ts.length := by omega
      have hku := bytesOf_get ts k hkl
      have hzk := hsz ts[k] (List.getElem_mem hkl)
      have hcell : wr.cell? ⟨b, off + k, none⟩ = some (.string ts[k]) := by
        rw [hb.below.cell hbb, hc]
        simp only [List.getElem?_map, List.getElem?_eq_getElem hkl, Option.map_some] at hu
        exact hu.symm
      have hlt' : (k : Int) < n := by omega
      have hbad := fun h => hr.out.bad (by rw [bytesOf_length]; exact hkl) h
      have hgood := fun h1 h2 h3 => hr.out.next (by rw [bytesOf_length]; exact hkl) h1 h2 h3
      rw [hku] at hbad hgood
      generalize ts[k] = t at *
      have htl : t.data.toList.length = t.size := by simp
      rw [htl] at hbad hgood
      clear hc hu hku
      unfold maxLen at hzk
      by_cases hok : 1 ≤ t.size ∧ t.size ≤ 63 ∧ out.length + 1 + t.size ≤ 254
      · have HG := Lib.hid (hgood hok.1 hok.2.1 hok.2.2)
        clear hbad hgood
        obtain ⟨g1, g2, g3⟩ := hok
        have a1 : ¬ (t.size : Int) < 1 := by omega
        have a2 : ¬ (63 : Int) < t.size := by omega
        have a3 : ¬ (254 : Int) < (out.length : Int) + 1 + t.size := by omega
        have w1 : IntKind.u8.wrap (t.size : Int) = t.size := by simp [IntKind.wrap, IntKind.bits, IntKind.signed]; omega
        have hbyte := Lib.hid (byte_val t.size (by omega))
        go_wp2_with (at_builtin; go_loud (refine wpList_append_one rfl _ _ 23 rfl w.heap.size 5 i0 _ 1 Tryz.underlying23 hi hz0 hz1 hz2 rfl hb rfl rfl rfl ?c1 ?c2 ?_))
        case c1 => unfold maxLen; omega
        case c2 => omega
        intro v' w2 hb2
        rw [hbyte.out] at hb2
        go_wp2
        go_loopw [4, 39] (fun v i wr => ∃ j : Nat, i = .int .i64 j ∧ j ≤ t.size ∧ Buf w.heap.size 5 w v (out.length + 1 + j) ((out ++ UInt8.ofNat t.size :: (t.data.toList.take j).map fold8).map bv) wr) (fun _ i _ => t.size - (intOf i).toNat)
        case atStart => exact ⟨0, rfl, Nat.zero_le _, by simpa using hb2⟩
        case round =>
          obtain ⟨j, rfl, hj, hb3⟩ := hrel
          obtain ⟨D3, cd3, rfl, hd31, hd32, hd33⟩ := hb3.slice
          by_cases hjl : j < t.size
          · have hjl' : (j : Int) < t.size := by omega
            have hf := fun w => fold_any t[j] w
            have htake : (t.data.toList.take (j + 1)).map fold8 = (t.data.toList.take j).map fold8 ++ [fold8 t[j]] := by
              rw [List.take_succ_eq_append_getElem (by omega), List.map_append, toList_get t j hjl]; rfl
            have HF := Lib.hid hf
            have HT := Lib.hid htake
            clear hf htake
            go_wp2_with (first
              | (go_at_call 74; refine (HF.out _).mono ?_; rintro e w4 ⟨rfl, rfl⟩)
              | (at_builtin; go_loud (refine wpList_append_one rfl _ _ 23 rfl w.heap.size 5 i0 _ 1 Tryz.underlying23 hi hz0 hz1 hz2 rfl hb3 rfl rfl rfl ?d1 ?d2 ?_)))
            case d1 => unfold maxLen; omega
            case d2 => omega
            intro v' w5 hb5
            go_wp2
            go_roundw
            case rel => exact ⟨j + 1, by go_num, by omega, by rw [HT.out]; simpa [bv, Nat.add_assoc] using hb5⟩
            case measure => simp [intOf]; omega
          · obtain rfl : j = t.size := by omega
            rw [List.take_of_length_le (by omega)] at hb3
            have hlen : (out ++ UInt8.ofNat t.size :: t.data.toList.map fold8).length = out.length + 1 + t.size := by simp; omega
            have HB := Lib.hid hb3
            have HL := Lib.hid hlen
            clear hb3 hlen
            go_wp2
            go_roundw
            case rel => exact ⟨k + 1, _, by go_num, HG, by rw [HL.out]; exact HB.out⟩
            case measure => simp [intOf]; omega
      · have hnone : makeOf ts = none := hbad (by omega)
        have hname : nameOf ts = [] := by unfold nameOf; rw [hnone]; rfl
        have hb' := hb.below
        have hc3 : t.size < 1 ∨ (1 ≤ t.size ∧ 63 < t.size) ∨ (1 ≤ t.size ∧ t.size ≤ 63 ∧ 254 < out.length + 1 + t.size) := by omega
        have HN := Lib.hid hnone
        have HM := Lib.hid hname
        clear hbad hgood hok hnone hname
        rcases hc3 with h | ⟨h, h'⟩ | ⟨h, h', h''⟩
        · have a1 : (t.size : Int) < 1 := by omega
          go_wp2
          go_ret2
          exact ⟨by rw [HN.out, HM.out]; rfl, hb'⟩
        · have a1 : ¬ (t.size : Int) < 1 := by omega
          have a2 : (63 : Int) < t.size := by omega
          go_wp2
          go_ret2
          exact ⟨by rw [HN.out, HM.out]; rfl, hb'⟩
        · have a1 : ¬ (t.size : Int) < 1 := by omega
          have a2 : ¬ (63 : Int) < t.size := by omega
          have a3 : (254 : Int) < (out.length : Int) + 1 + t.size := by omega
          go_wp2
          go_ret2
          exact ⟨by rw [HN.out, HM.out]; rfl, hb'⟩
    · have hdone : makeOf ts = some out := hr.out.done (by rw [bytesOf_length]; omega)
      have hname : nameOf ts = out := by unfold nameOf; rw [hdone]; rfl
      have hlt' : ¬ (k : Int) < n := by omega
      have hb' := hb.below
      have hcv := run_string_of (P := Tryz.prog) wr 23 25 5 _ D out.length out Tryz.underlying23 Tryz.underlying5 Tryz.underlying25 hb.sl (fun h => (hd3 h).1) cd
      have HN := Lib.hid hdone
      have HM := Lib.hid hname
      clear hdone hname
      go_wp2
      go_ret2
      exact ⟨by rw [HN.out, HM.out]; rfl, hb'⟩
end Go.Proofs.YtkdknfedieeenaaGreatDoor
