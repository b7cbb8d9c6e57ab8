/- Texts that walks stand on, one behind the other. -/
import Derived.Test.YteaeplceahdioaaDoorMgSD
import Derived.Test.YteaeplceahdioaaDoorMgSC
import Derived.Test.YteaeplceahdioaaDoorNameC
import Derived.Test.YteaeplceahdioaaDoorMgSA
import Derived.Outline
import Derived.Test.YteaeplceahdioaaDoorView
import Derived.Test.YteaeplceahdioaaDoorNameW
import Derived.Test.YteaeplceahdioaaDoorOb
import Derived.Test.YteaeplceahdioaaDoorMgSB
import Derived.Sort.Grow
import Derived.Shelf.SlSortCmp.InsertionK
import Derived.Test.YteaeplceahdioaaDoorShelf
import Derived.Shelf.SlSortCmp.NoneTotal
import Derived.Test.YteaeplceahdioaaDoorCard
import Derived.Laws.OwnMore
import Derived.Test.YteaeplceahdioaaDoorRows
import Derived.ChangeVars
import Derived.LaidLaws
import Derived.LaidHandle
import Derived.Stop.Joined
namespace Go.Proofs.YteaeplceahdioaaDoor
open Go.RowKit
set_option linter.unusedVariables false
set_option linter.unusedSimpArgs false
def le10 (x y : RecT) : Bool := decide (cmpR x y ≤ 0)
def msR (rs : List RecT) : List RecT := rs.mergeSort le10
theorem msR_perm (rs : List RecT) : (msR rs).Perm rs := List.mergeSort_perm rs le10
theorem msR_len (rs : List RecT) : (msR rs).length = rs.length := (msR_perm rs).length_eq
theorem msR_mem {rs : List RecT} {q : RecT} : q ∈ msR rs ↔ q ∈ rs := (msR_perm rs).mem_iff
theorem msR_sorted (rs : List RecT) : (msR rs).Pairwise fun x y => cmpR x y ≤ 0 := by
  have h := List.pairwise_mergeSort (le := le10) (fun a b c h1 h2 => by
    unfold le10 at *
    simp only [decide_eq_true_eq] at *
    exact cmpR_is.trans a b c h1 h2) (fun a b => by
    unfold le10
    have := cmpR_is.swap a b
    simp only [Bool.or_eq_true, decide_eq_true_eq]
    omega) rs
  exact List.Pairwise.imp (fun h => by unfold le10 at h; simpa using h) h
theorem msR_rising {rs : List RecT} (h : ∀ i x y, (msR rs)[i]? = some x → (msR rs)[i + 1]? = some y → x ≠ y) : Rising (msR rs) := by
  refine List.pairwise_iff_getElem.2 (fun i j hi hj hij => ?_)
  have hs := List.pairwise_iff_getElem.1 (msR_sorted rs)
  have h1 : (msR rs)[i] ≠ (msR rs)[i + 1] := h i _ _ (List.getElem?_eq_getElem hi) (List.getElem?_eq_getElem (by omega))
  have h2 : cmpR (msR rs)[i] (msR rs)[i + 1] < 0 := by
    have a := hs i (i + 1) hi (by omega) (by omega)
    rcases Int.lt_or_eq_of_le a with a | a
    · exact a
    · exact absurd ((cmpR_is.zero _ _).1 a) h1
  rcases Nat.eq_or_lt_of_le (Nat.succ_le_of_lt hij) with e | e
  · subst e; exact h2
  · exact cmpR_is.lt_of_lt_le h2 (hs (i + 1) j (by omega) hj (by omega))
theorem msR_eq {rs : List RecT} (h : Rising (msR rs)) : msR rs = sortedR rs :=
  rising_ext h (sortedR_rising rs) (fun q => by rw [msR_mem, sortedR_mem])
theorem foldl_full : ∀ (rs out : List RecT), Rising out → (rs.foldl stepS out).length = out.length + rs.length → rs.Nodup ∧ ∀ r ∈ rs, r ∉ out
  | [], out, _, _ => ⟨List.nodup_nil, by simp⟩
  | r :: rs, out, h, hl => by
    have hle := foldl_le rs (stepS out r)
    rw [List.foldl_cons, List.length_cons] at hl
    by_cases hr : r ∈ out
    · rw [stepS_old h hr] at hl hle; omega
    · have e := stepS_new hr
      rw [e] at hl
      obtain ⟨h1, h2⟩ := foldl_full rs (insR out r) (insR_rising h hr) (by rw [insR_len]; omega)
      refine ⟨List.nodup_cons.2 ⟨fun hm => h2 r hm (insR_has _ _), h1⟩, fun q hq => ?_⟩
      rcases List.mem_cons.1 hq with rfl | hq
      · exact hr
      · exact fun ho => h2 q hq (insR_keeps ho)
theorem sortedR_full {rs : List RecT} (h : (sortedR rs).length = rs.length) : rs.Nodup := (foldl_full rs [] List.Pairwise.nil (by unfold sortedR at h; simpa using h)).1
theorem msR_twice {rs : List RecT} {i : Nat} {x : RecT} (h1 : (msR rs)[i]? = some x) (h2 : (msR rs)[i + 1]? = some x) : (sortedR rs).length ≠ rs.length := fun hl => by
  have hn := (msR_perm rs).symm.nodup (sortedR_full hl)
  obtain ⟨a1, e1⟩ := List.getElem?_eq_some_iff.1 h1
  obtain ⟨a2, e2⟩ := List.getElem?_eq_some_iff.1 h2
  exact List.pairwise_iff_getElem.1 hn i (i + 1) a1 a2 (by omega) (e1.trans e2.symm)
/-- In the midst of the search for two alike. -/
def apartTo (l : List RecT) (k : Nat) : Prop := ∀ i x y, i + 1 < k → l[i]? = some x → l[i + 1]? = some y → x ≠ y
theorem apartTo_next {l : List RecT} {k : Nat} {x y : RecT} (h : apartTo l k) (hx : l[k - 1]? = some x) (hy : l[k]? = some y) (hne : x ≠ y) : apartTo l (k + 1) := by
  intro i a b hi ha hb
  by_cases e : i + 1 = k
  · subst e
    rw [Nat.add_sub_cancel, ha] at hx
    rw [hb] at hy
    injection hx with hx; injection hy with hy
    subst hx hy
    exact hne
  · exact h i a b (by omega) ha hb
theorem apartTo_all {rs : List RecT} {k : Nat} (h : apartTo (msR rs) k) (hk : rs.length ≤ k) : msR rs = sortedR rs := by
  refine msR_eq (msR_rising (fun i x y hx hy => ?_))
  have h2 := (List.getElem?_eq_some_iff.1 hy).1
  rw [msR_len] at h2
  exact h i x y (by omega) hx hy
end Go.Proofs.YteaeplceahdioaaDoor
namespace Go.Proofs.YteaeplceahdioaaDoor
open Go.RowKit
set_option linter.unusedVariables false

def stripL (ls ms : List (List UInt8)) : Option (List (List UInt8)) := if ms.length ≤ ls.length ∧ ls.drop (ls.length - ms.length) = ms then some (ls.take (ls.length - ms.length)) else none
def stripOf (s t : ByteArray) : Option (List UInt8) := match labelsOf s, labelsOf t with | some ls, some ms => (stripL ls ms).map wire | _, _ => none
def pos (ls : List (List UInt8)) (k : Nat) : Nat := (wire (ls.take k)).length
section
variable {ls ms : List (List UInt8)}
theorem stripL_found {k : Nat} (hk : k ≤ ls.length) (h : ls.drop k = ms) : stripL ls ms = some (ls.take k) := by
  have hl : ms.length = ls.length - k := by rw [← h]; simp
  have e : ls.length - ms.length = k := by omega
  unfold stripL
  rw [e, if_pos ⟨by omega, h⟩]
theorem stripL_none (h : ∀ j, j < ls.length → ls.drop j ≠ ms) (hm : ms ≠ []) : stripL ls ms = none := by
  unfold stripL
  rw [if_neg]
  rintro ⟨h1, h2⟩
  have h3 : 0 < ms.length := List.length_pos_iff.2 hm
  exact h (ls.length - ms.length) (by omega) h2
theorem wire_drop (ls : List (List UInt8)) (k : Nat) : (wire ls).drop (pos ls k) = wire (ls.drop k) := by
  have h : wire ls = wire (ls.take k) ++ wire (ls.drop k) := by rw [← wire_append, List.take_append_drop]
  rw [h]
  exact List.drop_left
theorem wire_take (ls : List (List UInt8)) (k : Nat) : (wire ls).take (pos ls k) = wire (ls.take k) := by
  have h : wire ls = wire (ls.take k) ++ wire (ls.drop k) := by rw [← wire_append, List.take_append_drop]
  rw [h]
  exact List.take_left
theorem pos_succ {k : Nat} (hk : k < ls.length) : pos ls (k + 1) = pos ls k + 1 + ls[k].length := by
  unfold pos
  rw [List.take_succ_eq_append_getElem hk, wire_append]
  simp [wire]; omega
theorem pos_le (ls : List (List UInt8)) (k : Nat) : pos ls k ≤ (wire ls).length := by
  have := wire_length_le (ls.take k) (ls.drop k)
  rwa [List.take_append_drop] at this
theorem pos_lt {k : Nat} (hk : k < ls.length) : pos ls k < (wire ls).length := by
  have h1 := pos_succ hk
  have h2 := pos_le ls (k + 1)
  omega
theorem pos_all : pos ls ls.length = (wire ls).length := by unfold pos; rw [List.take_length]
theorem wire_at {k : Nat} (hk : k < ls.length) : (wire ls)[pos ls k]'(pos_lt hk) = UInt8.ofNat ls[k].length := by
  have h1 := wire_drop ls k
  rw [List.drop_eq_getElem_cons hk, wire_cons, List.drop_eq_getElem_cons (pos_lt hk)] at h1
  injection h1
theorem wire_inj {a b : List (List UInt8)} (ha : ∀ x ∈ a, okLabel x = true) (hb : ∀ x ∈ b, okLabel x = true) (h : wire a = wire b) : a = b := by
  have h1 := parseL_wire a ha
  rw [h, parseL_wire b hb] at h1
  injection h1 with h1
  exact h1.symm
theorem wire_nil_iff : wire ls = [] ↔ ls = [] := by
  cases ls with
  | nil => simp [wire]
  | cons a l => simp [wire]
end

/-- What the walk asks of a name at a label's beginning. -/
theorem strip_at {s t : ByteArray} {ls ms : List (List UInt8)} (hl : labelsOf s = some ls) (hm : labelsOf t = some ms) {k : Nat} (hk : k < ls.length) :
    ∃ hp : pos ls k < s.size, (s[pos ls k]'hp).toNat = ls[k].length ∧ pos ls (k + 1) = pos ls k + 1 + ls[k].length ∧ pos ls (k + 1) ≤ s.size ∧ s.size ≤ 254 ∧
      ((s.extract (pos ls k) s.size).toList == t.toList) = decide (ls.drop k = ms) ∧ Value.string (s.extract 0 (pos ls k)) = sv (wire (ls.take k)) := by
  have h1 := (nameLabels_iff _ _).1 hl
  have h2 := (nameLabels_iff _ _).1 hm
  have hsz : s.data.toList.length = s.size := by simp
  have hlen : s.size = (wire ls).length := by rw [← hsz, h1.2.1]
  have hp : pos ls k < s.size := by rw [hlen]; exact pos_lt hk
  have hok := h1.2.2 ls[k] (List.getElem_mem hk)
  simp only [okLabel, Bool.and_eq_true, decide_eq_true_eq] at hok
  refine ⟨hp, ?_, pos_succ hk, by rw [hlen]; exact pos_le _ _, by rw [← hsz]; exact h1.1, ?_, ?_⟩
  · rw [← toList_get s _ hp]
    have h3 := wire_at hk
    simp only [h1.2.1, h3]
    exact UInt8.toNat_ofNat_of_lt' (by have : UInt8.size = 256 := rfl; omega)
  · rw [ByteArray.toList_eq, ByteArray.toList_eq, h2.2.1]
    have h3 : (s.extract (pos ls k) s.size).data.toList = wire (ls.drop k) := by
      rw [← wire_drop, ← h1.2.1]
      simp only [ByteArray.data_extract, Array.toList_extract, List.extract_eq_take_drop]
      exact List.take_of_length_le (by simp)
    rw [h3]
    by_cases hd : ls.drop k = ms
    · rw [hd]; simp
    · have : wire (ls.drop k) ≠ wire ms := fun h => hd (wire_inj (fun x hx => h1.2.2 x (List.mem_of_mem_drop hx)) h2.2.2 h)
      simp [hd, this]
  · rw [ba_extract, ← wire_take, ← h1.2.1]
    congr 1

set_option maxHeartbeats 3200000 in
theorem strip_any (s t : ByteArray) (w : World) (hs : s.size ≤ maxLen) (ht : t.size ≤ maxLen) :
    Calls Tryd.prog 82 #[.string s, .string t] w fun e w' => e = .returned (.tuple #[sv ((stripOf s t).getD []), .bool (stripOf s t).isSome]) ∧ Below w.heap.size w w' := by
  have hms := fun w => may_any s w hs
  have hmt := fun w => may_any t w ht
  cases hl : labelsOf s with
  | none =>
    have hst : stripOf s t = none := by unfold stripOf; rw [hl]
    rw [hst]
    rw [hl] at hms
    have HS := Lib.hid hms
    clear hms hmt hl hst
    go_enter Tryd.func82, Tryd.ntmps82
    go_wp2_with fail
    refine (HS.out _).mono ?_
    rintro e w1 ⟨rfl, hb⟩
    go_wp2_with fail
    go_ret2
    exact ⟨rfl, hb⟩
  | some ls =>
    cases hm : labelsOf t with
    | none =>
      have hst : stripOf s t = none := by unfold stripOf; rw [hl, hm]
      rw [hst]
      rw [hl] at hms
      rw [hm] at hmt
      have HS := Lib.hid hms
      have HT := Lib.hid hmt
      clear hms hmt hl hst
      go_enter Tryd.func82, Tryd.ntmps82
      go_wp2_with fail
      refine (HS.out _).mono ?_
      rintro e w1 ⟨rfl, hb1⟩
      go_wp2_with fail
      refine (HT.out _).mono ?_
      rintro e w2 ⟨rfl, hb2⟩
      have hb := hb1.trans (hb2.mono hb1.size)
      clear hb1 hb2
      go_wp2_with fail
      go_ret2
      exact ⟨rfl, hb⟩
    | some ms =>
      have hst : stripOf s t = (stripL ls ms).map wire := by unfold stripOf; rw [hl, hm]
      have hat := fun k hk => @strip_at s t ls ms hl hm k hk
      have h1 := (nameLabels_iff _ _).1 hl
      have h2 := (nameLabels_iff _ _).1 hm
      have hsz : s.data.toList.length = s.size := by simp
      have htz : t.data.toList.length = t.size := by simp
      have hlen : s.size = (wire ls).length := by rw [← hsz, h1.2.1]
      have hall : pos ls ls.length = s.size := by rw [hlen]; exact pos_all
      have hsv : sv (wire ls) = .string s := by rw [← h1.2.1, sv_bytes]
      have htm : t.data.toList = wire ms := h2.2.1
      rw [hl] at hms
      rw [hm] at hmt
      have HS := Lib.hid hms
      have HT := Lib.hid hmt
      have HR := Lib.hid hst
      have HA := Lib.hid hat
      have HV := Lib.hid hsv
      have HM := Lib.hid htm
      clear hms hmt hl hm hst h1 h2 hsz hlen hat hsv htm
      go_enter Tryd.func82, Tryd.ntmps82
      go_wp2_with fail
      refine (HS.out _).mono ?_
      rintro e w1 ⟨rfl, hb1⟩
      go_wp2_with fail
      refine (HT.out _).mono ?_
      rintro e w2 ⟨rfl, hb2⟩
      have hb := hb1.trans (hb2.mono hb1.size)
      clear hb1 hb2
      go_wp2_with fail
      go_loop [6] (fun i => ∃ k : Nat, i = .int .i64 (pos ls k) ∧ k ≤ ls.length ∧ Hid (∀ j, j < k → ls.drop j ≠ ms)) (fun i => s.size - (intOf i).toNat)
      case atStart => exact ⟨0, by simp [pos, wire], Nat.zero_le _, Lib.hid (fun j hj => absurd hj (Nat.not_lt_zero _))⟩
      case round =>
        obtain ⟨k, rfl, hk, hno⟩ := hrel
        by_cases hlt : k < ls.length
        · obtain ⟨hp, hbyte, hsucc, hle, h254, htest, hres⟩ := HA.out k hlt
          by_cases hd : ls.drop k = ms
          · have hf := stripL_found hk hd
            rw [decide_eq_true hd] at htest
            have hp' : ((pos ls k : Nat) : Int) < s.size := by omega
            have HF := Lib.hid hf
            have HQ := Lib.hid hres
            clear hf hres hd hsucc hbyte
            go_wp2_with fail
            go_ret2
            refine ⟨?_, hb⟩
            rw [HR.out, HF.out]
            simp only [Option.map_some, Option.getD_some, Option.isSome_some]
            rw [← HQ.out]
            rfl
          · rw [decide_eq_false hd] at htest
            have hp' : ((pos ls k : Nat) : Int) < s.size := by omega
            have HD := Lib.hid hd
            have HU := Lib.hid hsucc
            have i1 : IntKind.i64.wrap (ls[k].length : Int) = ls[k].length := IntWalk.i64_in _ (by omega)
            generalize ls[k].length = m at *
            clear hres hd
            go_wp2_with fail
            go_round
            case rel => exact ⟨k + 1, by rw [HU.out]; go_num, by omega, Lib.hid (fun j hj => by
              rcases Nat.lt_or_ge j k with h | h
              · exact hno.out j h
              · obtain rfl : j = k := by omega
                exact HD.out)⟩
            case measure => simp [intOf]; omega
        · obtain rfl : k = ls.length := by omega
          have hp' : ¬ ((pos ls ls.length : Nat) : Int) < s.size := by omega
          by_cases hm0 : ms = []
          · have hf := stripL_found (Nat.le_refl ls.length) (show ls.drop ls.length = ms by rw [hm0]; simp)
            rw [List.take_length] at hf
            have ht0 : t.size = 0 := by rw [← htz, HM.out, hm0]; rfl
            have he : t = ⟨#[]⟩ := by
              apply ByteArray.ext
              apply Array.eq_empty_of_size_eq_zero
              exact ht0
            subst he
            have HF := Lib.hid hf
            clear hf
            go_wp2_with fail
            go_ret2
            refine ⟨?_, hb⟩
            rw [HR.out, HF.out]
            simp only [Option.map_some, Option.getD_some, Option.isSome_some]
            rw [HV.out]
            rfl
          · have hf := stripL_none hno.out hm0
            have ht0 : t.size ≠ 0 := by
              rw [← htz, HM.out]
              intro h
              exact hm0 (wire_nil_iff.1 (List.eq_nil_of_length_eq_zero h))
            have hne := str_empty t ht0
            have hne' := str_empty' t ht0
            have HF := Lib.hid hf
            clear hf
            go_wp2_with fail
            go_ret2
            refine ⟨?_, hb⟩
            rw [HR.out, HF.out]
            rfl

theorem below_any (s t : ByteArray) (w : World) (hs : s.size ≤ maxLen) (ht : t.size ≤ maxLen) :
    Calls Tryd.prog 57 #[.string s, .string t] w fun e w' => e = .returned (.bool (stripOf s t).isSome) ∧ Below w.heap.size w w' := by
  go_enter Tryd.func57, Tryd.ntmps57
  go_wp2_with (go_at_call 82; refine (strip_any s t _ hs ht).mono ?_; rintro e w1 ⟨rfl, hb⟩)
  go_ret
  exact ⟨rfl, hb⟩
end Go.Proofs.YteaeplceahdioaaDoor
namespace Go.Proofs.YteaeplceahdioaaDoor
open Go.RowKit
set_option linter.unusedVariables false
set_option linter.unusedSimpArgs false
set_option maxRecDepth 20000
/-- The next text's place. -/
def stepT (s : ByteArray) (p : Nat) : Nat := if h : p < s.size then p + 1 + s[p].toNat else p
def runT (s : ByteArray) : Nat → Nat
  | 0 => 0
  | k + 1 => stepT s (runT s k)
theorem runT_stays {s : ByteArray} {k : Nat} (h : ¬ runT s k < s.size) : ∀ j, runT s (k + j) = runT s k
  | 0 => rfl
  | j + 1 => by
    have ih := runT_stays h j
    show stepT s (runT s (k + j)) = _
    rw [ih]; unfold stepT; rw [dif_neg h]
theorem runT_next {s : ByteArray} {k p : Nat} (h : runT s k = p) (hp : p < s.size) : runT s (k + 1) = p + 1 + s[p].toNat := by
  show stepT s (runT s k) = _
  subst h
  unfold stepT; rw [dif_pos hp]
theorem texts_any (s : ByteArray) (w : World) (hs : s.size ≤ 512) :
    Calls Tryd.prog 95 #[.string s] w fun e w' => e = .returned (.bool (decide (s.size ≠ 0) && decide (runT s s.size = s.size))) ∧ Below w.heap.size w w' := by
  obtain ⟨E, hE⟩ : ∃ E, runT s s.size = E := ⟨_, rfl⟩
  rw [hE]
  have HE := Lib.hid hE
  clear hE
  go_enter Tryd.func95, Tryd.ntmps95
  go_wp2_with fail
  go_loop [3] (fun i => ∃ p k : Nat, p ≤ s.size + 256 ∧ i = .int .i64 p ∧ k ≤ p ∧ k ≤ s.size ∧ Hid (runT s k = p)) (fun i => s.size + 256 - (intOf i).toNat)
  case atStart => exact ⟨0, 0, Nat.zero_le _, rfl, Nat.le_refl _, Nat.zero_le _, Lib.hid rfl⟩
  case round =>
    obtain ⟨p, k, hp, rfl, hkp, hks, hr⟩ := hrel
    by_cases hlt : p < s.size
    · have hlt' : (p : Int) < s.size := by omega
      have hnx := runT_next hr.out hlt
      have hge : ¬ (s.size : Int) ≤ p := by omega
      have hp0 : ¬ (p : Int) < 0 := by omega
      obtain ⟨x, hx⟩ : ∃ x, s[p] = x := ⟨_, rfl⟩
      obtain ⟨q, hxq⟩ : ∃ q, x.toNat = q := ⟨_, rfl⟩
      have hq256 : q < 256 := by rw [← hxq]; exact UInt8.toNat_lt _
      rw [hx, hxq] at hnx
      have HNX := Lib.hid hnx
      clear hnx
      have hw1 : IntKind.i64.wrap (q : Int) = q := by rw [IntKind.wrap_i64]; omega
      have hw2 : IntKind.i64.wrap (1 + (q : Int)) = 1 + q := by rw [IntKind.wrap_i64]; omega
      have hw3 : IntKind.i64.wrap ((p : Int) + (1 + (q : Int))) = ((p + 1 + q : Nat) : Int) := by rw [IntKind.wrap_i64]; omega
      have hi3 : ((p : Int) + (1 + (q : Int))) = ((p + 1 + q : Nat) : Int) := by omega
      go_wp2_with fail
      go_round
      case rel => exact ⟨p + 1 + q, k + 1, by omega, by first | rfl | rw [hi3] | rw [hw3] | go_num, by omega, by omega, HNX⟩
      case measure => simp [intOf]; omega
    · have hlt' : ¬ (p : Int) < s.size := by omega
      have hfin : runT s s.size = p := by
        obtain ⟨j, hj⟩ : ∃ j, s.size = k + j := ⟨s.size - k, by omega⟩
        rw [hj, runT_stays (by rw [hr.out]; exact hlt), hr.out]
      obtain rfl : E = p := HE.out.symm.trans hfin
      clear hfin
      by_cases h0 : s.size = 0
      · obtain rfl : s = ⟨#[]⟩ := by
          cases s with | mk a => simp [ByteArray.size] at h0; subst h0; rfl
        go_wp2_with fail
        go_ret
        exact ⟨by simp, Below.refl _ _⟩
      · have hse := str_empty s h0
        by_cases he : E = s.size
        · have heq : ((E : Int) == (s.size : Int)) = true := by simp [he]
          go_wp2_with fail
          go_ret
          exact ⟨by simp [h0, he], Below.refl _ _⟩
        · have heq : ((E : Int) == (s.size : Int)) = false := by simp; omega
          go_wp2_with fail
          go_ret
          exact ⟨by simp [h0, he], Below.refl _ _⟩
theorem cutSoa_some (s : ByteArray) (hs : s.size ≤ 100000) : ∃ q : Bool, ∀ w, Calls Tryd.prog 94 #[.string s] w fun e w' => (∃ a b c, e = .returned (.tuple #[a, b, c, .bool q])) ∧ Below w.heap.size w w' := by
  have key : ∀ w, Calls Tryd.prog 94 #[.string s] w fun e w' => (∃ a b c q, e = .returned (.tuple #[a, b, c, .bool q]) ∧ (q = true ↔ ∃ a b t, IsSoa s.data.toList a b t)) ∧ Below w.heap.size w w' := by
    intro w
    have HC := Lib.hid (fun w => cutp_any s w (by omega))
    go_enter Tryd.func94, Tryd.ntmps94
    go_wp2_with fail
    refine (HC.out w).mono ?_
    rintro e w1 ⟨hb1, ⟨n, t, hnt, rfl⟩ | ⟨hno, rfl⟩⟩
    · have HB1 := Lib.hid hb1
      have HNT := Lib.hid hnt
      have htl : t.length ≤ 100000 := by have := congrArg List.length hnt.2; simp at this; omega
      have HC2 := Lib.hid (fun w => cutp_any ⟨t.toArray⟩ w (by show t.toArray.size ≤ _; simp; omega))
      clear hb1 hnt
      rw [show sv t = .string ⟨t.toArray⟩ from rfl]
      go_wp2_with fail
      refine (HC2.out w1).mono ?_
      rintro e w2 ⟨hb2, ⟨n2, t2, hnt2, rfl⟩ | ⟨hno, rfl⟩⟩
      · have hnt2' : IsCut t n2 t2 := by simpa using hnt2
        have HB2 := Lib.hid (below_trans HB1.out HB1.out.size hb2)
        have HNT2 := Lib.hid hnt2'
        have htl2 : t2.length ≤ 100000 := by have := congrArg List.length hnt2'.2; simp at this; omega
        clear hb2 hnt2 hnt2'
        obtain ⟨T, hT⟩ : ∃ T : ByteArray, T = ⟨t2.toArray⟩ := ⟨_, rfl⟩
        have hTs : T.size = t2.length := by rw [hT]; simp [ByteArray.size]
        rw [show sv t2 = .string ⟨t2.toArray⟩ from rfl, ← hT]
        by_cases h20 : T.size = 20
        · have heq : ((T.size : Int) != 20) = false := by simp [h20]
          go_wp2_with fail
          refine bodyPost_ret (v := .tuple #[sv n, sv n2, .string T, .bool true]) (by simp [results, Tryd.results94, go_sem, hT]) rfl ?_
          exact ⟨⟨_, _, _, _, rfl, by simp; exact ⟨n, n2, t2, by have h := HNT.out; have h2 := HNT2.out; exact ⟨⟨h.1, by rw [h.2, h2.2]⟩, h2.1, by omega⟩⟩⟩, HB2.out⟩
        · have heq : ((T.size : Int) != 20) = true := by simp; omega
          go_wp2_with fail
          refine bodyPost_ret (v := .tuple #[.string ⟨#[]⟩, .string ⟨#[]⟩, .string ⟨#[]⟩, .bool false]) (by simp [results, Tryd.results94, go_sem]) rfl ?_
          refine ⟨⟨_, _, _, _, rfl, by
            simp
            intro a b t' hh
            have h1 := At.one hh.1 HNT.out
            have h2 := At.one (show IsCut t b t' from ⟨hh.2.1, h1.2.symm⟩) HNT2.out
            have := hh.2.2
            rw [h2.2] at this
            omega⟩, HB2.out⟩
      · have hno' : ∀ n2 t2, ¬ IsCut t n2 t2 := by simpa using hno
        have HB2 := Lib.hid (below_trans HB1.out HB1.out.size hb2)
        have HNO := Lib.hid hno'
        clear hb2 hno hno'
        go_wp2_with fail
        refine bodyPost_ret (v := .tuple #[.string ⟨#[]⟩, .string ⟨#[]⟩, .string ⟨#[]⟩, .bool false]) (by simp [results, Tryd.results94, go_sem]) rfl ?_
        refine ⟨⟨_, _, _, _, rfl, by
          simp
          intro a b t' hh
          have h1 := At.one hh.1 HNT.out
          exact HNO.out b t' ⟨hh.2.1, h1.2.symm⟩⟩, HB2.out⟩
    · have HB1 := Lib.hid hb1
      have HNO := Lib.hid hno
      clear hb1 hno
      go_wp2_with fail
      refine bodyPost_ret (v := .tuple #[.string ⟨#[]⟩, .string ⟨#[]⟩, .string ⟨#[]⟩, .bool false]) (by simp [results, Tryd.results94, go_sem]) rfl ?_
      exact ⟨⟨_, _, _, _, rfl, by simp; intro a b t' hh; exact HNO.out _ _ hh.1⟩, HB1.out⟩
  by_cases hq : ∃ a b t, IsSoa s.data.toList a b t
  · refine ⟨true, fun w => (key w).mono ?_⟩
    rintro e w' ⟨⟨a, b, c, q, rfl, h⟩, hb⟩
    rw [h.2 hq]
    exact ⟨⟨_, _, _, rfl⟩, hb⟩
  · refine ⟨false, fun w => (key w).mono ?_⟩
    rintro e w' ⟨⟨a, b, c, q, rfl, h⟩, hb⟩
    have : q = false := by cases q with | false => rfl | true => exact absurd (h.1 rfl) hq
    rw [this]
    exact ⟨⟨_, _, _, rfl⟩, hb⟩
theorem rmay_any (t : Int) (ht : 0 ≤ t ∧ t < 65536) (d : ByteArray) (hd : d.size ≤ 100000) : ∃ q : Bool, ∀ w, Calls Tryd.prog 81 #[.int .u16 t, .string d] w fun e w' => e = .returned (.bool q) ∧ Below w.heap.size w w' := by
  by_cases h1 : t = 1
  · subst h1
    refine ⟨decide (d.size = 4), fun w => ?_⟩
    have heq : ((d.size : Int) == 4) = decide (d.size = 4) := by by_cases h : d.size = 4 <;> simp [h]; omega
    go_enter Tryd.func81, Tryd.ntmps81
    go_wp2_with fail
    go_ret
    exact ⟨rfl, Below.refl _ _⟩
  have e1 : (t == 1) = false := by simp; omega
  by_cases h28 : t = 28
  · subst h28
    refine ⟨decide (d.size = 16), fun w => ?_⟩
    have heq : ((d.size : Int) == 16) = decide (d.size = 16) := by by_cases h : d.size = 16 <;> simp [h]; omega
    go_enter Tryd.func81, Tryd.ntmps81
    go_wp2_with fail
    go_ret
    exact ⟨rfl, Below.refl _ _⟩
  have e28 : (t == 28) = false := by simp; omega
  by_cases h2 : t = 2
  · subst h2
    refine ⟨(labelsOf d).isSome, fun w => ?_⟩
    have HM := Lib.hid (fun w => may_any d w (by unfold maxLen; omega))
    go_enter Tryd.func81, Tryd.ntmps81
    go_wp2_with fail
    refine (HM.out w).mono ?_
    rintro e w1 ⟨rfl, hb⟩
    go_wp2_with fail
    go_ret
    exact ⟨rfl, hb⟩
  have e2 : (t == 2) = false := by simp; omega
  by_cases h5 : t = 5
  · subst h5
    refine ⟨(labelsOf d).isSome, fun w => ?_⟩
    have HM := Lib.hid (fun w => may_any d w (by unfold maxLen; omega))
    go_enter Tryd.func81, Tryd.ntmps81
    go_wp2_with fail
    refine (HM.out w).mono ?_
    rintro e w1 ⟨rfl, hb⟩
    go_wp2_with fail
    go_ret
    exact ⟨rfl, hb⟩
  have e5 : (t == 5) = false := by simp; omega
  by_cases h6 : t = 6
  · subst h6
    obtain ⟨q, hq⟩ := cutSoa_some d hd
    refine ⟨q, fun w => ?_⟩
    have HM := Lib.hid hq
    clear hq
    go_enter Tryd.func81, Tryd.ntmps81
    go_wp2_with fail
    refine (HM.out w).mono ?_
    rintro e w1 ⟨⟨a, b, c, rfl⟩, hb⟩
    go_wp2_with fail
    go_ret
    exact ⟨rfl, hb⟩
  have e6 : (t == 6) = false := by simp; omega
  by_cases h16 : t = 16
  · subst h16
    by_cases hl : d.size ≤ 512
    · refine ⟨decide (d.size ≠ 0) && decide (runT d d.size = d.size), fun w => ?_⟩
      have HM := Lib.hid (fun w => texts_any d w hl)
      obtain ⟨Q, hQ⟩ : ∃ Q, (decide (d.size ≠ 0) && decide (runT d d.size = d.size)) = Q := ⟨_, rfl⟩
      rw [hQ] at HM ⊢
      clear hQ
      have hl' : (d.size : Int) ≤ 512 := by omega
      go_enter Tryd.func81, Tryd.ntmps81
      go_wp2_with fail
      refine (HM.out w).mono ?_
      rintro e w1 ⟨rfl, hb⟩
      go_wp2_with fail
      go_ret
      exact ⟨rfl, hb⟩
    · refine ⟨false, fun w => ?_⟩
      have hl' : ¬ (d.size : Int) ≤ 512 := by omega
      have hl2 : (512 : Int) < d.size := by omega
      go_enter Tryd.func81, Tryd.ntmps81
      go_wp2_with fail
      go_ret
      exact ⟨rfl, Below.refl _ _⟩
  have e16 : (t == 16) = false := by simp; omega
  refine ⟨decide (d.size ≤ 512), fun w => ?_⟩
  have heq : decide ((d.size : Int) ≤ 512) = decide (d.size ≤ 512) := by by_cases h : d.size ≤ 512 <;> simp [h] <;> omega
  go_enter Tryd.func81, Tryd.ntmps81
  go_wp2_with fail
  go_ret
  exact ⟨rfl, Below.refl _ _⟩
theorem mayrec_any (r : RecT) (ht : 0 ≤ r.2.1 ∧ r.2.1 < 65536) (hn : r.1.size ≤ 100000) (hd : r.2.2.2.size ≤ 100000) : ∃ q : Bool, ∀ w, Calls Tryd.prog 56 #[recV r] w fun e w' => e = .returned (.bool q) ∧ Below w.heap.size w w' := by
  obtain ⟨m, hm⟩ : ∃ m, (labelsOf r.1).isSome = m := ⟨_, rfl⟩
  have HM := Lib.hid (fun w => may_any r.1 w (by unfold maxLen; omega))
  rw [hm] at HM
  clear hm
  unfold recV
  cases m with
  | false =>
    refine ⟨false, fun w => ?_⟩
    go_enter Tryd.func56, Tryd.ntmps56
    go_wp2_with fail
    refine (HM.out _).mono ?_
    rintro e w1 ⟨rfl, hb⟩
    have HB := Lib.hid (below_alloc _ (Below.refl _ _) (Nat.le_refl _) hb)
    clear hb
    go_wp2_with fail
    go_ret
    exact ⟨rfl, HB.out⟩
  | true =>
    by_cases h41 : r.2.1 = 41
    · have e41 : (r.2.1 != 41) = false := by simp [h41]
      clear h41
      refine ⟨false, fun w => ?_⟩
      go_enter Tryd.func56, Tryd.ntmps56
      go_wp2_with fail
      refine (HM.out _).mono ?_
      rintro e w1 ⟨rfl, hb⟩
      have hc := (Cs.new w #[.string r.1, .int .u16 r.2.1, .int .u32 r.2.2.1, .string r.2.2.2] 32 [.string r.1, .int .u16 r.2.1, .int .u32 r.2.2.1, .string r.2.2.2]).below hb
      have c1 := hc.get 1 _
      have c3 := hc.get 3 _
      have HB := Lib.hid (below_alloc _ (Below.refl _ _) (Nat.le_refl _) hb)
      clear hb hc
      go_wp2_with fail
      go_ret
      exact ⟨rfl, HB.out⟩
    · have e41 : (r.2.1 != 41) = true := by simp [h41]
      obtain ⟨q, hq⟩ := rmay_any r.2.1 ht r.2.2.2 hd
      have HQ := Lib.hid hq
      clear hq
      refine ⟨q, fun w => ?_⟩
      go_enter Tryd.func56, Tryd.ntmps56
      go_wp2_with fail
      refine (HM.out _).mono ?_
      rintro e w1 ⟨rfl, hb⟩
      have hc := (Cs.new w #[.string r.1, .int .u16 r.2.1, .int .u32 r.2.2.1, .string r.2.2.2] 32 [.string r.1, .int .u16 r.2.1, .int .u32 r.2.2.1, .string r.2.2.2]).below hb
      have c1 := hc.get 1 _
      have c3 := hc.get 3 _
      have HB := Lib.hid (below_alloc _ (Below.refl _ _) (Nat.le_refl _) hb)
      clear hb hc
      go_wp2_with fail
      refine (HQ.out w1).mono ?_
      rintro e w2 ⟨rfl, hb2⟩
      have HB2 := Lib.hid (below_trans HB.out HB.out.size hb2)
      clear hb2
      go_wp2_with fail
      go_ret
      exact ⟨rfl, HB2.out⟩
end Go.Proofs.YteaeplceahdioaaDoor
namespace Go.Proofs.YteaeplceahdioaaDoor
open Go.RowKit
set_option linter.unusedVariables false
set_option linter.unusedSimpArgs false
set_option maxRecDepth 20000
/-- May a record be in a transfer of a name's zone? -/
def admB (m : RecT → Bool) (o : ByteArray) (r : RecT) : Bool := m r && ((stripOf r.1 o).isSome && !(soaB r && !(r.1.toList == o.toList)))
/-- May records be a transfer at all? -/
def admR (m : RecT → Bool) (o : ByteArray) (rs : List RecT) : Bool := rs.all (admB m o) && (match rs with | [] => false | r :: _ => soaB r)
theorem all_next {rs : List RecT} {k : Nat} {r : RecT} (p : RecT → Bool) (hr : rs[k]? = some r) : (rs.take (k + 1)).all p = ((rs.take k).all p && p r) := by rw [List.take_add_one, hr]; simp
theorem all_stop {rs : List RecT} {k : Nat} {r : RecT} (p : RecT → Bool) (hr : rs[k]? = some r) (hp : p r = false) : rs.all p = false := by
  rw [List.all_eq_false]
  exact ⟨r, List.mem_of_getElem? hr, by rw [hp]; simp⟩
end Go.Proofs.YteaeplceahdioaaDoor
namespace Go.Proofs.YteaeplceahdioaaDoor
open Go.RowKit
set_option linter.unusedVariables false
set_option linter.unusedSimpArgs false
set_option maxRecDepth 20000
theorem wpList_load_midH {P : Program} {ops : Array Oper} {rest : List Oper} {op : Oper} {a : Act} {w : World} {Q : Exit → Act → World → Prop} (hgd : Region.wanted op (yielded ops a.tmps) = true) (ty : TypeId) (x : Operand) (ho : op.op = .load ty x)
    (b o : Nat) (hx : a.eval x = .pointer (some ⟨b, o, none⟩)) (cs : List Value) (d : TypeDesc) (hc : w.rangeAt b o cs)
    (hu : P.underlying ty = some d) (hd : d.isRow = true) (hi : (P.info? ty).map (·.size) = some cs.length)
    (h : wpList P ops Q rest (a.put op.dst (.agg cs.toArray)) w) : wpList P ops Q (op :: rest) a w := by
  refine wpList_step fun K hK => ?_
  rw [if_pos hgd]
  exact wp_load_mid ty x ho b o hx cs d hc hu hd hi (hK _ _ h)
/-- The place of the first SOA from a place on; behind all, if there is none. -/
def nextS (rs : List RecT) (i : Nat) : Nat := i + ((rs.drop i).takeWhile fun r => !soaB r).length
theorem nextS_no {rs : List RecT} {i : Nat} {r : RecT} (hr : rs[i]? = some r) (hs : soaB r = false) : nextS rs i = nextS rs (i + 1) := by
  obtain ⟨h, he⟩ := List.getElem?_eq_some_iff.1 hr
  unfold nextS
  rw [List.drop_eq_getElem_cons h, he, List.takeWhile_cons]
  simp [hs]
  omega
theorem nextS_yes {rs : List RecT} {i : Nat} {r : RecT} (hr : rs[i]? = some r) (hs : soaB r = true) : nextS rs i = i := by
  obtain ⟨h, he⟩ := List.getElem?_eq_some_iff.1 hr
  unfold nextS
  rw [List.drop_eq_getElem_cons h, he, List.takeWhile_cons]
  simp [hs]
theorem nextS_end {rs : List RecT} {i : Nat} (h : rs.length ≤ i) : nextS rs i = i := by
  unfold nextS
  rw [List.drop_eq_nil_of_le h]; rfl
end Go.Proofs.YteaeplceahdioaaDoor
namespace Go.Proofs.YteaeplceahdioaaDoor
open Go.RowKit
set_option linter.unusedVariables false
set_option maxRecDepth 20000

set_option maxHeartbeats 800000 in
theorem cutSoa_any (s : ByteArray) (w : World) (hs : s.size ≤ 140737488355328) :
    Calls Tryd.prog 94 #[.string s] w fun e w' => Below w.heap.size w w' ∧ ((∃ a b t, IsSoa s.data.toList a b t ∧ e = .returned (.tuple #[sv a, sv b, sv t, .bool true])) ∨ ((∀ a b t, ¬ IsSoa s.data.toList a b t) ∧ e = .returned (.tuple #[.string ⟨#[]⟩, .string ⟨#[]⟩, .string ⟨#[]⟩, .bool false]))) := by
  have hlen : s.data.toList.length = s.size := by simp
  obtain ⟨L, hL⟩ : ∃ L, s.data.toList = L := ⟨_, rfl⟩
  have HC := Lib.hid (fun w => cutp_any s w hs)
  rw [hL] at HC hlen
  rw [hL]
  clear hL
  go_enter Tryd.func94, Tryd.ntmps94
  go_wp2_with fail
  refine (HC.out _).mono ?_
  rintro e w1 ⟨hb1, ⟨a, r, hc1, rfl⟩ | ⟨hno, rfl⟩⟩
  · have HC1 := Lib.hid hc1
    have hl1 := hc1.len
    have HC2 := Lib.hid (fun w => cutp_any ⟨r.toArray⟩ w (by rw [mk_size]; omega))
    rw [mk_toList] at HC2
    clear hc1
    unfold sv
    go_wp2_with fail
    refine (HC2.out _).mono ?_
    rintro e w2 ⟨hb2', ⟨b, t, hc2, rfl⟩ | ⟨hno, rfl⟩⟩
    all_goals have hb2 := below_trans hb1 hb1.size hb2'
    · unfold sv
      by_cases h20 : t.length = 20
      · have hsz : (ByteArray.mk t.toArray).size = 20 := by rw [mk_size]; exact h20
        have HY := Lib.hid (isSoa_yes HC1.out hc2 h20)
        have hne : (((ByteArray.mk t.toArray).size : Int) != 20) = false := by rw [hsz]; decide
        obtain ⟨T, hT⟩ : ∃ T, T = ByteArray.mk t.toArray := ⟨_, rfl⟩
        rw [← hT] at hsz hne ⊢
        have HT := Lib.hid hT
        clear hc2 HC1 HC2 HC h20 hT
        go_wp2_with fail
        refine bodyPost_ret (v := .tuple #[.string ⟨a.toArray⟩, .string ⟨b.toArray⟩, .string T, .bool true]) (by simp [results, Tryd.results94, go_sem]) rfl ⟨hb2, .inl ⟨a, b, t, HY.out, ?_⟩⟩
        rw [HT.out]; rfl
      · have hne : (((ByteArray.mk t.toArray).size : Int) != 20) = true := by rw [mk_size]; simp; omega
        have HN := Lib.hid (isSoa_no3 HC1.out hc2 h20)
        generalize ByteArray.mk t.toArray = T at *
        clear hc2 HC1 HC2 HC h20
        go_wp2_with fail
        refine bodyPost_ret (v := .tuple #[.string ⟨#[]⟩, .string ⟨#[]⟩, .string ⟨#[]⟩, .bool false]) (by simp [results, Tryd.results94, go_sem]) rfl ⟨hb2, .inr ⟨HN.out, rfl⟩⟩
    · have HN := Lib.hid (isSoa_no2 HC1.out hno)
      clear HC1 HC2 HC hno
      go_wp2_with fail
      refine bodyPost_ret (v := .tuple #[.string ⟨#[]⟩, .string ⟨#[]⟩, .string ⟨#[]⟩, .bool false]) (by simp [results, Tryd.results94, go_sem]) rfl ⟨hb2, .inr ⟨HN.out, rfl⟩⟩
  · have HN := Lib.hid (isSoa_no1 hno)
    clear HC hno
    go_wp2_with fail
    refine bodyPost_ret (v := .tuple #[.string ⟨#[]⟩, .string ⟨#[]⟩, .string ⟨#[]⟩, .bool false]) (by simp [results, Tryd.results94, go_sem]) rfl ⟨hb1, .inr ⟨HN.out, rfl⟩⟩
theorem rmay_soa (s : ByteArray) (w : World) (hs : s.size ≤ 140737488355328) :
    Calls Tryd.prog 81 #[.int .u16 6, .string s] w fun e w' => Below w.heap.size w w' ∧ (((∃ a b t, IsSoa s.data.toList a b t) ∧ e = .returned (.bool true)) ∨ ((∀ a b t, ¬ IsSoa s.data.toList a b t) ∧ e = .returned (.bool false))) := by
  have HC := Lib.hid (fun w => cutSoa_any s w hs)
  go_enter Tryd.func81, Tryd.ntmps81
  go_wp2_with fail
  refine (HC.out _).mono ?_
  rintro e w1 ⟨hb1, ⟨a, b, t, hy, rfl⟩ | ⟨hno, rfl⟩⟩
  · have HY := Lib.hid hy
    clear hy
    unfold sv
    go_wp2_with fail
    go_ret
    exact ⟨hb1, .inl ⟨⟨a, b, t, HY.out⟩, rfl⟩⟩
  · have HN := Lib.hid hno
    clear hno
    go_wp2_with fail
    go_ret
    exact ⟨hb1, .inr ⟨HN.out, rfl⟩⟩
end Go.Proofs.YteaeplceahdioaaDoor
namespace Go.Proofs.YteaeplceahdioaaDoor
open Go.RowKit
set_option linter.unusedVariables false
set_option maxRecDepth 20000

theorem at8_mk (t : List UInt8) (i : Nat) (h : i < t.length) : at8 ⟨t.toArray⟩ i = (t[i]).toNat := by
  unfold at8; simp [List.getD_eq_getElem?_getD, List.getElem?_eq_getElem h]
theorem n32_lt (s : ByteArray) (a : Nat) : n32 s a < 4294967296 := by
  have h1 := at8_lt s a; have h2 := at8_lt s (a + 1); have h3 := at8_lt s (a + 2); have h4 := at8_lt s (a + 3)
  unfold n32; omega
theorem b32_n32 (t : List UInt8) (a : Nat) (h : a + 4 ≤ t.length) : b32 (n32 ⟨t.toArray⟩ a) = (t.drop a).take 4 := by
  have h0 := at8_mk t a (by omega)
  have h1 := at8_mk t (a + 1) (by omega)
  have h2 := at8_mk t (a + 2) (by omega)
  have h3 := at8_mk t (a + 3) (by omega)
  have l0 := (t[a]'(by omega)).toNat_lt
  have l1 := (t[a+1]'(by omega)).toNat_lt
  have l2 := (t[a+2]'(by omega)).toNat_lt
  have l3 := (t[a+3]'(by omega)).toNat_lt
  have hd : (t.drop a).take 4 = [t[a]'(by omega), t[a+1]'(by omega), t[a+2]'(by omega), t[a+3]'(by omega)] := by
    rw [List.drop_eq_getElem_cons (by omega), List.drop_eq_getElem_cons (by omega), List.drop_eq_getElem_cons (by omega), List.drop_eq_getElem_cons (by omega)]; rfl
  rw [hd]
  unfold b32 n32
  rw [h0, h1, h2, h3]
  have key : ∀ (x : UInt8) (m : Nat), m = x.toNat → UInt8.ofNat m = x := by rintro x m rfl; simp
  simp only [List.cons.injEq, and_true]
  refine ⟨key _ _ ?_, key _ _ ?_, key _ _ ?_, key _ _ ?_⟩ <;> omega
/-- The five numbers of twenty bytes. -/
def nums (t : List UInt8) : List Nat := [n32 ⟨t.toArray⟩ 0, n32 ⟨t.toArray⟩ 4, n32 ⟨t.toArray⟩ 8, n32 ⟨t.toArray⟩ 12, n32 ⟨t.toArray⟩ 16]
theorem nums_bytes (t : List UInt8) (h : t.length = 20) : (nums t).flatMap b32 = t := by
  unfold nums
  simp only [List.flatMap_cons, List.flatMap_nil, List.append_nil]
  rw [b32_n32 t 0 (by omega), b32_n32 t 4 (by omega), b32_n32 t 8 (by omega), b32_n32 t 12 (by omega), b32_n32 t 16 (by omega)]
  have e : ∀ a, t.drop a = (t.drop a).take 4 ++ t.drop (a + 4) := fun a => by rw [← List.drop_drop]; exact (List.take_append_drop 4 _).symm
  have e5 : (t.drop 16).take 4 = t.drop 16 := List.take_of_length_le (by simp; omega)
  rw [e5, ← e 12, ← e 8, ← e 4, ← e 0, List.drop_zero]
theorem dataL_soa {l a b t : List UInt8} (h : IsSoa l a b t) : dataL a b (nums t) = l := by
  unfold dataL
  rw [nums_bytes t h.2.2]
  exact h.1.2.symm
end Go.Proofs.YteaeplceahdioaaDoor
namespace Go.Proofs.YteaeplceahdioaaDoor
open Go.RowKit
set_option linter.unusedVariables false
set_option maxRecDepth 20000

theorem b32_inj {x y : Nat} (hx : x < 4294967296) (hy : y < 4294967296) (h : b32 x = b32 y) : x = y := by
  have key : ∀ n : Nat, n < 4294967296 → (b32 n).map (·.toNat) = [n / 16777216, n / 65536 % 256, n / 256 % 256, n % 256] := by
    intro n hn
    unfold b32
    simp only [List.map_cons, List.map_nil]
    rw [ofNat_small _ (by omega), ofNat_small _ (by omega), ofNat_small _ (by omega), ofNat_small _ (by omega)]
  have h2 := congrArg (List.map (·.toNat)) h
  rw [key x hx, key y hy] at h2
  simp only [List.cons.injEq, and_true] at h2
  omega
theorem flat_inj : ∀ (xs ys : List Nat), xs.length = ys.length → (∀ x ∈ xs, x < 4294967296) → (∀ y ∈ ys, y < 4294967296) → xs.flatMap b32 = ys.flatMap b32 → xs = ys
  | [], [], _, _, _, _ => rfl
  | x :: xs, y :: ys, hl, hx, hy, h => by
    simp only [List.flatMap_cons] at h
    obtain ⟨h1, h2⟩ := List.append_inj h (by simp [b32])
    rw [b32_inj (hx x (by simp)) (hy y (by simp)) h1, flat_inj xs ys (by simpa using hl) (fun z hz => hx z (by simp [hz])) (fun z hz => hy z (by simp [hz])) h2]
theorem isSoa_data {a b : List UInt8} {ns : List Nat} (ha : mayL a) (hb : mayL b) (hn : ns.length = 5) : IsSoa (dataL a b ns) a b (ns.flatMap b32) := ⟨⟨ha, rfl⟩, hb, by rw [b32_len, hn]⟩
theorem dataL_inj {a b a' b' : List UInt8} {ns ns' : List Nat} (ha : mayL a) (hb : mayL b) (ha' : mayL a') (hb' : mayL b') (hn : ns.length = 5) (hn' : ns'.length = 5) (hx : ∀ x ∈ ns, x < 4294967296) (hy : ∀ x ∈ ns', x < 4294967296)
    (h : dataL a b ns = dataL a' b' ns') : a = a' ∧ b = b' ∧ ns = ns' := by
  have h1 := isSoa_data (ns := ns) ha hb hn
  rw [h] at h1
  obtain ⟨e1, e2, e3⟩ := h1.one (isSoa_data ha' hb' hn')
  exact ⟨e1, e2, flat_inj _ _ (by omega) hx hy e3⟩
end Go.Proofs.YteaeplceahdioaaDoor
namespace Go.Proofs.YteaeplceahdioaaDoor
open Go.RowKit
set_option linter.unusedVariables false
set_option maxRecDepth 20000

theorem soaV_data {a b : List UInt8} {n1 n2 n3 n4 n5 : Nat} (ha : mayL a) (hb : mayL b) (h1 : n1 < 4294967296) (h2 : n2 < 4294967296) (h3 : n3 < 4294967296) (h4 : n4 < 4294967296) (h5 : n5 < 4294967296) {a' b' t : List UInt8} (h : IsSoa (dataL a b [n1, n2, n3, n4, n5]) a' b' t) :
    soaV a' b' t = .agg #[sv a, sv b, .int .u32 n1, .int .u32 n2, .int .u32 n3, .int .u32 n4, .int .u32 n5] := by
  obtain ⟨rfl, rfl, rfl⟩ := h.one (isSoa_data ha hb rfl)
  have hl : ([n1, n2, n3, n4, n5].flatMap b32).length = 20 := by rw [b32_len]; rfl
  have hn := flat_inj (nums ([n1, n2, n3, n4, n5].flatMap b32)) [n1, n2, n3, n4, n5] rfl (by intro x hx; unfold nums at hx; simp at hx; rcases hx with rfl | rfl | rfl | rfl | rfl <;> exact n32_lt _ _)
    (by intro x hx; simp at hx; omega) (nums_bytes _ hl)
  unfold nums at hn
  simp only [List.cons.injEq, and_true] at hn
  obtain ⟨e1, e2, e3, e4, e5⟩ := hn
  unfold soaV
  rw [e1, e2, e3, e4, e5]
end Go.Proofs.YteaeplceahdioaaDoor
namespace Go.Proofs.YteaeplceahdioaaDoor
open Go.RowKit
set_option linter.unusedVariables false
set_option linter.unusedSimpArgs false
set_option maxRecDepth 20000
theorem dataL_len9 (a b : List UInt8) (ns : List Nat) : (dataL a b ns).length = a.length + b.length + 4 * ns.length + 2 := by
  unfold dataL
  rw [List.length_append, List.length_cons, List.length_append, List.length_cons, b32_len]; omega
end Go.Proofs.YteaeplceahdioaaDoor
namespace Go.Proofs.YteaeplceahdioaaDoor
open Go.RowKit
set_option linter.unusedVariables false
set_option maxRecDepth 20000
theorem nmB_labels (l : List UInt8) : ∃ LS, labelsOf (nmB l) = some LS ∧ (nmB l).size ≤ 254 := by
  refine ⟨wordsZ (intsB l), ?_, ?_⟩
  · unfold nmB nameZ
    exact few_labels (wordsZ_ok _ (intsB_ok l)) (wordsZ_len _)
  · unfold nmB
    have := nameZ_le (intsB l) (intsB_ok l)
    simpa [ByteArray.size] using this
theorem dataOf_cname (q : Nat) (X s : ByteArray) (h : ((dataOf q X s).1 : Int) = 5) : (dataOf q X s).2 = X := by
  unfold dataOf at h ⊢
  by_cases c0 : q = 0 ∨ q = 1
  · rw [if_pos c0] at h; simp at h
  rw [if_neg c0] at h ⊢
  by_cases c2 : q = 2
  · rw [if_pos c2]
  rw [if_neg c2] at h ⊢
  by_cases c3 : q = 3
  · rw [if_pos c3]
  rw [if_neg c3] at h ⊢
  by_cases c4 : q = 4
  · rw [if_pos c4] at h; simp at h
  rw [if_neg c4] at h ⊢
  by_cases c5 : q = 5
  · rw [if_pos c5] at h; simp at h
  rw [if_neg c5] at h ⊢
  by_cases c6 : q = 6
  · rw [if_pos c6] at h; simp at h
  rw [if_neg c6] at h; simp at h
theorem dataOf_le (q : Nat) (X s : ByteArray) (hX : X.size ≤ 254) (hs : s.size ≤ 30) : (dataOf q X s).2.size ≤ 600 := by
  have k1 : (ByteArray.mk #[0]).size = 1 := rfl
  have k2 : (ByteArray.mk #[UInt8.ofNat s.size]).size = 1 := rfl
  unfold dataOf
  by_cases c0 : q = 0 ∨ q = 1
  · rw [if_pos c0]; simp only [ByteArray.size_extract]; omega
  rw [if_neg c0]
  by_cases c2 : q = 2
  · rw [if_pos c2]; simp only; omega
  rw [if_neg c2]
  by_cases c3 : q = 3
  · rw [if_pos c3]; simp only; omega
  rw [if_neg c3]
  by_cases c4 : q = 4
  · rw [if_pos c4]; simp only [ByteArray.size_append, ByteArray.size_extract, k1]; omega
  rw [if_neg c4]
  by_cases c5 : q = 5
  · rw [if_pos c5]; simp only [ByteArray.size_append, ByteArray.size_extract, k2]; omega
  rw [if_neg c5]
  by_cases c6 : q = 6
  · rw [if_pos c6]; simp only [ByteArray.size_extract]; omega
  rw [if_neg c6]; simp only [ByteArray.size_extract]; omega
theorem txtB_le (s : ByteArray) : (txtB s).size ≤ 30 := by unfold txtB; rw [ByteArray.size_extract]; omega
theorem recOf_data (a : ActT) : (recOf a).2.2.2.size ≤ 600 := by
  obtain ⟨_, -, h⟩ := nmB_labels a.2.2.2.1.2.2.2
  exact dataOf_le _ _ _ h (txtB_le _)
theorem rec_cname (a : ActT) (h : (recOf a).2.1 = 5) : ∃ LS, labelsOf (recOf a).2.2.2 = some LS ∧ (recOf a).2.2.2.size ≤ 254 := by
  have h1 := dataOf_cname _ _ _ h
  have : (recOf a).2.2.2 = nmB a.2.2.2.1.2.2.2 := h1
  rw [this]
  exact nmB_labels _
theorem recOf_name (a : ActT) : (recOf a).1.size ≤ 254 := (nmB_labels a.1.2.2.2).choose_spec.2
end Go.Proofs.YteaeplceahdioaaDoor
namespace Go.Proofs.YteaeplceahdioaaDoor
open Go.RowKit
set_option linter.unusedVariables false
set_option linter.unusedSimpArgs false
set_option maxRecDepth 20000
attribute [local simp] putsF isV wordOf Deps Region.binds Region.wanted Act.put wantedX isB
def badR (m : RecT → Bool) (o : ByteArray) (prev : Option RecT) (r : RecT) : Bool := (match prev with | none => false | some p => decide (0 ≤ cmpR p r)) || !m r || !(stripOf r.1 o).isSome || (r.2.1 == 6 && !(r.1.toList == o.toList))
def scanR (m : RecT → Bool) (o : ByteArray) : Option RecT → Nat → List RecT → Option Nat
  | _, n, [] => some n
  | prev, n, r :: rs => if badR m o prev r = true then none else scanR m o (some r) (if r.2.1 == 6 then n + 1 else n) rs
def prevOf (z : List RecT) (k : Nat) : Option RecT := if k = 0 then none else z[k - 1]?
theorem scan_next {m : RecT → Bool} {o : ByteArray} {z : List RecT} {k s : Nat} {r : RecT} (h : z[k]? = some r) : scanR m o (prevOf z k) s (z.drop k) = if badR m o (prevOf z k) r = true then none else scanR m o (prevOf z (k + 1)) (if r.2.1 == 6 then s + 1 else s) (z.drop (k + 1)) := by
  obtain ⟨hlt, he⟩ := List.getElem?_eq_some_iff.1 h
  rw [List.drop_eq_getElem_cons hlt, he]
  show (if badR m o (prevOf z k) r = true then none else scanR m o (some r) _ _) = _
  have : prevOf z (k + 1) = some r := by unfold prevOf; simp [h]
  rw [this]
/-- Whether they are a zone. -/
def rightR (m : RecT → Bool) (o : ByteArray) (z : List RecT) : Bool := match scanR m o none 0 z with | none => false | some n => n == 1 && (decide (z.length ≤ 256) && decide (sizeR z ≤ 16384))
set_option maxHeartbeats 12800000 in
theorem right_any (m : RecT → Bool) (o : ByteArray) (A : Option Addr) (M c : Nat) (z : List RecT) (w : World) (h : Recs w A z) (hl : z.length = M) (hn : M ≤ 1000) (hs : sizeR z ≤ 1000000000000) (ho : o.size ≤ 100000) (hzs : ∀ r ∈ z, r.1.size ≤ 254)
    (hm : ∀ r ∈ z, ∀ w, Calls Tryd.prog 56 #[recV r] w fun e w' => e = .returned (.bool (m r)) ∧ Below w.heap.size w w') :
    Calls Tryd.prog 35 #[.slice A M c, .string o] w fun e w' => e = .returned (.bool (rightR m o z)) ∧ Below w.heap.size w w' := by
  obtain ⟨R, hRR⟩ : ∃ R, rightR m o z = R := ⟨_, rfl⟩
  rw [hRR]
  have HRR := Lib.hid hRR
  have FT := Lib.hid (fun w h => fits_any A M c z w h hl (by unfold maxLen; omega) hs)
  have H := Lib.hid h
  have HL := Lib.hid hl
  have HM := Lib.hid hm
  have HZS := Lib.hid hzs
  clear hRR h hl hs hm hzs
  go_enter Tryd.func35, Tryd.ntmps35
  go_wp2_with fail
  go_loopw [5, 10] (fun sv i wr => ∃ k s : Nat, k ≤ M ∧ i = .int .i64 k ∧ sv = .int .i64 s ∧ s ≤ k ∧ Hid (scanR m o none 0 z = scanR m o (prevOf z k) s (z.drop k)) ∧ Hid (Below w.heap.size w wr)) (fun _ i _ => M - (intOf i).toNat)
  case atStart => exact ⟨0, 0, Nat.zero_le _, rfl, rfl, Nat.le_refl _, Lib.hid (by simp [prevOf]), Lib.hid (Below.refl _ _)⟩
  case round =>
    obtain ⟨k, s, hk, rfl, rfl, hsk, HK, HB⟩ := hrel
    by_cases hlt : k < M
    · obtain ⟨r, hq⟩ : ∃ q, z[k]? = some q := ⟨_, List.getElem?_eq_getElem (by rw [HL.out]; exact hlt)⟩
      have HN := Lib.hid (scan_next (m := m) (o := o) (s := s) hq)
      have hmem := List.mem_of_getElem? hq
      have CM := Lib.hid (HM.out r hmem)
      have hrs := HZS.out r hmem
      have CB := Lib.hid (fun w => below_any r.1 o w (by unfold maxLen; omega) (by unfold maxLen; omega))
      obtain ⟨bb, off, rfl, hbb, y0, y1, y2, y3⟩ := (H.out.below HB.out) k _ hq
      obtain ⟨r0, r1, r2, r3⟩ := r
      simp only at y0 y1 y2 y3 hrs CB
      unfold recV at CM
      simp only at CM
      obtain ⟨W5, hW5⟩ : ∃ W, W = wr.alloc (.cells #[.string r0, .int .u16 r1, .int .u32 r2, .string r3] 32) := ⟨_, rfl⟩
      have HW5 := Lib.hid hW5
      have HBX : Hid (Cs W5 wr.heap.size [.string r0, .int .u16 r1, .int .u32 r2, .string r3]) := Lib.hid (by rw [hW5]; exact Cs.new _ _ _ _)
      have HB5 : Hid (Below w.heap.size w W5) := Lib.hid (by rw [hW5]; exact HB.out.alloc HB.out.size _)
      have HR5 := Lib.hid (H.out.below HB5.out)
      clear hW5 hmem hrs
      rcases Nat.eq_zero_or_pos k with rfl | hkp
      · have hlt' : ((0 : Nat) : Int) < M := by omega
        simp only [Nat.zero_mul, Nat.add_zero] at y0 y1 y2 y3
        clear hq
        cases em : m (r0, r1, r2, r3) with
        | false =>
          rw [em] at CM
          go_upto_region 5 with fail
          rw [← HW5.out]
          refine wp_region_goesG data_follows (fun x => by simp [putsF, Act.put]; rfl) W5.heap.size W5
            [isV (.int .i64 (0 : Nat)), isV (.bool false), isV (.bool false), isV undef, isV undef, isV undef, isV undef, isV undef, isV undef, isV undef, isV undef, isV (.bool false), isV (.bool false), isV (.agg #[.string r0, .int .u16 r1, .int .u32 r2, .string r3]), isV (.bool false), isV (.bool true), isV (.bool true), isV (.bool true), isV undef, isV undef, isV undef, isV undef, isV undef, isV (.bool true)]
            (by kernel_rfl) (by kernel_rfl) (by kernel_rfl) rfl ?_ (Below.refl _ _) ?_ ?_
          · repeat (first | exact trivial | refine ⟨isV_stays _, ?_⟩)
          · refine ⟨?_, ?_, ?_, ?_, ?_, ?_, ?_, ?_, ?_, ?_, ?_, ?_, ?_, ?_, ?_, ?_, ?_, ?_, ?_, ?_, ?_, ?_, ?_, ?_, trivial⟩
            all_goals
              intro x wx hR hd
              simp at hd
              first
              | (refine ⟨fun hX => ?_, fun _ => rfl⟩; simp [hd] at hX; done)
              | (refine ⟨fun hX => ?_, fun _ => rfl⟩; simp [hd, undef] at hX; done)
              | (refine ⟨fun _ => ?_, fun hX => ?_⟩; rotate_left; (focus simp [hd] at hX); have hc := HBX.out.below hR; have u0 := hc.get 0 _; have u1 := hc.get 1 _; have u2 := hc.get 2 _; have u3 := hc.get 3 _;  clear hc; (try simp [hd]); go_simp; exact next_same _ rfl rfl hR)
              | (refine ⟨fun _ => ?_, fun hX => ?_⟩; rotate_left; (focus simp [hd] at hX); (try simp [hd]); go_simp; go_at_call 56; refine (CM.out wx).mono ?_; rintro e w2 ⟨rfl, hb⟩; exact next_call _ rfl rfl hR hR.size hb)
              | (refine ⟨fun _ => ?_, fun hX => ?_⟩; rotate_left; (focus simp [hd] at hX); (try simp [hd]); go_simp; go_at_call 57; refine (CB.out wx).mono ?_; rintro e w2 ⟨rfl, hb⟩; exact next_call _ rfl rfl hR hR.size hb)
              | (refine ⟨fun _ => ?_, fun hX => ?_⟩; rotate_left; (focus simp [hd] at hX); (try simp [hd]); go_simp; go_at_call 23; refine (CC.out wx).mono ?_; rintro e w2 ⟨rfl, hb⟩; exact next_call _ rfl rfl hR hR.size hb)
          intro x wx hR hx
          simp [AllWords] at hx
          have hlast : x 23 = .bool true := by simp [hx]
          rw [hlast]
          clear hx hlast
          have hc := HBX.out.below hR
          have u0 := hc.get 0 _
          have u1 := hc.get 1 _
          have u2 := hc.get 2 _
          have u3 := hc.get 3 _
          have HBN := Lib.hid (below_trans HB5.out HB5.out.size hR)
          clear hc hR
          have hR0 : R = false := by
            rw [← HRR.out]; unfold rightR
            rw [HK.out, HN.out, if_pos (by simp [badR, prevOf, em])]
          go_wp2_with fail
          go_ret
          exact ⟨by first | rfl | rw [hR0], HBN.out⟩
        | true =>
          rw [em] at CM
          cases eb : (stripOf r0 o).isSome with
          | false =>
            rw [eb] at CB
            go_upto_region 5 with fail
            rw [← HW5.out]
            refine wp_region_goesG data_follows (fun x => by simp [putsF, Act.put]; rfl) W5.heap.size W5
              [isV (.int .i64 (0 : Nat)), isV (.bool false), isV (.bool false), isV undef, isV undef, isV undef, isV undef, isV undef, isV undef, isV undef, isV undef, isV (.bool false), isV (.bool false), isV (.agg #[.string r0, .int .u16 r1, .int .u32 r2, .string r3]), isV (.bool true), isV (.bool false), isV (.bool false), isV (.bool false), isV (.pointer (some ⟨wr.heap.size, 0, none⟩)), isV (.string r0), isV (.string o), isV (.bool false), isV (.bool true), isV (.bool true)]
              (by kernel_rfl) (by kernel_rfl) (by kernel_rfl) rfl ?_ (Below.refl _ _) ?_ ?_
            · repeat (first | exact trivial | refine ⟨isV_stays _, ?_⟩)
            · refine ⟨?_, ?_, ?_, ?_, ?_, ?_, ?_, ?_, ?_, ?_, ?_, ?_, ?_, ?_, ?_, ?_, ?_, ?_, ?_, ?_, ?_, ?_, ?_, ?_, trivial⟩
              all_goals
                intro x wx hR hd
                simp at hd
                first
                | (refine ⟨fun hX => ?_, fun _ => rfl⟩; simp [hd] at hX; done)
                | (refine ⟨fun hX => ?_, fun _ => rfl⟩; simp [hd, undef] at hX; done)
                | (refine ⟨fun _ => ?_, fun hX => ?_⟩; rotate_left; (focus simp [hd] at hX); have hc := HBX.out.below hR; have u0 := hc.get 0 _; have u1 := hc.get 1 _; have u2 := hc.get 2 _; have u3 := hc.get 3 _;  clear hc; (try simp [hd]); go_simp; exact next_same _ rfl rfl hR)
                | (refine ⟨fun _ => ?_, fun hX => ?_⟩; rotate_left; (focus simp [hd] at hX); (try simp [hd]); go_simp; go_at_call 56; refine (CM.out wx).mono ?_; rintro e w2 ⟨rfl, hb⟩; exact next_call _ rfl rfl hR hR.size hb)
                | (refine ⟨fun _ => ?_, fun hX => ?_⟩; rotate_left; (focus simp [hd] at hX); (try simp [hd]); go_simp; go_at_call 57; refine (CB.out wx).mono ?_; rintro e w2 ⟨rfl, hb⟩; exact next_call _ rfl rfl hR hR.size hb)
                | (refine ⟨fun _ => ?_, fun hX => ?_⟩; rotate_left; (focus simp [hd] at hX); (try simp [hd]); go_simp; go_at_call 23; refine (CC.out wx).mono ?_; rintro e w2 ⟨rfl, hb⟩; exact next_call _ rfl rfl hR hR.size hb)
            intro x wx hR hx
            simp [AllWords] at hx
            have hlast : x 23 = .bool true := by simp [hx]
            rw [hlast]
            clear hx hlast
            have hc := HBX.out.below hR
            have u0 := hc.get 0 _
            have u1 := hc.get 1 _
            have u2 := hc.get 2 _
            have u3 := hc.get 3 _
            have HBN := Lib.hid (below_trans HB5.out HB5.out.size hR)
            clear hc hR
            have hR0 : R = false := by
              rw [← HRR.out]; unfold rightR
              rw [HK.out, HN.out, if_pos (by simp [badR, prevOf, em, eb])]
            go_wp2_with fail
            go_ret
            exact ⟨by first | rfl | rw [hR0], HBN.out⟩
          | true =>
            rw [eb] at CB
            go_upto_region 5 with fail
            rw [← HW5.out]
            refine wp_region_goesG data_follows (fun x => by simp [putsF, Act.put]; rfl) W5.heap.size W5
              [isV (.int .i64 (0 : Nat)), isV (.bool false), isV (.bool false), isV undef, isV undef, isV undef, isV undef, isV undef, isV undef, isV undef, isV undef, isV (.bool false), isV (.bool false), isV (.agg #[.string r0, .int .u16 r1, .int .u32 r2, .string r3]), isV (.bool true), isV (.bool false), isV (.bool false), isV (.bool false), isV (.pointer (some ⟨wr.heap.size, 0, none⟩)), isV (.string r0), isV (.string o), isV (.bool true), isV (.bool false), isV (.bool false)]
              (by kernel_rfl) (by kernel_rfl) (by kernel_rfl) rfl ?_ (Below.refl _ _) ?_ ?_
            · repeat (first | exact trivial | refine ⟨isV_stays _, ?_⟩)
            · refine ⟨?_, ?_, ?_, ?_, ?_, ?_, ?_, ?_, ?_, ?_, ?_, ?_, ?_, ?_, ?_, ?_, ?_, ?_, ?_, ?_, ?_, ?_, ?_, ?_, trivial⟩
              all_goals
                intro x wx hR hd
                simp at hd
                first
                | (refine ⟨fun hX => ?_, fun _ => rfl⟩; simp [hd] at hX; done)
                | (refine ⟨fun hX => ?_, fun _ => rfl⟩; simp [hd, undef] at hX; done)
                | (refine ⟨fun _ => ?_, fun hX => ?_⟩; rotate_left; (focus simp [hd] at hX); have hc := HBX.out.below hR; have u0 := hc.get 0 _; have u1 := hc.get 1 _; have u2 := hc.get 2 _; have u3 := hc.get 3 _;  clear hc; (try simp [hd]); go_simp; exact next_same _ rfl rfl hR)
                | (refine ⟨fun _ => ?_, fun hX => ?_⟩; rotate_left; (focus simp [hd] at hX); (try simp [hd]); go_simp; go_at_call 56; refine (CM.out wx).mono ?_; rintro e w2 ⟨rfl, hb⟩; exact next_call _ rfl rfl hR hR.size hb)
                | (refine ⟨fun _ => ?_, fun hX => ?_⟩; rotate_left; (focus simp [hd] at hX); (try simp [hd]); go_simp; go_at_call 57; refine (CB.out wx).mono ?_; rintro e w2 ⟨rfl, hb⟩; exact next_call _ rfl rfl hR hR.size hb)
                | (refine ⟨fun _ => ?_, fun hX => ?_⟩; rotate_left; (focus simp [hd] at hX); (try simp [hd]); go_simp; go_at_call 23; refine (CC.out wx).mono ?_; rintro e w2 ⟨rfl, hb⟩; exact next_call _ rfl rfl hR hR.size hb)
            intro x wx hR hx
            simp [AllWords] at hx
            have hlast : x 23 = .bool false := by simp [hx]
            rw [hlast]
            clear hx hlast
            have hc := HBX.out.below hR
            have u0 := hc.get 0 _
            have u1 := hc.get 1 _
            have u2 := hc.get 2 _
            have u3 := hc.get 3 _
            have HBN := Lib.hid (below_trans HB5.out HB5.out.size hR)
            clear hc hR
            have HGB : Hid (badR m o (prevOf z 0) (r0, r1, r2, r3) = (r1 == 6 && !(r0.toList == o.toList))) := Lib.hid (by simp [badR, prevOf, em, eb])
            cases e6 : (r1 == 6) with
            | false =>
              rw [HGB.out, e6] at HN
              have HN2 : Hid (scanR m o (prevOf z 0) s (z.drop 0) = scanR m o (prevOf z (0 + 1)) s (z.drop (0 + 1))) := Lib.hid (by rw [HN.out]; simp [e6])
              go_wp2_with fail
              go_round
              case rel => exact ⟨0 + 1, s, by omega, by first | rfl | go_num, rfl, by omega, Lib.hid (HK.out.trans HN2.out), HBN⟩
              case measure => simp [intOf]; omega
            | true =>
              cases eo : (r0.toList == o.toList) with
              | true =>
                rw [HGB.out, e6, eo] at HN
                have HN2 : Hid (scanR m o (prevOf z 0) s (z.drop 0) = scanR m o (prevOf z (0 + 1)) (s + 1) (z.drop (0 + 1))) := Lib.hid (by rw [HN.out]; simp [e6])
                have hw1 : IntKind.i64.wrap ((s : Int) + 1) = ((s + 1 : Nat) : Int) := by rw [IntKind.wrap_i64]; omega
                go_wp2_with fail
                go_round
                case rel => exact ⟨0 + 1, s + 1, by omega, by first | rfl | go_num, by first | rfl | go_num, by omega, Lib.hid (HK.out.trans HN2.out), HBN⟩
                case measure => simp [intOf]; omega
              | false =>
                have hR0 : R = false := by
                  rw [← HRR.out]; unfold rightR
                  rw [HK.out, HN.out, if_pos (by rw [HGB.out, e6, eo]; rfl)]
                go_wp2_with fail
                go_ret
                exact ⟨by first | rfl | rw [hR0], HBN.out⟩
      · obtain ⟨j, rfl⟩ : ∃ j, k = j + 1 := ⟨k - 1, by omega⟩
        have hlt' : ((j + 1 : Nat) : Int) < M := by omega
        have hlt2 : (j : Int) + 1 < M := by omega
        have hlt3 : (j : Int) < M := by omega
        have hj0 : ¬ (j : Int) < 0 := by omega
        have hjp : (0 : Int) < (j : Int) + 1 := by omega
        obtain ⟨p, hp⟩ : ∃ q, z[j]? = some q := ⟨_, List.getElem?_eq_getElem (by rw [HL.out]; omega)⟩
        have PV : Hid (∀ wx, Below W5.heap.size W5 wx → wx.cell? ⟨bb, off + j * 4, none⟩ = some (.string p.1) ∧ wx.cell? ⟨bb, off + j * 4 + 1, none⟩ = some (.int .u16 p.2.1) ∧ wx.cell? ⟨bb, off + j * 4 + 2, none⟩ = some (.int .u32 p.2.2.1) ∧ wx.cell? ⟨bb, off + j * 4 + 3, none⟩ = some (.string p.2.2.2)) := Lib.hid (fun wx hb => by
          obtain ⟨b2, off2, he, _, q0, q1, q2, q3⟩ := (HR5.out.below hb) j _ hp
          injection he with he; injection he with he1 he2 he3
          subst he1 he2
          exact ⟨q0, q1, q2, q3⟩)
        have hpv : prevOf z (j + 1) = some p := by unfold prevOf; simp [hp]
        obtain ⟨p0, p1, p2, p3⟩ := p
        simp only at PV
        obtain ⟨x, hx⟩ : ∃ x, cmpR (p0, p1, p2, p3) (r0, r1, r2, r3) = x := ⟨_, rfl⟩
        have hrg : x = -1 ∨ x = 0 ∨ x = 1 := by rw [← hx]; exact cmpR_is.range _ _
        have CC := Lib.hid (fun w => compare_any (p0, p1, p2, p3) (r0, r1, r2, r3) w)
        rw [hx] at CC
        unfold recV at CC
        simp only at CC
        have hwj : IntKind.i64.wrap (((j + 1 : Nat) : Int) - 1) = (j : Int) := by rw [IntKind.wrap_i64]; omega
        have hwj2 : IntKind.i64.wrap (((j : Int) + 1) - 1) = (j : Int) := by rw [IntKind.wrap_i64]; omega
        have hwj3 : IntKind.i64.wrap (j : Int) = (j : Int) := by rw [IntKind.wrap_i64]; omega
        clear hp hq hkp
        rcases hrg with rfl | rfl | rfl
        · cases em : m (r0, r1, r2, r3) with
          | false =>
            rw [em] at CM
            go_upto_region 5 with fail
            rw [← HW5.out]
            refine wp_region_goesG data_follows (fun x => by simp [putsF, Act.put]; rfl) W5.heap.size W5
              [isV (.int .i64 ((j + 1 : Nat) : Int)), isV (.bool true), isV (.bool true), isV (.slice (some ⟨bb, off, none⟩) M c), isV (.int .i64 ((j + 1 : Nat) : Int)), isV (.int .i64 (j : Nat)), isV (.pointer (some ⟨bb, off + j * 4, none⟩)), isV (.agg #[.string p0, .int .u16 p1, .int .u32 p2, .string p3]), isV (.agg #[.string r0, .int .u16 r1, .int .u32 r2, .string r3]), isV (.int .i64 (-1)), isV (.bool false), isV (.bool false), isV (.bool false), isV (.agg #[.string r0, .int .u16 r1, .int .u32 r2, .string r3]), isV (.bool false), isV (.bool true), isV (.bool true), isV (.bool true), isV undef, isV undef, isV undef, isV undef, isV undef, isV (.bool true)]
              (by kernel_rfl) (by kernel_rfl) (by kernel_rfl) rfl ?_ (Below.refl _ _) ?_ ?_
            · repeat (first | exact trivial | refine ⟨isV_stays _, ?_⟩)
            · refine ⟨?_, ?_, ?_, ?_, ?_, ?_, ?_, ?_, ?_, ?_, ?_, ?_, ?_, ?_, ?_, ?_, ?_, ?_, ?_, ?_, ?_, ?_, ?_, ?_, trivial⟩
              all_goals
                intro x wx hR hd
                simp at hd
                first
                | (refine ⟨fun hX => ?_, fun _ => rfl⟩; simp [hd] at hX; done)
                | (refine ⟨fun hX => ?_, fun _ => rfl⟩; simp [hd, undef] at hX; done)
                | (refine ⟨fun _ => ?_, fun hX => ?_⟩; rotate_left; (focus simp [hd] at hX); have hc := HBX.out.below hR; have u0 := hc.get 0 _; have u1 := hc.get 1 _; have u2 := hc.get 2 _; have u3 := hc.get 3 _; obtain ⟨v0, v1, v2, v3⟩ := PV.out wx hR; clear hc; (try simp [hd]); go_simp; exact next_same _ rfl rfl hR)
                | (refine ⟨fun _ => ?_, fun hX => ?_⟩; rotate_left; (focus simp [hd] at hX); (try simp [hd]); go_simp; go_at_call 56; refine (CM.out wx).mono ?_; rintro e w2 ⟨rfl, hb⟩; exact next_call _ rfl rfl hR hR.size hb)
                | (refine ⟨fun _ => ?_, fun hX => ?_⟩; rotate_left; (focus simp [hd] at hX); (try simp [hd]); go_simp; go_at_call 57; refine (CB.out wx).mono ?_; rintro e w2 ⟨rfl, hb⟩; exact next_call _ rfl rfl hR hR.size hb)
                | (refine ⟨fun _ => ?_, fun hX => ?_⟩; rotate_left; (focus simp [hd] at hX); (try simp [hd]); go_simp; go_at_call 23; refine (CC.out wx).mono ?_; rintro e w2 ⟨rfl, hb⟩; exact next_call _ rfl rfl hR hR.size hb)
            intro x wx hR hx
            simp [AllWords] at hx
            have hlast : x 23 = .bool true := by simp [hx]
            rw [hlast]
            clear hx hlast
            have hc := HBX.out.below hR
            have u0 := hc.get 0 _
            have u1 := hc.get 1 _
            have u2 := hc.get 2 _
            have u3 := hc.get 3 _
            have HBN := Lib.hid (below_trans HB5.out HB5.out.size hR)
            clear hc hR
            have hR0 : R = false := by
              rw [← HRR.out]; unfold rightR
              rw [HK.out, HN.out, if_pos (by simp [badR, hpv, hx, em])]
            go_wp2_with fail
            go_ret
            exact ⟨by first | rfl | rw [hR0], HBN.out⟩
          | true =>
            rw [em] at CM
            cases eb : (stripOf r0 o).isSome with
            | false =>
              rw [eb] at CB
              go_upto_region 5 with fail
              rw [← HW5.out]
              refine wp_region_goesG data_follows (fun x => by simp [putsF, Act.put]; rfl) W5.heap.size W5
                [isV (.int .i64 ((j + 1 : Nat) : Int)), isV (.bool true), isV (.bool true), isV (.slice (some ⟨bb, off, none⟩) M c), isV (.int .i64 ((j + 1 : Nat) : Int)), isV (.int .i64 (j : Nat)), isV (.pointer (some ⟨bb, off + j * 4, none⟩)), isV (.agg #[.string p0, .int .u16 p1, .int .u32 p2, .string p3]), isV (.agg #[.string r0, .int .u16 r1, .int .u32 r2, .string r3]), isV (.int .i64 (-1)), isV (.bool false), isV (.bool false), isV (.bool false), isV (.agg #[.string r0, .int .u16 r1, .int .u32 r2, .string r3]), isV (.bool true), isV (.bool false), isV (.bool false), isV (.bool false), isV (.pointer (some ⟨wr.heap.size, 0, none⟩)), isV (.string r0), isV (.string o), isV (.bool false), isV (.bool true), isV (.bool true)]
                (by kernel_rfl) (by kernel_rfl) (by kernel_rfl) rfl ?_ (Below.refl _ _) ?_ ?_
              · repeat (first | exact trivial | refine ⟨isV_stays _, ?_⟩)
              · refine ⟨?_, ?_, ?_, ?_, ?_, ?_, ?_, ?_, ?_, ?_, ?_, ?_, ?_, ?_, ?_, ?_, ?_, ?_, ?_, ?_, ?_, ?_, ?_, ?_, trivial⟩
                all_goals
                  intro x wx hR hd
                  simp at hd
                  first
                  | (refine ⟨fun hX => ?_, fun _ => rfl⟩; simp [hd] at hX; done)
                  | (refine ⟨fun hX => ?_, fun _ => rfl⟩; simp [hd, undef] at hX; done)
                  | (refine ⟨fun _ => ?_, fun hX => ?_⟩; rotate_left; (focus simp [hd] at hX); have hc := HBX.out.below hR; have u0 := hc.get 0 _; have u1 := hc.get 1 _; have u2 := hc.get 2 _; have u3 := hc.get 3 _; obtain ⟨v0, v1, v2, v3⟩ := PV.out wx hR; clear hc; (try simp [hd]); go_simp; exact next_same _ rfl rfl hR)
                  | (refine ⟨fun _ => ?_, fun hX => ?_⟩; rotate_left; (focus simp [hd] at hX); (try simp [hd]); go_simp; go_at_call 56; refine (CM.out wx).mono ?_; rintro e w2 ⟨rfl, hb⟩; exact next_call _ rfl rfl hR hR.size hb)
                  | (refine ⟨fun _ => ?_, fun hX => ?_⟩; rotate_left; (focus simp [hd] at hX); (try simp [hd]); go_simp; go_at_call 57; refine (CB.out wx).mono ?_; rintro e w2 ⟨rfl, hb⟩; exact next_call _ rfl rfl hR hR.size hb)
                  | (refine ⟨fun _ => ?_, fun hX => ?_⟩; rotate_left; (focus simp [hd] at hX); (try simp [hd]); go_simp; go_at_call 23; refine (CC.out wx).mono ?_; rintro e w2 ⟨rfl, hb⟩; exact next_call _ rfl rfl hR hR.size hb)
              intro x wx hR hx
              simp [AllWords] at hx
              have hlast : x 23 = .bool true := by simp [hx]
              rw [hlast]
              clear hx hlast
              have hc := HBX.out.below hR
              have u0 := hc.get 0 _
              have u1 := hc.get 1 _
              have u2 := hc.get 2 _
              have u3 := hc.get 3 _
              have HBN := Lib.hid (below_trans HB5.out HB5.out.size hR)
              clear hc hR
              have hR0 : R = false := by
                rw [← HRR.out]; unfold rightR
                rw [HK.out, HN.out, if_pos (by simp [badR, hpv, hx, em, eb])]
              go_wp2_with fail
              go_ret
              exact ⟨by first | rfl | rw [hR0], HBN.out⟩
            | true =>
              rw [eb] at CB
              go_upto_region 5 with fail
              rw [← HW5.out]
              refine wp_region_goesG data_follows (fun x => by simp [putsF, Act.put]; rfl) W5.heap.size W5
                [isV (.int .i64 ((j + 1 : Nat) : Int)), isV (.bool true), isV (.bool true), isV (.slice (some ⟨bb, off, none⟩) M c), isV (.int .i64 ((j + 1 : Nat) : Int)), isV (.int .i64 (j : Nat)), isV (.pointer (some ⟨bb, off + j * 4, none⟩)), isV (.agg #[.string p0, .int .u16 p1, .int .u32 p2, .string p3]), isV (.agg #[.string r0, .int .u16 r1, .int .u32 r2, .string r3]), isV (.int .i64 (-1)), isV (.bool false), isV (.bool false), isV (.bool false), isV (.agg #[.string r0, .int .u16 r1, .int .u32 r2, .string r3]), isV (.bool true), isV (.bool false), isV (.bool false), isV (.bool false), isV (.pointer (some ⟨wr.heap.size, 0, none⟩)), isV (.string r0), isV (.string o), isV (.bool true), isV (.bool false), isV (.bool false)]
                (by kernel_rfl) (by kernel_rfl) (by kernel_rfl) rfl ?_ (Below.refl _ _) ?_ ?_
              · repeat (first | exact trivial | refine ⟨isV_stays _, ?_⟩)
              · refine ⟨?_, ?_, ?_, ?_, ?_, ?_, ?_, ?_, ?_, ?_, ?_, ?_, ?_, ?_, ?_, ?_, ?_, ?_, ?_, ?_, ?_, ?_, ?_, ?_, trivial⟩
                all_goals
                  intro x wx hR hd
                  simp at hd
                  first
                  | (refine ⟨fun hX => ?_, fun _ => rfl⟩; simp [hd] at hX; done)
                  | (refine ⟨fun hX => ?_, fun _ => rfl⟩; simp [hd, undef] at hX; done)
                  | (refine ⟨fun _ => ?_, fun hX => ?_⟩; rotate_left; (focus simp [hd] at hX); have hc := HBX.out.below hR; have u0 := hc.get 0 _; have u1 := hc.get 1 _; have u2 := hc.get 2 _; have u3 := hc.get 3 _; obtain ⟨v0, v1, v2, v3⟩ := PV.out wx hR; clear hc; (try simp [hd]); go_simp; exact next_same _ rfl rfl hR)
                  | (refine ⟨fun _ => ?_, fun hX => ?_⟩; rotate_left; (focus simp [hd] at hX); (try simp [hd]); go_simp; go_at_call 56; refine (CM.out wx).mono ?_; rintro e w2 ⟨rfl, hb⟩; exact next_call _ rfl rfl hR hR.size hb)
                  | (refine ⟨fun _ => ?_, fun hX => ?_⟩; rotate_left; (focus simp [hd] at hX); (try simp [hd]); go_simp; go_at_call 57; refine (CB.out wx).mono ?_; rintro e w2 ⟨rfl, hb⟩; exact next_call _ rfl rfl hR hR.size hb)
                  | (refine ⟨fun _ => ?_, fun hX => ?_⟩; rotate_left; (focus simp [hd] at hX); (try simp [hd]); go_simp; go_at_call 23; refine (CC.out wx).mono ?_; rintro e w2 ⟨rfl, hb⟩; exact next_call _ rfl rfl hR hR.size hb)
              intro x wx hR hx
              simp [AllWords] at hx
              have hlast : x 23 = .bool false := by simp [hx]
              rw [hlast]
              clear hx hlast
              have hc := HBX.out.below hR
              have u0 := hc.get 0 _
              have u1 := hc.get 1 _
              have u2 := hc.get 2 _
              have u3 := hc.get 3 _
              have HBN := Lib.hid (below_trans HB5.out HB5.out.size hR)
              clear hc hR
              have HGB : Hid (badR m o (prevOf z (j + 1)) (r0, r1, r2, r3) = (r1 == 6 && !(r0.toList == o.toList))) := Lib.hid (by simp [badR, hpv, hx, em, eb])
              cases e6 : (r1 == 6) with
              | false =>
                rw [HGB.out, e6] at HN
                have HN2 : Hid (scanR m o (prevOf z (j + 1)) s (z.drop (j + 1)) = scanR m o (prevOf z ((j + 1) + 1)) s (z.drop ((j + 1) + 1))) := Lib.hid (by rw [HN.out]; simp [e6])
                go_wp2_with fail
                go_round
                case rel => exact ⟨(j + 1) + 1, s, by omega, by first | rfl | go_num, rfl, by omega, Lib.hid (HK.out.trans HN2.out), HBN⟩
                case measure => simp [intOf]; omega
              | true =>
                cases eo : (r0.toList == o.toList) with
                | true =>
                  rw [HGB.out, e6, eo] at HN
                  have HN2 : Hid (scanR m o (prevOf z (j + 1)) s (z.drop (j + 1)) = scanR m o (prevOf z ((j + 1) + 1)) (s + 1) (z.drop ((j + 1) + 1))) := Lib.hid (by rw [HN.out]; simp [e6])
                  have hw1 : IntKind.i64.wrap ((s : Int) + 1) = ((s + 1 : Nat) : Int) := by rw [IntKind.wrap_i64]; omega
                  go_wp2_with fail
                  go_round
                  case rel => exact ⟨(j + 1) + 1, s + 1, by omega, by first | rfl | go_num, by first | rfl | go_num, by omega, Lib.hid (HK.out.trans HN2.out), HBN⟩
                  case measure => simp [intOf]; omega
                | false =>
                  have hR0 : R = false := by
                    rw [← HRR.out]; unfold rightR
                    rw [HK.out, HN.out, if_pos (by rw [HGB.out, e6, eo]; rfl)]
                  go_wp2_with fail
                  go_ret
                  exact ⟨by first | rfl | rw [hR0], HBN.out⟩
        · go_upto_region 5 with fail
          rw [← HW5.out]
          refine wp_region_goesG data_follows (fun x => by simp [putsF, Act.put]; rfl) W5.heap.size W5
            [isV (.int .i64 ((j + 1 : Nat) : Int)), isV (.bool true), isV (.bool true), isV (.slice (some ⟨bb, off, none⟩) M c), isV (.int .i64 ((j + 1 : Nat) : Int)), isV (.int .i64 (j : Nat)), isV (.pointer (some ⟨bb, off + j * 4, none⟩)), isV (.agg #[.string p0, .int .u16 p1, .int .u32 p2, .string p3]), isV (.agg #[.string r0, .int .u16 r1, .int .u32 r2, .string r3]), isV (.int .i64 (0)), isV (.bool true), isV (.bool true), isV (.bool true), isV undef, isV undef, isV undef, isV (.bool true), isV (.bool true), isV undef, isV undef, isV undef, isV undef, isV undef, isV (.bool true)]
            (by kernel_rfl) (by kernel_rfl) (by kernel_rfl) rfl ?_ (Below.refl _ _) ?_ ?_
          · repeat (first | exact trivial | refine ⟨isV_stays _, ?_⟩)
          · refine ⟨?_, ?_, ?_, ?_, ?_, ?_, ?_, ?_, ?_, ?_, ?_, ?_, ?_, ?_, ?_, ?_, ?_, ?_, ?_, ?_, ?_, ?_, ?_, ?_, trivial⟩
            all_goals
              intro x wx hR hd
              simp at hd
              first
              | (refine ⟨fun hX => ?_, fun _ => rfl⟩; simp [hd] at hX; done)
              | (refine ⟨fun hX => ?_, fun _ => rfl⟩; simp [hd, undef] at hX; done)
              | (refine ⟨fun _ => ?_, fun hX => ?_⟩; rotate_left; (focus simp [hd] at hX); have hc := HBX.out.below hR; have u0 := hc.get 0 _; have u1 := hc.get 1 _; have u2 := hc.get 2 _; have u3 := hc.get 3 _; obtain ⟨v0, v1, v2, v3⟩ := PV.out wx hR; clear hc; (try simp [hd]); go_simp; exact next_same _ rfl rfl hR)
              | (refine ⟨fun _ => ?_, fun hX => ?_⟩; rotate_left; (focus simp [hd] at hX); (try simp [hd]); go_simp; go_at_call 56; refine (CM.out wx).mono ?_; rintro e w2 ⟨rfl, hb⟩; exact next_call _ rfl rfl hR hR.size hb)
              | (refine ⟨fun _ => ?_, fun hX => ?_⟩; rotate_left; (focus simp [hd] at hX); (try simp [hd]); go_simp; go_at_call 57; refine (CB.out wx).mono ?_; rintro e w2 ⟨rfl, hb⟩; exact next_call _ rfl rfl hR hR.size hb)
              | (refine ⟨fun _ => ?_, fun hX => ?_⟩; rotate_left; (focus simp [hd] at hX); (try simp [hd]); go_simp; go_at_call 23; refine (CC.out wx).mono ?_; rintro e w2 ⟨rfl, hb⟩; exact next_call _ rfl rfl hR hR.size hb)
          intro x wx hR hx
          simp [AllWords] at hx
          have hlast : x 23 = .bool true := by simp [hx]
          rw [hlast]
          clear hx hlast
          have hc := HBX.out.below hR
          have u0 := hc.get 0 _
          have u1 := hc.get 1 _
          have u2 := hc.get 2 _
          have u3 := hc.get 3 _
          have HBN := Lib.hid (below_trans HB5.out HB5.out.size hR)
          clear hc hR
          have hR0 : R = false := by
            rw [← HRR.out]; unfold rightR
            rw [HK.out, HN.out, if_pos (by simp [badR, hpv, hx])]
          go_wp2_with fail
          go_ret
          exact ⟨by first | rfl | rw [hR0], HBN.out⟩
        · go_upto_region 5 with fail
          rw [← HW5.out]
          refine wp_region_goesG data_follows (fun x => by simp [putsF, Act.put]; rfl) W5.heap.size W5
            [isV (.int .i64 ((j + 1 : Nat) : Int)), isV (.bool true), isV (.bool true), isV (.slice (some ⟨bb, off, none⟩) M c), isV (.int .i64 ((j + 1 : Nat) : Int)), isV (.int .i64 (j : Nat)), isV (.pointer (some ⟨bb, off + j * 4, none⟩)), isV (.agg #[.string p0, .int .u16 p1, .int .u32 p2, .string p3]), isV (.agg #[.string r0, .int .u16 r1, .int .u32 r2, .string r3]), isV (.int .i64 (1)), isV (.bool true), isV (.bool true), isV (.bool true), isV undef, isV undef, isV undef, isV (.bool true), isV (.bool true), isV undef, isV undef, isV undef, isV undef, isV undef, isV (.bool true)]
            (by kernel_rfl) (by kernel_rfl) (by kernel_rfl) rfl ?_ (Below.refl _ _) ?_ ?_
          · repeat (first | exact trivial | refine ⟨isV_stays _, ?_⟩)
          · refine ⟨?_, ?_, ?_, ?_, ?_, ?_, ?_, ?_, ?_, ?_, ?_, ?_, ?_, ?_, ?_, ?_, ?_, ?_, ?_, ?_, ?_, ?_, ?_, ?_, trivial⟩
            all_goals
              intro x wx hR hd
              simp at hd
              first
              | (refine ⟨fun hX => ?_, fun _ => rfl⟩; simp [hd] at hX; done)
              | (refine ⟨fun hX => ?_, fun _ => rfl⟩; simp [hd, undef] at hX; done)
              | (refine ⟨fun _ => ?_, fun hX => ?_⟩; rotate_left; (focus simp [hd] at hX); have hc := HBX.out.below hR; have u0 := hc.get 0 _; have u1 := hc.get 1 _; have u2 := hc.get 2 _; have u3 := hc.get 3 _; obtain ⟨v0, v1, v2, v3⟩ := PV.out wx hR; clear hc; (try simp [hd]); go_simp; exact next_same _ rfl rfl hR)
              | (refine ⟨fun _ => ?_, fun hX => ?_⟩; rotate_left; (focus simp [hd] at hX); (try simp [hd]); go_simp; go_at_call 56; refine (CM.out wx).mono ?_; rintro e w2 ⟨rfl, hb⟩; exact next_call _ rfl rfl hR hR.size hb)
              | (refine ⟨fun _ => ?_, fun hX => ?_⟩; rotate_left; (focus simp [hd] at hX); (try simp [hd]); go_simp; go_at_call 57; refine (CB.out wx).mono ?_; rintro e w2 ⟨rfl, hb⟩; exact next_call _ rfl rfl hR hR.size hb)
              | (refine ⟨fun _ => ?_, fun hX => ?_⟩; rotate_left; (focus simp [hd] at hX); (try simp [hd]); go_simp; go_at_call 23; refine (CC.out wx).mono ?_; rintro e w2 ⟨rfl, hb⟩; exact next_call _ rfl rfl hR hR.size hb)
          intro x wx hR hx
          simp [AllWords] at hx
          have hlast : x 23 = .bool true := by simp [hx]
          rw [hlast]
          clear hx hlast
          have hc := HBX.out.below hR
          have u0 := hc.get 0 _
          have u1 := hc.get 1 _
          have u2 := hc.get 2 _
          have u3 := hc.get 3 _
          have HBN := Lib.hid (below_trans HB5.out HB5.out.size hR)
          clear hc hR
          have hR0 : R = false := by
            rw [← HRR.out]; unfold rightR
            rw [HK.out, HN.out, if_pos (by simp [badR, hpv, hx])]
          go_wp2_with fail
          go_ret
          exact ⟨by first | rfl | rw [hR0], HBN.out⟩
    · have hlt' : ¬ (k : Int) < M := by omega
      obtain rfl : k = M := by omega
      have hdk : z.drop k = [] := List.drop_eq_nil_of_le (by rw [HL.out]; exact Nat.le_refl _)
      have hfin : R = (s == 1 && fitsR k (sizeR z)) := by
        rw [← HRR.out]; unfold rightR
        rw [HK.out, hdk]
        simp [scanR, fitsR, HL.out]
      have HRW := Lib.hid (H.out.below HB.out)
      clear hdk
      cases e1 : (s == 1) with
      | false =>
        have he1 : ((s : Int) == 1) = false := by simp at e1 ⊢; omega
        rw [e1] at hfin
        go_wp2_with fail
        go_ret
        exact ⟨by first | rfl | (rw [hfin]; rfl), HB.out⟩
      | true =>
        obtain rfl : s = 1 := by simpa using e1
        rw [e1] at hfin
        go_wp2_with fail
        refine (FT.out _ HRW.out).mono ?_
        rintro e w2 ⟨rfl, hb⟩
        have HBF := Lib.hid (below_trans HB.out HB.out.size hb)
        clear hb
        go_wp2_with fail
        go_ret
        exact ⟨by first | rfl | (rw [hfin]; rfl), HBF.out⟩
end Go.Proofs.YteaeplceahdioaaDoor
namespace Go.Proofs.YteaeplceahdioaaDoor
open Go.RowKit
set_option linter.unusedVariables false
set_option linter.unusedSimpArgs false
set_option maxRecDepth 20000
theorem dataOf_ty10 (q : Nat) (X s : ByteArray) : (dataOf q X s).1 < 65536 := by
  unfold dataOf
  (repeat' split) <;> first | decide | (simp; done) | omega
def fit10 (r : RecT) : Prop := (0 ≤ r.2.1 ∧ r.2.1 < 65536) ∧ r.1.size ≤ 254 ∧ r.2.2.2.size ≤ 100000
theorem fit10_soa (o : ByteArray) (ho : o.size ≤ 254) (n : Nat) : fit10 (soaR o n) := by
  refine ⟨⟨by show (0 : Int) ≤ 6; decide, by show (6 : Int) < 65536; decide⟩, ho, ?_⟩
  have hl := nameZ_len [] (by simp)
  show (soaD n).size ≤ 100000
  unfold soaD
  rw [mk_size, dataL_len9]
  simp
  omega
theorem fit10_rec (a : ActT) : fit10 (recOf a) := ⟨⟨Int.natCast_nonneg _, by
  have := dataOf_ty10 (a.2.1.toNat % 8) (nmB a.2.2.2.1.2.2.2) (txtB a.2.2.2.2)
  show ((dataOf _ _ _).1 : Int) < 65536
  omega⟩, recOf_name a, Nat.le_trans (recOf_data a) (by decide)⟩
theorem underN_le10 (o s : ByteArray) (ho : o.size ≤ 254) : (underN o s).size ≤ 254 := by
  unfold underN
  split
  · rename_i h
    unfold joinOf at h ⊢
    split
    · rename_i h2
      show (s ++ o).size ≤ 254
      rw [ByteArray.size_append]; exact h2.2.2
    · rename_i h2
      rw [if_neg h2] at h; cases h
  · exact ho
theorem fit10_under (o : ByteArray) (ho : o.size ≤ 254) (s : Bool) (a : ActT) : fit10 (underR o s a) := by
  have h := fit10_rec a
  unfold underR
  split
  · split
    · exact fit10_soa o ho _
    · exact ⟨⟨by show (0 : Int) ≤ 16; decide, by show (16 : Int) < 65536; decide⟩, ho, by show (ByteArray.mk #[1, 120]).size ≤ 100000; decide⟩
  · exact ⟨h.1, underN_le10 o _ ho, h.2.2⟩
theorem fit10_unders (o : ByteArray) (ho : o.size ≤ 254) (s : Bool) (ds : List ActT) (most : Nat) : ∀ r ∈ undersOf o s ds most, fit10 r := by
  intro r hr
  unfold undersOf at hr
  obtain ⟨a, -, rfl⟩ := List.mem_map.1 hr
  exact fit10_under o ho s a
theorem sizeR_fit : ∀ (z : List RecT), (∀ r ∈ z, fit10 r) → sizeR z ≤ z.length * 100264
  | [], _ => by simp [sizeR]
  | r :: z, h => by
    have h1 := sizeR_fit z (fun q hq => h q (by simp [hq]))
    have h2 := h r (by simp)
    have e : sizeR (r :: z) = (10 + r.1.size + r.2.2.2.size) + sizeR z := by simp [sizeR]
    rw [e, List.length_cons]
    have := h2.2.1; have := h2.2.2
    omega
theorem may10 : ∃ m : RecT → Bool, ∀ r, fit10 r → ∀ w, Calls Tryd.prog 56 #[recV r] w fun e w' => e = .returned (.bool (m r)) ∧ Below w.heap.size w w' := by
  have key : ∀ r : RecT, ∃ q : Bool, fit10 r → ∀ w, Calls Tryd.prog 56 #[recV r] w fun e w' => e = .returned (.bool q) ∧ Below w.heap.size w w' := fun r => by
    by_cases h : fit10 r
    · obtain ⟨q, hq⟩ := mayrec_any r h.1 (Nat.le_trans h.2.1 (by decide)) h.2.2
      exact ⟨q, fun _ => hq⟩
    · exact ⟨false, fun h' => absurd h' h⟩
  exact ⟨fun r => Classical.choose (key r), fun r => Classical.choose_spec (key r)⟩
/-- The error of a zone that was made: 0, if there is none. -/
def checkR (m : RecT → Bool) (o : ByteArray) (z : List RecT) : Nat := if fitsR z.length (sizeR z) = true then (if rightR m o z = true then 0 else 4) else 8
/-- What check leaves. -/
def CheckA (v : Value) (k : Nat) (w : World) (e : Ending) (w' : World) : Prop :=
  Below w.heap.size w w' ∧ ((k = 0 ∧ e = .returned (.tuple #[v, .nilIface])) ∨ (k ≠ 0 ∧ e = .returned (.tuple #[.slice none 0 0, errV (k : Int)])))
section
variable (m : RecT → Bool) (o : ByteArray) (A : Option Addr) (n c : Nat) (z : List RecT) (w : World) (h : Recs w A z) (hl : z.length = n) (hn : n ≤ 1000) (ho : o.size ≤ 100000) (hf : ∀ r ∈ z, fit10 r)
  (hm : ∀ r, fit10 r → ∀ w, Calls Tryd.prog 56 #[recV r] w fun e w' => e = .returned (.bool (m r)) ∧ Below w.heap.size w w')
set_option maxHeartbeats 1600000 in
include h hl hn ho hf hm in
theorem check_any : Calls Tryd.prog 33 #[.string o, .slice A n c] w (CheckA (.slice A n c) (checkR m o z) w) := by
  have hs : sizeR z ≤ 1000000000000 := Nat.le_trans (sizeR_fit z hf) (by omega)
  have FT := Lib.hid (fun w h => fits_any A n c z w h hl (by unfold maxLen; omega) hs)
  have RT := Lib.hid (fun w h => right_any m o A n c z w h hl hn hs ho (fun r hr => (hf r hr).2.1) (fun r hr => hm r (hf r hr)))
  have H := Lib.hid h
  have HK : Hid (checkR m o z = if fitsR n (sizeR z) = true then (if rightR m o z = true then 0 else 4) else 8) := Lib.hid (by unfold checkR; rw [hl])
  obtain ⟨q, hq⟩ : ∃ q, fitsR n (sizeR z) = q := ⟨_, rfl⟩
  obtain ⟨p, hp⟩ : ∃ p, rightR m o z = p := ⟨_, rfl⟩
  rw [hq] at FT HK
  rw [hp] at RT HK
  generalize checkR m o z = K at *
  obtain ⟨AR, hAR⟩ : ∃ R, R = CheckA (.slice A n c) K w := ⟨_, rfl⟩
  rw [← hAR]
  have HA0 : Hid (K = 0 → ∀ w', Below w.heap.size w w' → AR (.returned (.tuple #[.slice A n c, .nilIface])) w') := Lib.hid (fun hk w' hb => by rw [hAR]; exact ⟨hb, .inl ⟨hk, rfl⟩⟩)
  have HA1 : Hid (∀ k : Nat, K = k → k ≠ 0 → ∀ w', Below w.heap.size w w' → AR (.returned (.tuple #[.slice none 0 0, errV (k : Int)])) w') := Lib.hid (fun k hk h0 w' hb => by rw [hAR]; exact ⟨hb, .inr ⟨by rw [hk]; exact h0, by rw [hk]⟩⟩)
  clear hAR
  clear h hl hf hm hs hq hp
  go_enter Tryd.func33, Tryd.ntmps33
  go_wp2_with fail
  refine (FT.out w H.out).mono ?_
  rintro e w1 ⟨rfl, hb1⟩
  have HB1 := Lib.hid hb1
  clear hb1
  cases q with
  | false =>
    have hk : K = 8 := HK.out
    have HKK := Lib.hid hk
    clear hk
    go_wp2_with fail
    exact HA1.out 8 HKK.out (by decide) _ HB1.out
  | true =>
    go_wp2_with fail
    refine (RT.out w1 (H.out.below HB1.out)).mono ?_
    rintro e w2 ⟨rfl, hb2⟩
    have HB2 := Lib.hid (below_trans HB1.out HB1.out.size hb2)
    clear hb2
    cases p with
    | false =>
      have hk : K = 4 := HK.out
      have HKK := Lib.hid hk
      clear hk
      go_wp2_with fail
      exact HA1.out 4 HKK.out (by decide) _ HB2.out
    | true =>
      have hk : K = 0 := HK.out
      have HKK := Lib.hid hk
      clear hk
      go_wp2_with fail
      exact HA0.out HKK.out _ HB2.out
set_option maxHeartbeats 1600000 in
include h hl hn ho hf hm in
theorem checked10_any : Calls Tryd.prog 15 #[.string o, .slice A n c] w fun e w' => e = .returned (.int .i64 (checkR m o z : Nat)) ∧ Below w.heap.size w w' := by
  have hs : sizeR z ≤ 1000000000000 := Nat.le_trans (sizeR_fit z hf) (by omega)
  have FT := Lib.hid (fun w h => fits_any A n c z w h hl (by unfold maxLen; omega) hs)
  have RT := Lib.hid (fun w h => right_any m o A n c z w h hl hn hs ho (fun r hr => (hf r hr).2.1) (fun r hr => hm r (hf r hr)))
  have H := Lib.hid h
  have HK : Hid (checkR m o z = if fitsR n (sizeR z) = true then (if rightR m o z = true then 0 else 4) else 8) := Lib.hid (by unfold checkR; rw [hl])
  obtain ⟨q, hq⟩ : ∃ q, fitsR n (sizeR z) = q := ⟨_, rfl⟩
  obtain ⟨p, hp⟩ : ∃ p, rightR m o z = p := ⟨_, rfl⟩
  rw [hq] at FT HK
  rw [hp] at RT HK
  generalize checkR m o z = K at *
  clear h hl hf hm hs hq hp
  go_enter Tryd.func15, Tryd.ntmps15
  go_wp2_with fail
  refine (FT.out w H.out).mono ?_
  rintro e w1 ⟨rfl, hb1⟩
  have HB1 := Lib.hid hb1
  clear hb1
  cases q with
  | false =>
    have hk := HK.out
    go_wp2_with fail
    go_ret
    exact ⟨by rw [hk]; rfl, HB1.out⟩
  | true =>
    go_wp2_with fail
    refine (RT.out w1 (H.out.below HB1.out)).mono ?_
    rintro e w2 ⟨rfl, hb2⟩
    have HB2 := Lib.hid (below_trans HB1.out HB1.out.size hb2)
    clear hb2
    cases p with
    | false =>
      have hk := HK.out
      go_wp2_with fail
      go_ret
      exact ⟨by rw [hk]; rfl, HB2.out⟩
    | true =>
      have hk := HK.out
      go_wp2_with fail
      go_ret
      exact ⟨by rw [hk]; rfl, HB2.out⟩
end
end Go.Proofs.YteaeplceahdioaaDoor
namespace Go.Proofs.YteaeplceahdioaaDoor
open Go.RowKit
set_option linter.unusedVariables false
set_option linter.unusedSimpArgs false
set_option maxRecDepth 20000
attribute [local simp] putsF isV wordOf Deps Region.binds Region.wanted Act.put wantedX isB
/-- What slices.SortFunc does to records. -/
def SortOk : Prop := ∀ (A : Option Addr) (n c : Nat) (rs : List RecT) (B : Nat) (W w : World), OBM 4 B W (.slice A n c) n (flatR rs) w → rs.length = n → n ≤ 1000 →
  Calls Tryd.prog 32 #[.slice A n c, .func (.func 23) #[] #[]] w fun e w' => e = .returned (.tuple #[]) ∧ OBM 4 B W (.slice A n c) n (flatR (msR rs)) w'
/-- The error of all records that come. -/
def repK (m : RecT → Bool) (o : ByteArray) (rs : List RecT) : Nat := if (sortedR rs).length = rs.length then checkR m o (sortedR rs) else 7
/-- What Replace leaves. -/
def RepA (k : Nat) (zs : List RecT) (w : World) (e : Ending) (w' : World) : Prop :=
  (k = 0 ∧ ∃ v, e = .returned (.tuple #[v, .nilIface]) ∧ OBM 4 w.heap.size w v zs.length (flatR zs) w') ∨ (k ≠ 0 ∧ e = .returned (.tuple #[.slice none 0 0, errV (k : Int)]) ∧ Below w.heap.size w w')
set_option maxHeartbeats 6400000 in
theorem replace_any (hsort : SortOk) (m : RecT → Bool) (o : ByteArray) (A : Option Addr) (n c : Nat) (rs : List RecT) (w : World) (h : RowROk w (A, n, c, rs)) (hA0 : A = none → n = 0 ∧ c = 0) (hn : n ≤ 1000) (ho : o.size ≤ 100000) (hf : ∀ r ∈ rs, fit10 r)
    (hm : ∀ r, fit10 r → ∀ w, Calls Tryd.prog 56 #[recV r] w fun e w' => e = .returned (.bool (m r)) ∧ Below w.heap.size w w') :
    Calls Tryd.prog 14 #[.string o, .slice A n c] w (RepA (repK m o rs) (sortedR rs) w) := by
  have CL := Lib.hid (clone_recs A n c (flatR rs) w w.heap.size h.sl (flatR_one rs) hA0 (by omega))
  have hlen : rs.length = n := h.len
  obtain ⟨AR, hAR⟩ : ∃ R, R = RepA (repK m o rs) (sortedR rs) w := ⟨_, rfl⟩
  rw [← hAR]
  have HTW : Hid ((sortedR rs).length ≠ rs.length → ∀ w', Below w.heap.size w w' → AR (.returned (.tuple #[.slice none 0 0, errV 7])) w') := Lib.hid (fun hne w' hb => by
    rw [hAR]
    have : repK m o rs = 7 := by unfold repK; rw [if_neg hne]
    rw [this]
    exact .inr ⟨by decide, rfl, hb⟩)
  have HCK : Hid (msR rs = sortedR rs → ∀ V wx ex wy, OBM 4 w.heap.size w V n (flatR (msR rs)) wx → CheckA V (checkR m o (sortedR rs)) wx ex wy → AR ex wy) := Lib.hid (fun he V wx ex wy hV hC => by
    rw [hAR]
    have hl : (sortedR rs).length = rs.length := by rw [← he, msR_len]
    have hk : repK m o rs = checkR m o (sortedR rs) := by unfold repK; rw [if_pos hl]
    rw [hk]
    rw [he] at hV
    obtain ⟨hb, ⟨h0, e⟩ | ⟨h0, e⟩⟩ := hC
    · exact .inl ⟨h0, V, e, by rw [hl, hlen]; exact hV.keep hb (Nat.le_refl _)⟩
    · exact .inr ⟨h0, e, below_trans hV.bel hV.bel.size hb⟩)
  have hfm : ∀ r ∈ msR rs, fit10 r := fun r hr => hf r (msR_mem.1 hr)
  have CK : Hid (∀ (V : Option Addr) (C : Nat) (wx : World), Recs wx V (msR rs) → Calls Tryd.prog 33 #[.string o, .slice V n C] wx (CheckA (.slice V n C) (checkR m o (msR rs)) wx)) := Lib.hid (fun V C wx hr => check_any m o V n C (msR rs) wx hr (by rw [msR_len]; exact hlen) hn ho hfm hm)
  have HSO := Lib.hid hsort
  have HLEN := Lib.hid hlen
  clear hAR hf hm hfm hsort h hA0 hlen
  go_enter Tryd.func14, Tryd.ntmps14
  go_wp2_with fail
  refine CL.out.mono ?_
  rintro e w1 ⟨v, rfl, ho1⟩
  obtain ⟨V, C, rfl, hv1, hv2, -⟩ := ho1.slice
  have HO1 := Lib.hid ho1
  clear ho1 CL
  go_wp2_with fail
  refine (HSO.out V n C rs _ _ w1 HO1.out HLEN.out hn).mono ?_
  rintro e w2 ⟨rfl, ho2⟩
  have HO2 := Lib.hid ho2
  have hml : (msR rs).length = n := by rw [msR_len]; exact HLEN.out
  have HML := Lib.hid hml
  clear ho2 HO1 HSO hml
  go_wp2_with fail
  go_loopw [7] (fun i wr => ∃ k : Nat, 1 ≤ k ∧ i = .int .i64 k ∧ Hid (apartTo (msR rs) k) ∧ Hid (Below w2.heap.size w2 wr)) (fun i _ => n - (intOf i).toNat)
  case atStart => exact ⟨1, Nat.le_refl _, rfl, Lib.hid (fun i x y hi => by omega), Lib.hid (Below.refl _ _)⟩
  case round =>
    obtain ⟨k, hk1, rfl, HAP, HBR⟩ := hrel
    by_cases hlt : k < n
    · have hlt' : (k : Int) < n := by omega
      have hk0 : ¬ (k : Int) < 0 := by omega
      obtain ⟨i1, hi1⟩ : ∃ i1, i1 = k - 1 := ⟨_, rfl⟩
      have hsub : IntKind.i64.wrap ((k : Int) - 1) = (i1 : Int) := by rw [IntWalk.i64_in _ (by omega)]; omega
      have hsub3 : IntKind.i64.wrap (i1 : Int) = (i1 : Int) := IntWalk.i64_in _ (by omega)
      have hi1l : (i1 : Int) < n := by omega
      have hi10 : ¬ (i1 : Int) < 0 := by omega
      obtain ⟨x, hx⟩ : ∃ q, (msR rs)[k]? = some q := ⟨_, List.getElem?_eq_getElem (by rw [HML.out]; exact hlt)⟩
      obtain ⟨y, hy⟩ : ∃ q, (msR rs)[i1]? = some q := ⟨_, List.getElem?_eq_getElem (by rw [HML.out]; omega)⟩
      have HR2 : Hid (Recs wr V (msR rs)) := Lib.hid ((HO2.out.keep HBR.out (Nat.le_refl _)).recs HML.out)
      obtain ⟨g, off, rfl, hg, z0, z1, z2, z3⟩ := HR2.out k _ hx
      obtain ⟨g', off', hge, hg', y0, y1, y2, y3⟩ := HR2.out i1 _ hy
      injection hge with hge; injection hge with e1 e2; subst e1 e2
      obtain ⟨q, hq⟩ : ∃ q, eqB x y = q := ⟨_, rfl⟩
      have heq : ∀ w, (binOp .eql 32 (recV x) (recV y)).run Tryd.prog w = .ok (.bool q) w := fun w => by rw [← hq]; exact rec_eql x y w
      unfold recV at heq
      have HQ := Lib.hid hq
      have HX := Lib.hid hx
      have HY : Hid ((msR rs)[k - 1]? = some y) := Lib.hid (by rw [← hi1]; exact hy)
      have HFX : Hid (∀ wy : World, Below wr.heap.size wr wy → (wy.cell? ⟨g, off + k * 4, none⟩ = some (.string x.1) ∧ wy.cell? ⟨g, off + k * 4 + 1, none⟩ = some (.int .u16 x.2.1) ∧ wy.cell? ⟨g, off + k * 4 + 2, none⟩ = some (.int .u32 x.2.2.1) ∧ wy.cell? ⟨g, off + k * 4 + 3, none⟩ = some (.string x.2.2.2)) ∧
          (wy.cell? ⟨g, off + i1 * 4, none⟩ = some (.string y.1) ∧ wy.cell? ⟨g, off + i1 * 4 + 1, none⟩ = some (.int .u16 y.2.1) ∧ wy.cell? ⟨g, off + i1 * 4 + 2, none⟩ = some (.int .u32 y.2.2.1) ∧ wy.cell? ⟨g, off + i1 * 4 + 3, none⟩ = some (.string y.2.2.2))) := Lib.hid (fun wy hby =>
        ⟨⟨(hby.cell (p := ⟨g, off + k * 4, none⟩) hg).trans z0, (hby.cell (p := ⟨g, off + k * 4 + 1, none⟩) hg).trans z1, (hby.cell (p := ⟨g, off + k * 4 + 2, none⟩) hg).trans z2, (hby.cell (p := ⟨g, off + k * 4 + 3, none⟩) hg).trans z3⟩,
         ⟨(hby.cell (p := ⟨g, off + i1 * 4, none⟩) hg).trans y0, (hby.cell (p := ⟨g, off + i1 * 4 + 1, none⟩) hg).trans y1, (hby.cell (p := ⟨g, off + i1 * 4 + 2, none⟩) hg).trans y2, (hby.cell (p := ⟨g, off + i1 * 4 + 3, none⟩) hg).trans y3⟩⟩)
      clear hx hy hq z0 z1 z2 z3 y0 y1 y2 y3 hi1 hg'
      go_upto_region 6 with fail
      refine wp_region_goesG app_follows (fun x => by simp [putsF, Act.put]; rfl) wr.heap.size wr
        [isV (.slice (some ⟨g, off, none⟩) n C), isV (.int .i64 (k : Nat)), isV (.pointer (some ⟨g, off + k * 4, none⟩)), isV (.agg #[.string x.1, .int .u16 x.2.1, .int .u32 x.2.2.1, .string x.2.2.2]), isV (.slice (some ⟨g, off, none⟩) n C), isV (.int .i64 (k : Nat)), isV (.int .i64 (i1 : Nat)), isV (.pointer (some ⟨g, off + i1 * 4, none⟩)), isV (.agg #[.string y.1, .int .u16 y.2.1, .int .u32 y.2.2.1, .string y.2.2.2]), isV (.bool q)]
        (by kernel_rfl) (by kernel_rfl) (by kernel_rfl) rfl ?_ (Below.refl _ _) ?_ ?_
      · repeat (first | exact trivial | refine ⟨isV_stays _, ?_⟩)
      · refine ⟨?_, ?_, ?_, ?_, ?_, ?_, ?_, ?_, ?_, ?_, trivial⟩
        all_goals
          intro xx wy hRx hd
          simp at hd ⊢
        all_goals try simp [hd]
        all_goals
          obtain ⟨⟨c0, c1, c2, c3⟩, ⟨d0, d1, d2, d3⟩⟩ := HFX.out wy hRx
          go_simp; exact next_same _ rfl rfl hRx
      intro xx wy hby hxx
      simp [AllWords] at hxx ⊢
      have hx9 : xx 9 = .bool q := by simp [hxx]
      clear hxx
      rw [hx9]
      have HBY := Lib.hid (below_trans HBR.out HBR.out.size hby)
      clear hby
      cases q with
      | true =>
        have htw : (sortedR rs).length ≠ rs.length := by
          have e := (eqB_iff x y).1 HQ.out
          refine msR_twice (i := k - 1) HY.out ?_
          rw [show k - 1 + 1 = k by omega, HX.out, e]
        have HTT := Lib.hid htw
        have HBF := Lib.hid (below_trans HO2.out.bel HO2.out.bel.size HBY.out)
        clear htw
        go_wp2_with fail
        exact HTW.out HTT.out _ HBF.out
      | false =>
        have HNE : Hid (apartTo (msR rs) (k + 1)) := Lib.hid (apartTo_next HAP.out HY.out HX.out (fun e => eqB_false HQ.out e.symm))
        go_wp2_with fail
        go_roundw
        case rel => exact ⟨k + 1, by omega, by go_num, HNE, HBY⟩
        case measure => simp [intOf]; omega
    · have hlt' : ¬ (k : Int) < n := by omega
      have HEQ : Hid (msR rs = sortedR rs) := Lib.hid (apartTo_all HAP.out (by have := HLEN.out; omega))
      have HOF : Hid (OBM 4 w.heap.size w (.slice V n C) n (flatR (msR rs)) wr) := Lib.hid (HO2.out.keep HBR.out (Nat.le_refl _))
      have CKX := CK.out V C wr (HOF.out.recs HML.out)
      rw [HEQ.out] at CKX
      have CKX := Lib.hid CKX
      go_wp2_with fail
      refine CKX.out.mono ?_
      intro ex wy hC
      obtain ⟨hb, ⟨h0, rfl⟩ | ⟨h0, rfl⟩⟩ := hC
      · have HB := Lib.hid hb
        have H0 := Lib.hid h0
        clear hb h0
        go_wp2_with fail
        exact HCK.out HEQ.out _ wr _ _ HOF.out ⟨HB.out, .inl ⟨H0.out, rfl⟩⟩
      · have HB := Lib.hid hb
        have H0 := Lib.hid h0
        clear hb h0
        go_wp2_with fail
        exact HCK.out HEQ.out _ wr _ _ HOF.out ⟨HB.out, .inr ⟨H0.out, rfl⟩⟩
end Go.Proofs.YteaeplceahdioaaDoor
namespace Go.Proofs.YteaeplceahdioaaDoor
open Go.RowKit Go.Sort
set_option linter.unusedVariables false
set_option linter.unusedSimpArgs false
set_option maxRecDepth 20000
attribute [local simp] putsF isV wordOf Deps Region.binds Region.wanted Act.put wantedX isB
theorem grown_below {w w' : World} (h : Below w.heap.size w w') (hd : w.drawn ≤ w'.drawn) : ∃ q os', w' = grow (w.drewN q) os' := by
  refine ⟨w'.drawn - w.drawn, w'.heap.extract w.heap.size w'.heap.size, ?_⟩
  obtain ⟨q, hq⟩ : ∃ q, q = w'.drawn - w.drawn := ⟨_, rfl⟩
  have h1 : w'.drawn = w.drawn + (w'.drawn - w.drawn) := by omega
  have h2 : w'.heap = w.heap ++ w'.heap.extract w.heap.size w'.heap.size := by
    apply Array.ext_getElem?
    intro i
    by_cases hi : i < w.heap.size
    · rw [h.block i hi, Array.getElem?_append_left hi]
    · rw [Array.getElem?_append_right (by omega), Array.getElem?_extract]
      have hs := h.size
      by_cases h3 : i < w'.heap.size
      · rw [if_pos (by omega)]; congr 1; omega
      · rw [if_neg (by omega), Array.getElem?_eq_none (by omega)]
  unfold grow World.drewN
  obtain ⟨e1, e2, e3⟩ := And.intro h.os (And.intro h.tape h.output)
  cases w; cases w'
  simp only at *
  subst e1 e2 e3
  congr
set_option maxHeartbeats 1600000 in
theorem compare_grow (r r' : RecT) (w : World) : Calls Tryd.prog 23 #[recV r, recV r'] w fun e w' => e = .returned (.int .i64 (cmpR r r')) ∧ ∃ q os', w' = grow (w.drewN q) os' := by
  have HO := Lib.hid (orI_cmpR r r')
  unfold recV
  obtain ⟨W, hW⟩ : ∃ W, W = (w.alloc (.cells #[.string r.1, .int .u16 r.2.1, .int .u32 r.2.2.1, .string r.2.2.2] 32)).alloc (.cells #[.string r'.1, .int .u16 r'.2.1, .int .u32 r'.2.2.1, .string r'.2.2.2] 32) := ⟨_, rfl⟩
  obtain ⟨b, hb⟩ : ∃ b, b = w.heap.size := ⟨_, rfl⟩
  obtain ⟨g, hg⟩ : ∃ b, b = w.heap.size + 1 := ⟨_, rfl⟩
  have hC : Cs W b [.string r.1, .int .u16 r.2.1, .int .u32 r.2.2.1, .string r.2.2.2] := by rw [hW, hb]; exact (Cs.new w _ _ _).alloc _
  have hG : Cs W g [.string r'.1, .int .u16 r'.2.1, .int .u32 r'.2.2.1, .string r'.2.2.2] := by rw [hW, hg]; exact (Cs.new _ _ _ _).at_ _ (by simp)
  have hbW : Below w.heap.size w W := by rw [hW]; exact ((Below.refl _ _).alloc (Nat.le_refl _) _).alloc (by simp) _
  have HW := Lib.hid hW
  have HBB := Lib.hid hb
  have HGG := Lib.hid hg
  have hdW : w.drawn ≤ W.drawn := by rw [hW]; exact Nat.le_refl _
  have HBW := Lib.hid hbW
  have HDW := Lib.hid hdW
  have HC := Lib.hid hC
  have HG := Lib.hid hG
  clear hW hb hg hC hG hbW hdW
  go_enter Tryd.func23, Tryd.ntmps23
  go_upto_region 1 with fail
  rw [← HW.out]
  refine wp_region_ext data_follows (fun x => by simp [putsF, Act.put]; rfl) (fun v => Below W.heap.size W v ∧ W.drawn ≤ v.drawn) Goes
    [isV (.pointer (some ⟨b, 0, none⟩)), isV (.string r.1), isV (.pointer (some ⟨g, 0, none⟩)), isV (.string r'.1), isV (.int .i64 (cmpS r.1 r'.1)), isV (.pointer (some ⟨b, 1, none⟩)), isV (.int .u16 r.2.1), isV (.pointer (some ⟨g, 1, none⟩)), isV (.int .u16 r'.2.1), isV (.int .i64 (cmpI r.2.1 r'.2.1)), isV (.pointer (some ⟨b, 3, none⟩)), isV (.string r.2.2.2), isV (.pointer (some ⟨g, 3, none⟩)), isV (.string r'.2.2.2), isV (.int .i64 (cmpS r.2.2.2 r'.2.2.2)), isV (.pointer (some ⟨b, 2, none⟩)), isV (.int .u32 r.2.2.1), isV (.pointer (some ⟨g, 2, none⟩)), isV (.int .u32 r'.2.2.1), isV (.int .i64 (cmpI r.2.2.1 r'.2.2.1)), fourW r r', isV (.int .i64 (cmpR r r')), isV (.int .i64 (cmpR r r'))]
    (by kernel_rfl) (by kernel_rfl) (by kernel_rfl) rfl ?_ (fun _ => Below.refl _ _) ⟨(Below.refl _ _).drew, Nat.le_succ _⟩ ?_ ?_
  · repeat (first | exact trivial | refine ⟨by first | exact isV_stayX _ _ | exact fourW_stays _ _, ?_⟩)
  · refine ⟨?_, ?_, ?_, ?_, ?_, ?_, ?_, ?_, ?_, ?_, ?_, ?_, ?_, ?_, ?_, ?_, ?_, ?_, ?_, ?_, ?_, ?_, ?_, trivial⟩
    all_goals
      intro x wx hR hd
      refine ⟨fun _ => ?_, fun hX => by simp at hX⟩
      simp at hd ⊢
      have q := HC.out.below hR.1
      have k0 := q.get 0 _
      have k1 := q.get 1 _
      have k2 := q.get 2 _
      have k3 := q.get 3 _
      clear q
      have q := HG.out.below hR.1
      have l0 := q.get 0 _
      have l1 := q.get 1 _
      have l2 := q.get 2 _
      have l3 := q.get 3 _
      clear q
    · go_simp; exact next_of _ rfl (by show Value.pointer _ = Value.pointer _; first | rfl | rw [HBB.out] | rw [HGG.out]) hR (Below.refl _ _)
    · go_simp; exact next_of _ rfl rfl hR (Below.refl _ _)
    · go_simp; exact next_of _ rfl (by show Value.pointer _ = Value.pointer _; first | rfl | rw [HBB.out] | rw [HGG.out]) hR (Below.refl _ _)
    · go_simp; exact next_of _ rfl rfl hR (Below.refl _ _)
    · obtain ⟨hd0, hd1⟩ := hd
      go_simp
      go_at_call 44
      refine (cmp_name _ _ wx).mono ?_
      rintro e w2 ⟨rfl, rfl⟩
      exact next_of _ rfl rfl hR (Below.refl _ _)
    · go_simp; exact next_of _ rfl (by show Value.pointer _ = Value.pointer _; first | rfl | rw [HBB.out] | rw [HGG.out]) hR (Below.refl _ _)
    · go_simp; exact next_of _ rfl rfl hR (Below.refl _ _)
    · go_simp; exact next_of _ rfl (by show Value.pointer _ = Value.pointer _; first | rfl | rw [HBB.out] | rw [HGG.out]) hR (Below.refl _ _)
    · go_simp; exact next_of _ rfl rfl hR (Below.refl _ _)
    · obtain ⟨hd0, hd1⟩ := hd
      go_simp
      go_at_call 45
      refine (cmp_type _ _ wx).mono ?_
      rintro e w2 ⟨rfl, rfl⟩
      exact next_of _ rfl rfl hR (Below.refl _ _)
    · go_simp; exact next_of _ rfl (by show Value.pointer _ = Value.pointer _; first | rfl | rw [HBB.out] | rw [HGG.out]) hR (Below.refl _ _)
    · go_simp; exact next_of _ rfl rfl hR (Below.refl _ _)
    · go_simp; exact next_of _ rfl (by show Value.pointer _ = Value.pointer _; first | rfl | rw [HBB.out] | rw [HGG.out]) hR (Below.refl _ _)
    · go_simp; exact next_of _ rfl rfl hR (Below.refl _ _)
    · obtain ⟨hd0, hd1⟩ := hd
      go_simp
      go_at_call 46
      refine (cmp_str _ _ wx).mono ?_
      rintro e w2 ⟨rfl, rfl⟩
      exact next_of _ rfl rfl hR (Below.refl _ _)
    · go_simp; exact next_of _ rfl (by show Value.pointer _ = Value.pointer _; first | rfl | rw [HBB.out] | rw [HGG.out]) hR (Below.refl _ _)
    · go_simp; exact next_of _ rfl rfl hR (Below.refl _ _)
    · go_simp; exact next_of _ rfl (by show Value.pointer _ = Value.pointer _; first | rfl | rw [HBB.out] | rw [HGG.out]) hR (Below.refl _ _)
    · go_simp; exact next_of _ rfl rfl hR (Below.refl _ _)
    · obtain ⟨hd0, hd1⟩ := hd
      go_simp
      go_at_call 47
      refine (cmp_u32 _ _ wx).mono ?_
      rintro e w2 ⟨rfl, rfl⟩
      exact next_of _ rfl rfl hR (Below.refl _ _)
    · obtain ⟨hd0, hd1, hd2, hd3⟩ := hd
      go_simp
      exact next_of _ rfl ⟨_, rfl, Sl.fresh _ _ _ 4 _ rfl rfl⟩ ⟨hR.1.alloc hR.1.size _, hR.2⟩ ((Below.refl wx.heap.size wx).alloc (Nat.le_refl _) _)
    · obtain ⟨⟨g', hx, hS⟩, -⟩ := hd
      rw [hx]
      go_simp
      go_at_call 43
      refine (or_any _ 4 4 _ wx _ hS (by decide)).mono ?_
      rintro e w2 ⟨rfl, rfl⟩
      rw [HO.out]
      exact next_of _ rfl rfl hR (Below.refl _ _)
    · go_simp; exact next_of _ rfl rfl hR (Below.refl _ _)
  · intro x wx hR hx
    simp [AllWords] at hx
    have h22 : x 22 = .int .i64 (cmpR r r') := by simp [hx]
    have HBX := Lib.hid (grown_below (below_trans HBW.out HBW.out.size hR.1) (Nat.le_trans HDW.out hR.2))
    rw [h22]
    clear hx
    go_wp2_with fail
    go_ret
    exact ⟨rfl, HBX.out⟩
end Go.Proofs.YteaeplceahdioaaDoor
namespace Go.Proofs.YteaeplceahdioaaDoor
open Go.ChangeShapes Go.WideShapes Go.ChangeAt Go.RowKit Go.Deep
set_option linter.unusedVariables false
set_option linter.unusedSimpArgs false
theorem flatR_at : ∀ (rs : List RecT) (j : Nat) (u : Value), (flatR rs)[j]? = some u → ∃ r, rs[j / 4]? = some r ∧ (recCells r)[j % 4]? = some u
  | [], j, u, h => by simp [flatR] at h
  | q :: rs, j, u, h => by
    have e : flatR (q :: rs) = recCells q ++ flatR rs := rfl
    have l : (recCells q).length = 4 := rfl
    rw [e] at h
    by_cases hj : j < 4
    · rw [List.getElem?_append_left (by omega)] at h
      exact ⟨q, by rw [Nat.div_eq_of_lt hj]; rfl, by rw [Nat.mod_eq_of_lt hj]; exact h⟩
    · rw [List.getElem?_append_right (by omega), l] at h
      obtain ⟨r, h1, h2⟩ := flatR_at rs (j - 4) u h
      have e1 : j / 4 = (j - 4) / 4 + 1 := by omega
      have e2 : j % 4 = (j - 4) % 4 := by omega
      exact ⟨r, by rw [e1]; simpa using h1, by rw [e2]; exact h2⟩
/-- Records lie as cells. -/
theorem Recs.sl {w : World} {A : Option Addr} {rs : List RecT} (h : Recs w A rs) : Sl w w.heap.size 4 A rs.length (flatR rs) := by
  refine ⟨flatR_len rs, fun hn => ?_⟩
  obtain ⟨b, off, rfl, hb, -⟩ := h 0 (rs[0]'hn) (List.getElem?_eq_getElem hn)
  refine ⟨b, off, rfl, hb, fun j u hu => ?_⟩
  obtain ⟨r, h1, h2⟩ := flatR_at rs j u hu
  obtain ⟨b', off', e, -, g0, g1, g2, g3⟩ := h _ r h1
  injection e with e; injection e with e1 e2 e3; subst e1 e2
  have hm := Nat.mod_lt j (show 0 < 4 by omega)
  have hj : j = j / 4 * 4 + j % 4 := by omega
  generalize j % 4 = m at *
  generalize j / 4 = d at *
  subst hj
  rcases (by omega : m = 0 ∨ m = 1 ∨ m = 2 ∨ m = 3) with rfl | rfl | rfl | rfl <;> (unfold recCells at h2; simp at h2; subst h2)
  · exact g0
  · exact g1
  · exact g2
  · exact g3
/-- An argument of records. -/
structure RecsV (w : World) (A : Option Addr) (n c : Nat) (rs : List RecT) : Prop where
  len : rs.length = n
  none_ : A = none → n = 0 ∧ c = 0
  le : n ≤ c
  max : c ≤ maxLen
  recs : Recs w A rs
  ok : ∀ r ∈ rs, r.1.size ≤ maxLen ∧ (Lit.int .u16 r.2.1).wf = true ∧ (Lit.int .u32 r.2.2.1).wf = true ∧ r.2.2.2.size ≤ maxLen
/-- A message: number, flags, code; the name and the type that are asked for; three rows of records; the size. -/
structure MsgT where
  id : Int
  reply : Bool
  op : Int
  auth : Bool
  trunc : Bool
  want : Bool
  avail : Bool
  code : Int
  qn : ByteArray
  qt : Int
  A1 : Option Addr
  n1 : Nat
  c1 : Nat
  r1 : List RecT
  A2 : Option Addr
  n2 : Nat
  c2 : Nat
  r2 : List RecT
  A3 : Option Addr
  n3 : Nat
  c3 : Nat
  r3 : List RecT
  sz : Int
def MsgT.cells (m : MsgT) : List Value := [.int .u16 m.id, .bool m.reply, .int .i64 m.op, .bool m.auth, .bool m.trunc, .bool m.want, .bool m.avail, .int .i64 m.code, .string m.qn, .int .u16 m.qt, .slice m.A1 m.n1 m.c1, .slice m.A2 m.n2 m.c2, .slice m.A3 m.n3 m.c3, .int .i64 m.sz]
def MsgT.v (m : MsgT) : Value := .agg #[.int .u16 m.id, .bool m.reply, .int .i64 m.op, .bool m.auth, .bool m.trunc, .bool m.want, .bool m.avail, .int .i64 m.code, .string m.qn, .int .u16 m.qt, .slice m.A1 m.n1 m.c1, .slice m.A2 m.n2 m.c2, .slice m.A3 m.n3 m.c3, .int .i64 m.sz]
structure MsgOk (w : World) (m : MsgT) : Prop where
  op : (Lit.int .i64 m.op).wf = true
  code : (Lit.int .i64 m.code).wf = true
  id : (Lit.int .u16 m.id).wf = true
  qt : (Lit.int .u16 m.qt).wf = true
  qn : m.qn.size ≤ maxLen
  sz : (Lit.int .i64 m.sz).wf = true
  r1 : RecsV w m.A1 m.n1 m.c1 m.r1
  r2 : RecsV w m.A2 m.n2 m.c2 m.r2
  r3 : RecsV w m.A3 m.n3 m.c3 m.r3
/-- Where the fields of a struct stand, and how many cells they have. -/
def spotFields (P : Program) (fs : Array Field) : List (Nat × Nat) := fs.toList.map fun f => (f.offset, P.cellsOf f.type)
section
variable {H : Type} {enc : TypeId × Value → H} {P : Program} {w : World} {d : DataW H} {p : List MemPlace}
theorem view_recs4 {t e : TypeId} {f0 f1 f2 f3 : Field} (ht : P.underlying t = some (.slice e)) (hs : P.underlying e = some (.struct #[f0, f1, f2, f3])) (hone : oneCellFields P #[f0, f1, f2, f3] = true) (hC : P.cellsOf e = 4)
    (h0 : P.underlying f0.type = some .string) (h1 : P.underlying f1.type = some (.int .u16)) (h2 : P.underlying f2.type = some (.int .u32)) (h3 : P.underlying f3.type = some .string) {m : Nat} {cs : List Value}
    (h : DataW.trod enc P w 0 (fun _ => true) true m t cs = some (d, p)) :
    ∃ A n c, ∃ rs : List RecT, ∃ el : List (DataW H), cs = [.slice A n c] ∧ RecsV w A n c rs ∧ el.length = n ∧ ((d = .nil ∧ n = 0 ∧ c = 0) ∨ ∃ sp, d = .slice el sp ∧ sp.length = c - n) := by
  rcases open_slice ht h with ⟨rfl, hx⟩ | ⟨a, len, cap, m', n', D, Pl, rfl, hbase, hl, hm, hmm, hx, hi⟩
  · simp only [Prod.mk.injEq] at hx
    exact ⟨none, 0, 0, [], [], rfl, ⟨rfl, fun _ => ⟨rfl, rfl⟩, Nat.le_refl _, Nat.zero_le _, fun i r h => by simp at h, by simp⟩, rfl, .inl ⟨hx.1, rfl, rfl⟩⟩
  · simp only [if_true] at hmm
    simp only [Prod.mk.injEq] at hx
    have key : ∀ j, j < len → ∃ x : RecT, (w.cell? (a.add (j * 4)) = some (.string x.1) ∧ w.cell? (a.add (j * 4 + 1)) = some (.int .u16 x.2.1) ∧ w.cell? (a.add (j * 4 + 2)) = some (.int .u32 x.2.2.1) ∧ w.cell? (a.add (j * 4 + 3)) = some (.string x.2.2.2)) ∧
        (x.1.size ≤ maxLen ∧ (Lit.int .u16 x.2.1).wf = true ∧ (Lit.int .u32 x.2.2.1).wf = true ∧ x.2.2.2.size ≤ maxLen) := by
      intro j hj
      obtain ⟨cs', g1, g2⟩ := hi j (by omega)
      rw [hC] at g1
      obtain ⟨_, hlen, hcell⟩ := World.cells?_some g1
      match cs', hlen with
      | [v0, v1, v2, v3], _ =>
        obtain ⟨y0, y1, y2, y3, k, hy, _, t0, t1, t2, t3⟩ := Joins.trod_struct4 hs g2
        obtain ⟨o0, k0⟩ := hone_of hone 0 f0 rfl
        obtain ⟨o1, k1⟩ := hone_of hone 1 f1 rfl
        obtain ⟨o2, k2⟩ := hone_of hone 2 f2 rfl
        obtain ⟨o3, k3⟩ := hone_of hone 3 f3 rfl
        rw [o0, k0] at t0
        rw [o1, k1] at t1
        rw [o2, k2] at t2
        rw [o3, k3] at t3
        simp only [List.drop_zero, List.take_succ_cons, List.take_zero, List.drop_succ_cons] at t0 t1 t2 t3
        obtain ⟨z0, e0, -, w0⟩ := DataW.trod_string h0 t0
        obtain ⟨z1, e1, -, w1⟩ := DataW.trod_int h1 t1
        obtain ⟨z2, e2, -, w2⟩ := DataW.trod_int h2 t2
        obtain ⟨z3, e3, -, w3⟩ := DataW.trod_string h3 t3
        simp only [List.cons.injEq, and_true] at e0 e1 e2 e3
        subst e0 e1 e2 e3
        refine ⟨(z0, z1, z2, z3), ⟨?_, ?_, ?_, ?_⟩, w0, w1, w2, w3⟩
        · have q := hcell 0 (by omega); rw [Addr.add_add] at q; exact q
        · have q := hcell 1 (by omega); rw [Addr.add_add] at q; exact q
        · have q := hcell 2 (by omega); rw [Addr.add_add] at q; exact q
        · have q := hcell 3 (by omega); rw [Addr.add_add] at q; exact q
    obtain ⟨ds, hal, has⟩ := choose_idx len key
    refine ⟨some a, len, cap, ds, (List.range len).map D, rfl, ⟨hal, (fun h => by cases h), hl, hm, fun i r hr => ?_, ?_⟩, by simp, .inr ⟨_, hx.1, by simp; omega⟩⟩
    · obtain ⟨b', off, spot⟩ := a
      obtain ⟨q0, q1, q2, q3⟩ := (has i r hr).1
      obtain ⟨x0, hx0⟩ : ∃ x, ds[0]? = some x := ⟨_, List.getElem?_eq_getElem (by have := (List.getElem?_eq_some_iff.1 hr).1; omega)⟩
      have g0 := (has 0 x0 hx0).1.1
      have hspot : spot = none := by simpa [Addr.add] using World.cell?_spot g0
      subst hspot
      refine ⟨b', off, rfl, ?_, ?_⟩
      · have := World.block_lt_of_cell? w _ q0
        rwa [Addr.add_lit] at this
      · rw [Addr.add_lit] at q0 q1 q2 q3
        exact ⟨q0, by rw [Nat.add_assoc]; exact q1, by rw [Nat.add_assoc]; exact q2, by rw [Nat.add_assoc]; exact q3⟩
    · intro x hx'
      obtain ⟨i, hi', rfl⟩ := List.getElem_of_mem hx'
      exact (has i _ (List.getElem?_eq_getElem hi')).2
theorem weight_slice {t e : TypeId} (ht : P.underlying t = some (.slice e)) {n c : Nat} (hle : n ≤ c) {el : List (DataW H)} (hl : el.length = n) (h : (d = .nil ∧ n = 0 ∧ c = 0) ∨ ∃ sp, d = .slice el sp ∧ sp.length = c - n) : c = 0 ∨ c * P.bytesOf e ∈ d.weights P t := by
  rcases h with ⟨_, _, h0⟩ | ⟨sp, rfl, hsp⟩
  · exact .inl h0
  · right
    simp [DataW.weights, ht, hl, hsp]
    left
    rw [show n + (c - n) = c by omega]
theorem open_msg {r : Reach} {b0 : Nat} {t te e : TypeId} {f0 f1 f2 f3 f4 f5 g0 g1 g2 g3 g4 g5 g6 g7 q0 q1 k0 k1 k2 k3 : Field} {v : Value}
    (hs : P.underlying t = some (.struct #[f0, f1, f2, f3, f4, f5])) (hsp : spotFields P #[f0, f1, f2, f3, f4, f5] = [(0, 8), (8, 2), (10, 1), (11, 1), (12, 1), (13, 1)]) (hC : P.cellsOf t = 14)
    (hs0 : P.underlying f0.type = some (.struct #[g0, g1, g2, g3, g4, g5, g6, g7])) (hone0 : oneCellFields P #[g0, g1, g2, g3, g4, g5, g6, g7] = true)
    (u0 : P.underlying g0.type = some (.int .u16)) (u1 : P.underlying g1.type = some .bool) (u2 : P.underlying g2.type = some (.int .i64)) (u3 : P.underlying g3.type = some .bool) (u4 : P.underlying g4.type = some .bool) (u5 : P.underlying g5.type = some .bool) (u6 : P.underlying g6.type = some .bool) (u7 : P.underlying g7.type = some (.int .i64))
    (hs1 : P.underlying f1.type = some (.struct #[q0, q1])) (hone1 : oneCellFields P #[q0, q1] = true) (uq0 : P.underlying q0.type = some .string) (uq1 : P.underlying q1.type = some (.int .u16))
    (h2 : f2.type = te) (h3 : f3.type = te) (h4 : f4.type = te) (u5' : P.underlying f5.type = some (.int .i64))
    (ht : P.underlying te = some (.slice e)) (hse : P.underlying e = some (.struct #[k0, k1, k2, k3])) (honee : oneCellFields P #[k0, k1, k2, k3] = true) (hCe : P.cellsOf e = 4)
    (uk0 : P.underlying k0.type = some .string) (uk1 : P.underlying k1.type = some (.int .u16)) (uk2 : P.underlying k2.type = some (.int .u32)) (uk3 : P.underlying k3.type = some .string)
    (hv : Value.okWide P w r b0 t v) (h : DataW.Trod enc P w 0 (fun _ => true) true t v d p) :
    ∃ m : MsgT, v = m.v ∧ MsgOk w m ∧ (m.c1 = 0 ∨ m.c1 * P.bytesOf e ∈ d.weights P t) ∧ (m.c2 = 0 ∨ m.c2 * P.bytesOf e ∈ d.weights P t) ∧ (m.c3 = 0 ∨ m.c3 * P.bytesOf e ∈ d.weights P t) := by
  obtain ⟨cs, rfl, hsz⟩ := okWide_struct hs hv
  rw [hC] at hsz
  obtain ⟨l⟩ := cs
  have hl : l.length = 14 := hsz
  rcases l with _ | ⟨x0, _ | ⟨x1, _ | ⟨x2, _ | ⟨x3, _ | ⟨x4, _ | ⟨x5, _ | ⟨x6, _ | ⟨x7, _ | ⟨x8, _ | ⟨x9, _ | ⟨x10, _ | ⟨x11, _ | ⟨x12, _ | ⟨x13, l⟩⟩⟩⟩⟩⟩⟩⟩⟩⟩⟩⟩⟩⟩ <;> simp at hl
  subst hl
  obtain ⟨fuel, hf⟩ := h
  obtain ⟨xs, n, _, hx, _, hlen, hff⟩ := DataW.trod_struct hs hf
  unfold spotFields at hsp
  simp only [List.map_cons, List.map_nil, List.cons.injEq, Prod.mk.injEq, and_true] at hsp
  obtain ⟨⟨o0, c0⟩, ⟨o1, c1⟩, ⟨o2, c2⟩, ⟨o3, c3⟩, ⟨o4, c4⟩, ⟨o5, c5⟩⟩ := hsp
  match xs, hlen with
  | [y0, y1, y2, y3, y4, y5], _ =>
    have a0 := hff 0 f0 rfl
    have a1 := hff 1 f1 rfl
    have a2 := hff 2 f2 rfl
    have a3 := hff 3 f3 rfl
    have a4 := hff 4 f4 rfl
    have a5 := hff 5 f5 rfl
    rw [o0, c0] at a0
    rw [o1, c1] at a1
    rw [o2, c2, h2] at a2
    rw [o3, c3, h3] at a3
    rw [o4, c4, h4] at a4
    rw [o5, c5] at a5
    simp only [Value.cells, List.drop_zero, List.take_succ_cons, List.take_zero, List.drop_succ_cons, List.getElem?_cons_zero, List.getElem?_cons_succ] at a0 a1 a2 a3 a4 a5
    obtain ⟨zs, n0, _, hz, _, hzl, hzf⟩ := DataW.trod_struct hs0 a0
    match zs, hzl with
    | [z0, z1, z2, z3, z4, z5, z6, z7], _ =>
      have b0 := hzf 0 g0 rfl
      have b1 := hzf 1 g1 rfl
      have b2 := hzf 2 g2 rfl
      have b3 := hzf 3 g3 rfl
      have b4 := hzf 4 g4 rfl
      have b5 := hzf 5 g5 rfl
      have b6 := hzf 6 g6 rfl
      have b7 := hzf 7 g7 rfl
      rw [(hone_of hone0 0 g0 rfl).1, (hone_of hone0 0 g0 rfl).2] at b0
      rw [(hone_of hone0 1 g1 rfl).1, (hone_of hone0 1 g1 rfl).2] at b1
      rw [(hone_of hone0 2 g2 rfl).1, (hone_of hone0 2 g2 rfl).2] at b2
      rw [(hone_of hone0 3 g3 rfl).1, (hone_of hone0 3 g3 rfl).2] at b3
      rw [(hone_of hone0 4 g4 rfl).1, (hone_of hone0 4 g4 rfl).2] at b4
      rw [(hone_of hone0 5 g5 rfl).1, (hone_of hone0 5 g5 rfl).2] at b5
      rw [(hone_of hone0 6 g6 rfl).1, (hone_of hone0 6 g6 rfl).2] at b6
      rw [(hone_of hone0 7 g7 rfl).1, (hone_of hone0 7 g7 rfl).2] at b7
      simp only [List.drop_zero, List.take_succ_cons, List.take_zero, List.drop_succ_cons, List.getElem?_cons_zero, List.getElem?_cons_succ] at b0 b1 b2 b3 b4 b5 b6 b7
      obtain ⟨qs, n1, _, hq, _, hql, hqf⟩ := DataW.trod_struct hs1 a1
      match qs, hql with
      | [p0, p1], _ =>
        have d0 := hqf 0 q0 rfl
        have d1 := hqf 1 q1 rfl
        rw [(hone_of hone1 0 q0 rfl).1, (hone_of hone1 0 q0 rfl).2] at d0
        rw [(hone_of hone1 1 q1 rfl).1, (hone_of hone1 1 q1 rfl).2] at d1
        simp only [List.drop_zero, List.take_succ_cons, List.take_zero, List.drop_succ_cons, List.getElem?_cons_zero, List.getElem?_cons_succ] at d0 d1
        obtain ⟨v0, e0, -, w0⟩ := DataW.trod_int u0 b0
        obtain ⟨v1, e1, -⟩ := DataW.trod_bool u1 b1
        obtain ⟨v2, e2, -, w2⟩ := DataW.trod_int u2 b2
        obtain ⟨v3, e3, -⟩ := DataW.trod_bool u3 b3
        obtain ⟨v4, e4, -⟩ := DataW.trod_bool u4 b4
        obtain ⟨v5, e5, -⟩ := DataW.trod_bool u5 b5
        obtain ⟨v6, e6, -⟩ := DataW.trod_bool u6 b6
        obtain ⟨v7, e7, -, w7⟩ := DataW.trod_int u7 b7
        obtain ⟨v8, e8, -, w8⟩ := DataW.trod_string uq0 d0
        obtain ⟨v9, e9, -, w9⟩ := DataW.trod_int uq1 d1
        obtain ⟨v13, e13, -, w13⟩ := DataW.trod_int u5' a5
        obtain ⟨y2a, y2b⟩ := y2
        obtain ⟨y3a, y3b⟩ := y3
        obtain ⟨y4a, y4b⟩ := y4
        obtain ⟨A1, n1, c1, r1, el1, e10, V1, L1, D1⟩ := view_recs4 ht hse honee hCe uk0 uk1 uk2 uk3 a2
        obtain ⟨A2, n2, c2, r2, el2, e11, V2, L2, D2⟩ := view_recs4 ht hse honee hCe uk0 uk1 uk2 uk3 a3
        obtain ⟨A3, n3, c3, r3, el3, e12, V3, L3, D3⟩ := view_recs4 ht hse honee hCe uk0 uk1 uk2 uk3 a4
        simp only [List.cons.injEq, and_true] at e0 e1 e2 e3 e4 e5 e6 e7 e8 e9 e10 e11 e12 e13
        subst e0 e1 e2 e3 e4 e5 e6 e7 e8 e9 e10 e11 e12 e13
        have g1 := weight_slice ht V1.le L1 D1
        have g2 := weight_slice ht V2.le L2 D2
        have g3 := weight_slice ht V3.le L3 D3
        obtain rfl : d = .agg [y0.1, y1.1, y2a, y3a, y4a, y5.1] := by have := congrArg Prod.fst hx; simpa using this
        refine ⟨⟨v0, v1, v2, v3, v4, v5, v6, v7, v8, v9, A1, n1, c1, r1, A2, n2, c2, r2, A3, n3, c3, r3, v13⟩, rfl, ⟨w2, w7, w0, w9, w8, w13, V1, V2, V3⟩, g1.imp id fun q => ?_, g2.imp id fun q => ?_, g3.imp id fun q => ?_⟩ <;>
          (simp only [DataW.weights, hs, DataW.weightsEach, List.map_cons, List.map_nil, h2, h3, h4, List.mem_append, Array.toList, List.toArray]; simp [q])
end
end Go.Proofs.YteaeplceahdioaaDoor
namespace Go.Proofs.YteaeplceahdioaaDoor
open Go.RowKit Go.Sort Go.Shelf Go.Lib
set_option linter.unusedVariables false
set_option linter.unusedSimpArgs false
theorem flat_at {rs : List RecT} {j : Nat} (hj : j < rs.length * 4) : (flatR rs)[j]? = some ((flatK recCells 4 rs.toArray)[j]!) := by
  have hl : j < (flatR rs).length := by rw [flatR_len]; exact hj
  obtain ⟨u, hu⟩ : ∃ u, (flatR rs)[j]? = some u := ⟨_, List.getElem?_eq_getElem hl⟩
  obtain ⟨r, h1, h2⟩ := flatR_at rs j u hu
  rw [hu, get_flatK recCells 4 rs.toArray j (by simpa using hj)]
  have e1 : rs.toArray[j / 4]! = r := by
    obtain ⟨a, e⟩ := List.getElem?_eq_some_iff.1 h1
    rw [getElem!_pos rs.toArray (j / 4) (by simpa using a)]
    simpa using e
  rw [e1]
  obtain ⟨a, e⟩ := List.getElem?_eq_some_iff.1 h2
  rw [getElem!_pos (recCells r) (j % 4) a, e]
theorem OBM.holdsK {B n c g : Nat} {W w : World} {rs : List RecT} (h : OBM 4 B W (.slice (some ⟨g, 0, none⟩) n c) n (flatR rs) w) (hl : rs.length = n) : HoldsK recCells 4 w g 0 rs.toArray := by
  rcases h.own with ⟨hv, _⟩ | ⟨g', cap, hv, h1, h2, h3, h4, h5, h6⟩
  · cases hv
  · injection hv with hv hv1 hv2; injection hv with hv; injection hv with hv; subst hv hv2
    intro j hj
    have hj' : j < rs.length * 4 := by simpa using hj
    rw [Nat.zero_add]
    exact ⟨h6 j _ (flat_at hj'), (h5 j (by rw [hl] at hj'; have := Nat.mul_le_mul_right 4 h3; omega)).2⟩
theorem OBM.sortedK {B n c g m : Nat} {W w : World} {rs zs : List RecT} {os : Array Obj} (h : OBM 4 B W (.slice (some ⟨g, 0, none⟩) n c) n (flatR rs) w) (hl : rs.length = n) (hz : zs.length = n) :
    OBM 4 B W (.slice (some ⟨g, 0, none⟩) n c) n (flatR zs) (sortWorldK recCells 4 w g 0 m zs.toArray os) := by
  have hH := h.holdsK hl
  rcases h.own with ⟨hv, _⟩ | ⟨g', cap, hv, h1, h2, h3, h4, h5, h6⟩
  · cases hv
  · injection hv with hv hv1 hv2; injection hv with hv; injection hv with hv; subst hv hv2
    have hsz : (putRowK recCells 4 (Sort.ahead w m) g 0 zs.toArray).heap.size = w.heap.size := by unfold putRowK; simp
    have hcell : ∀ j, (sortWorldK recCells 4 w g 0 m zs.toArray os).cell? ⟨g, j, none⟩ = (putRowK recCells 4 (Sort.ahead w m) g 0 zs.toArray).cell? ⟨g, j, none⟩ := fun j => cell?_grow _ _ _ (by rw [hsz]; exact h2)
    have hfr : ∀ j, (sortWorldK recCells 4 w g 0 m zs.toArray os).frozen? ⟨g, j, none⟩ = w.frozen? ⟨g, j, none⟩ := fun j => by
      refine (frozen?_grow _ _ _ (by rw [hsz]; exact h2)).trans ?_
      unfold putRowK; simp
    have hin : ∀ j, j < n * 4 → (sortWorldK recCells 4 w g 0 m zs.toArray os).cell? ⟨g, j, none⟩ = some ((flatK recCells 4 zs.toArray)[j]!) := fun j hj => by
      rw [hcell]
      have := (holdsK_sortWorldK_c recCells 4 w g 0 rs.toArray zs.toArray m os hH h2 (by simp [hl, hz])) j (by simpa [hz] using hj)
      rw [Nat.zero_add, hcell] at this
      exact this.1
    have hout : ∀ j, n * 4 ≤ j → (sortWorldK recCells 4 w g 0 m zs.toArray os).cell? ⟨g, j, none⟩ = w.cell? ⟨g, j, none⟩ := fun j hj => by
      rw [hcell]
      unfold putRowK
      rw [cell?_putRow_other id _ g 0 _ _ (.inr (.inr (by simp [hz]; exact hj)))]
      rfl
    refine ⟨?_, Nat.le_trans h.base (size_sortWorldK_c recCells 4 w g 0 m zs.toArray os), by rw [flatR_len, hz], .inr ⟨g, c, rfl, h1, Nat.lt_of_lt_of_le h2 (size_sortWorldK_c recCells 4 w g 0 m zs.toArray os), h3, h4, fun j hj => ⟨?_, by rw [hfr]; exact (h5 j hj).2⟩, fun j u hu => ?_⟩⟩
    · refine ⟨h.bel.os, h.bel.tape, h.bel.output, Nat.le_trans h.bel.size (size_sortWorldK_c recCells 4 w g 0 m zs.toArray os), fun k hk => ?_⟩
      have hkw : k < w.heap.size := by have := h.base; omega
      rw [← h.bel.block k hk]
      refine (heap_grow_old _ _ (by rw [hsz]; exact hkw)).trans ?_
      unfold putRowK putRow mapBlock
      have hne : g ≠ k := by omega
      simp [Array.getElem?_modify, hne]
    · by_cases hjn : j < n * 4
      · rw [hin j hjn]; rfl
      · rw [hout j (by omega)]; exact (h5 j hj).1
    · have hj : j < n * 4 := by
        have := (List.getElem?_eq_some_iff.1 hu).1
        rw [flatR_len, hz] at this
        exact this
      rw [hin j hj, ← hu, flat_at (by rw [hz]; exact hj)]
theorem swo_cmpR : SWO (ltOf cmpR) where
  irrefl x := by unfold ltOf; rw [cmpR_is.refl]; rfl
  trans x y z h1 h2 := by
    unfold ltOf at *
    simp only [decide_eq_true_eq] at *
    exact cmpR_is.lt_of_lt_le h1 (by omega)
  ntrans x y z h1 h2 := by
    unfold ltOf at *
    simp only [decide_eq_false_iff_not] at *
    have a := cmpR_is.swap x y
    have b := cmpR_is.swap y z
    have c := cmpR_is.swap x z
    have := cmpR_is.trans z y x (by omega) (by omega)
    omega
theorem cmp_total (x y : RecT) (h1 : ltOf cmpR x y = false) (h2 : ltOf cmpR y x = false) : x = y := by
  unfold ltOf at *
  simp only [decide_eq_false_iff_not] at *
  have a := cmpR_is.swap x y
  exact (cmpR_is.zero x y).1 (by omega)
theorem msR_lt (rs : List RecT) : rs.mergeSort (fun x y => !ltOf cmpR y x) = msR rs := by
  unfold msR
  congr 1
  funext x y
  unfold ltOf le10
  have a := cmpR_is.swap x y
  by_cases h : cmpR x y ≤ 0
  · rw [decide_eq_true h, decide_eq_false (by omega)]; rfl
  · rw [decide_eq_false h, decide_eq_true (by omega)]; rfl
theorem cmpLaysZ (blk off size : Nat) (w : World) : CmpLays Tryd.prog 23 #[] recCells 4 cmpR blk off size w := fun m os dk _ x y => by
  have h := compare_grow x y (sortWorldK recCells 4 w blk off m dk os)
  exact h
end Go.Proofs.YteaeplceahdioaaDoor
namespace Go.Proofs.YteaeplceahdioaaDoor
open Go.RowKit Go.Sort Go.Shelf Go.Lib
set_option linter.unusedVariables false
set_option linter.unusedSimpArgs false
theorem agg_rec (w : World) : (isAgg 32).run Tryd.prog w = .ok true w := by simp [isAgg, go_sem, run_underlying Tryd.underlying32]
theorem size_rec (w : World) : (Go.sizeOf 32).run Tryd.prog w = .ok 4 w := by
  obtain ⟨i0, hi, hz0, hz1, hz2⟩ := info_parts4 rec_info
  simp [sizeOf, typeInfo, hi, hz1]
theorem enters_cmp : ∀ args w, (callFunc 23 args).run Tryd.prog w = .ok (.enter 23 args) w := enters_of Tryd.func23 (by kernel_rfl) rfl
set_option maxHeartbeats 1600000 in
theorem sortf_some (g c : Nat) (rs : List RecT) (w : World) (hH : HoldsK recCells 4 w g 0 rs.toArray) (hg : g < w.heap.size) (hn : rs.length ≤ 1000) :
    Calls Tryd.prog 32 #[.slice (some ⟨g, 0, none⟩) rs.length c, .func (.func 23) #[] #[]] w fun e w' => e = .returned (.tuple #[]) ∧ ∃ m os, w' = sortWorldK recCells 4 w g 0 m (msR rs).toArray os := by
  obtain ⟨d, hd⟩ : ∃ d, d = rs.toArray := ⟨_, rfl⟩
  have hs : rs.length = d.size := by rw [hd]; simp
  have hms : ∃ d', d' = pdq (ltOf cmpR) d 0 d.size (Lib.bitLen d.size) true true := ⟨_, rfl⟩
  obtain ⟨d', hd'⟩ := hms
  have hso := pdq_sorts (ltOf cmpR) swo_cmpR d 0 d.size (Lib.bitLen d.size) true true (Nat.zero_le _) (Nat.le_refl _) (Or.inl rfl)
  have hmr : d' = (msR rs).toArray := by
    rw [← msR_lt rs, hd']
    have := sorted_unique_holds swo_cmpR cmp_total d _ hso.1 hso.2
    have e : d.toList = rs := by rw [hd]
    rw [e] at this
    rw [← this]
  rw [← hd] at hH
  rw [hs] at hn ⊢
  rw [← hmr]
  have hlim : Lib.bitLen d.size < 4611686018427387904 := Nat.lt_of_le_of_lt (Lib.bitLen_le d.size 62 (by omega) (by omega)) (by omega)
  have hp := AnyQ.pdqsortCmpFunc_all Tryd.pdqZ 4 agg_rec size_rec recCells cmpR 23 #[] swo_cmpR g 0 c d w enters_cmp (cmpLaysZ g 0 d.size w) ⟨fun _ => rfl, fun x v hv => recCells_one x v hv, hH, hg⟩ (d.size + 1) 0 d.size (Lib.bitLen d.size) d w (by omega) rfl (SWK.start hH) (Nat.zero_le _) (Nat.le_refl _) (by omega) hlim (Or.inl rfl)
  change Calls Tryd.prog 54 _ _ _ at hp
  rw [← hd'] at hp
  have hl : Calls Tryd.prog 55 #[.int .u64 (d.size : Int)] w fun e w' => e = .returned (.int .i64 (Lib.bitLen d.size : Nat)) ∧ w' = w := by
    have h := Any.bits_Len Tryd.lays125 (d.size : Int) w (by omega) (by omega)
    rwa [Int.toNat_natCast] at h
  have wr : IntKind.u64.wrap (d.size : Int) = d.size := by simp [IntKind.wrap, IntKind.bits, IntKind.signed]; omega
  generalize Lib.bitLen d.size = L at *
  generalize d.size = N at *
  have HP := Lib.hid hp
  have HL := Lib.hid hl
  clear hp hl hH hmr hd' hso hs
  go_enter Tryd.func32, Tryd.ntmps32
  go_wp2_with (first | (go_at_call 55; refine HL.out.mono ?_; rintro e w' ⟨rfl, rfl⟩) | (go_at_call 54; refine HP.out.mono ?_; rintro e w' ⟨rfl, n, os, rfl⟩))
  go_end0
  exact ⟨rfl, n, os, rfl⟩
set_option maxHeartbeats 1600000 in
theorem sortf_none (p : Option Addr) (c : Nat) (w : World) : Calls Tryd.prog 32 #[.slice p 0 c, .func (.func 23) #[] #[]] w fun e w' => e = .returned (.tuple #[]) ∧ w' = w := by
  have hp := fun lim W => AnyF.pdqsortCmpFunc_none Tryd.pdqZ p c lim (.func (.func 23) #[] #[]) W
  change ∀ (lim : _) (W : World), Calls Tryd.prog 54 _ _ _ at hp
  have hl : ∀ W, Calls Tryd.prog 55 #[.int .u64 0] W fun e w' => e = .returned (.int .i64 (Lib.bitLen 0 : Nat)) ∧ w' = W := fun W => by
    have h := Any.bits_Len Tryd.lays125 0 W (by omega) (by omega)
    exact h
  have HP := Lib.hid hp
  have HL := Lib.hid hl
  clear hp hl
  go_enter Tryd.func32, Tryd.ntmps32
  go_wp2_with (first | (go_at_call 55; refine (HL.out _).mono ?_; rintro e w' ⟨rfl, rfl⟩) | (go_at_call 54; refine (HP.out _ _).mono ?_; rintro e w' ⟨rfl, rfl⟩))
  go_end0
  exact ⟨rfl, rfl⟩
theorem sort_ok : SortOk := by
  intro A n c rs B W w h hl hn
  rcases h.own with ⟨hv, h0⟩ | ⟨g, cap, hv, h1, h2, h3, h4, h5, h6⟩
  · injection hv with e1 e2 e3
    subst e1 e3
    subst h0
    have hr : rs = [] := List.eq_nil_of_length_eq_zero hl
    subst hr
    refine (sortf_none none 0 w).mono ?_
    rintro e w' ⟨rfl, rfl⟩
    refine ⟨rfl, ?_⟩
    have e : msR [] = [] := List.eq_nil_of_length_eq_zero (by rw [msR_len]; rfl)
    rw [e]
    exact h
  · injection hv with e1 e2 e3
    subst e1 e3
    subst hl
    refine (sortf_some g c rs w (h.holdsK rfl) h2 hn).mono ?_
    rintro e w' ⟨rfl, m, os, rfl⟩
    exact ⟨rfl, h.sortedK rfl (msR_len rs)⟩
end Go.Proofs.YteaeplceahdioaaDoor
namespace Go.Proofs.YteaeplceahdioaaDoor
open Go.RowKit
set_option linter.unusedVariables false
set_option linter.unusedSimpArgs false
set_option maxRecDepth 20000
open Classical in
/-- What may be data of a type. -/
noncomputable def mayD (t : Int) (d : ByteArray) : Bool :=
  if t = 1 then decide (d.size = 4) else if t = 28 then decide (d.size = 16) else if t = 2 ∨ t = 5 then (labelsOf d).isSome else if t = 6 then decide (∃ a b t, IsSoa d.data.toList a b t)
  else if t = 16 then (if d.size ≤ 512 then decide (d.size ≠ 0) && decide (runT d d.size = d.size) else false) else decide (d.size ≤ 512)
set_option maxHeartbeats 3200000 in
theorem cutSoa_iff (s : ByteArray) (hs : s.size ≤ 100000) : ∀ w, Calls Tryd.prog 94 #[.string s] w fun e w' => (∃ a b c q, e = .returned (.tuple #[a, b, c, .bool q]) ∧ (q = true ↔ ∃ a b t, IsSoa s.data.toList a b t)) ∧ Below w.heap.size w w' := by
  intro w
  have HC := Lib.hid (fun w => cutp_any s w (by omega))
  go_enter Tryd.func94, Tryd.ntmps94
  go_wp2_with fail
  refine (HC.out w).mono ?_
  rintro e w1 ⟨hb1, ⟨n, t, hnt, rfl⟩ | ⟨hno, rfl⟩⟩
  · have HB1 := Lib.hid hb1
    have HNT := Lib.hid hnt
    have htl : t.length ≤ 100000 := by have := congrArg List.length hnt.2; simp at this; omega
    have HC2 := Lib.hid (fun w => cutp_any ⟨t.toArray⟩ w (by show t.toArray.size ≤ _; simp; omega))
    clear hb1 hnt
    rw [show sv t = .string ⟨t.toArray⟩ from rfl]
    go_wp2_with fail
    refine (HC2.out w1).mono ?_
    rintro e w2 ⟨hb2, ⟨n2, t2, hnt2, rfl⟩ | ⟨hno, rfl⟩⟩
    · have hnt2' : IsCut t n2 t2 := by simpa using hnt2
      have HB2 := Lib.hid (below_trans HB1.out HB1.out.size hb2)
      have HNT2 := Lib.hid hnt2'
      have htl2 : t2.length ≤ 100000 := by have := congrArg List.length hnt2'.2; simp at this; omega
      clear hb2 hnt2 hnt2'
      obtain ⟨T, hT⟩ : ∃ T : ByteArray, T = ⟨t2.toArray⟩ := ⟨_, rfl⟩
      have hTs : T.size = t2.length := by rw [hT]; simp [ByteArray.size]
      rw [show sv t2 = .string ⟨t2.toArray⟩ from rfl, ← hT]
      by_cases h20 : T.size = 20
      · have heq : ((T.size : Int) != 20) = false := by simp [h20]
        go_wp2_with fail
        refine bodyPost_ret (v := .tuple #[sv n, sv n2, .string T, .bool true]) (by simp [results, Tryd.results94, go_sem, hT]) rfl ?_
        exact ⟨⟨_, _, _, _, rfl, by simp; exact ⟨n, n2, t2, by have h := HNT.out; have h2 := HNT2.out; exact ⟨⟨h.1, by rw [h.2, h2.2]⟩, h2.1, by omega⟩⟩⟩, HB2.out⟩
      · have heq : ((T.size : Int) != 20) = true := by simp; omega
        go_wp2_with fail
        refine bodyPost_ret (v := .tuple #[.string ⟨#[]⟩, .string ⟨#[]⟩, .string ⟨#[]⟩, .bool false]) (by simp [results, Tryd.results94, go_sem]) rfl ?_
        refine ⟨⟨_, _, _, _, rfl, by
          simp
          intro a b t' hh
          have h1 := At.one hh.1 HNT.out
          have h2 := At.one (show IsCut t b t' from ⟨hh.2.1, h1.2.symm⟩) HNT2.out
          have := hh.2.2
          rw [h2.2] at this
          omega⟩, HB2.out⟩
    · have hno' : ∀ n2 t2, ¬ IsCut t n2 t2 := by simpa using hno
      have HB2 := Lib.hid (below_trans HB1.out HB1.out.size hb2)
      have HNO := Lib.hid hno'
      clear hb2 hno hno'
      go_wp2_with fail
      refine bodyPost_ret (v := .tuple #[.string ⟨#[]⟩, .string ⟨#[]⟩, .string ⟨#[]⟩, .bool false]) (by simp [results, Tryd.results94, go_sem]) rfl ?_
      refine ⟨⟨_, _, _, _, rfl, by
        simp
        intro a b t' hh
        have h1 := At.one hh.1 HNT.out
        exact HNO.out b t' ⟨hh.2.1, h1.2.symm⟩⟩, HB2.out⟩
  · have HB1 := Lib.hid hb1
    have HNO := Lib.hid hno
    clear hb1 hno
    go_wp2_with fail
    refine bodyPost_ret (v := .tuple #[.string ⟨#[]⟩, .string ⟨#[]⟩, .string ⟨#[]⟩, .bool false]) (by simp [results, Tryd.results94, go_sem]) rfl ?_
    exact ⟨⟨_, _, _, _, rfl, by simp; intro a b t' hh; exact HNO.out _ _ hh.1⟩, HB1.out⟩
theorem cutSoa_is (s : ByteArray) (hs : s.size ≤ 100000) : ∃ q : Bool, q = mayD 6 s ∧ ∀ w, Calls Tryd.prog 94 #[.string s] w fun e w' => (∃ a b c, e = .returned (.tuple #[a, b, c, .bool q])) ∧ Below w.heap.size w w' := by
  refine ⟨mayD 6 s, rfl, fun w => (cutSoa_iff s hs w).mono ?_⟩
  rintro e w' ⟨⟨a, b, c, q, rfl, hq⟩, hb⟩
  have : q = mayD 6 s := by
    unfold mayD
    rw [if_neg (by decide), if_neg (by decide), if_neg (by decide), if_pos rfl]
    cases q with
    | true => classical exact (decide_eq_true (hq.1 rfl)).symm
    | false => classical exact (decide_eq_false (fun h => by have := hq.2 h; cases this)).symm
  rw [← this]
  exact ⟨⟨a, b, c, rfl⟩, hb⟩
set_option maxHeartbeats 3200000 in
theorem rmay_is (t : Int) (ht : 0 ≤ t ∧ t < 65536) (d : ByteArray) (hd : d.size ≤ 100000) : ∀ w, Calls Tryd.prog 81 #[.int .u16 t, .string d] w fun e w' => e = .returned (.bool (mayD t d)) ∧ Below w.heap.size w w' := by
  suffices h : ∃ q : Bool, q = mayD t d ∧ ∀ w, Calls Tryd.prog 81 #[.int .u16 t, .string d] w fun e w' => e = .returned (.bool q) ∧ Below w.heap.size w w' by
    obtain ⟨q, rfl, h⟩ := h
    exact h
  by_cases h1 : t = 1
  · subst h1
    refine ⟨decide (d.size = 4), rfl, fun w => ?_⟩
    have heq : ((d.size : Int) == 4) = decide (d.size = 4) := by by_cases h : d.size = 4 <;> simp [h]; omega
    go_enter Tryd.func81, Tryd.ntmps81
    go_wp2_with fail
    go_ret
    exact ⟨rfl, Below.refl _ _⟩
  have e1 : (t == 1) = false := by simp; omega
  by_cases h28 : t = 28
  · subst h28
    refine ⟨decide (d.size = 16), rfl, fun w => ?_⟩
    have heq : ((d.size : Int) == 16) = decide (d.size = 16) := by by_cases h : d.size = 16 <;> simp [h]; omega
    go_enter Tryd.func81, Tryd.ntmps81
    go_wp2_with fail
    go_ret
    exact ⟨rfl, Below.refl _ _⟩
  have e28 : (t == 28) = false := by simp; omega
  by_cases h2 : t = 2
  · subst h2
    refine ⟨(labelsOf d).isSome, rfl, fun w => ?_⟩
    have HM := Lib.hid (fun w => may_any d w (by unfold maxLen; omega))
    go_enter Tryd.func81, Tryd.ntmps81
    go_wp2_with fail
    refine (HM.out w).mono ?_
    rintro e w1 ⟨rfl, hb⟩
    go_wp2_with fail
    go_ret
    exact ⟨rfl, hb⟩
  have e2 : (t == 2) = false := by simp; omega
  by_cases h5 : t = 5
  · subst h5
    refine ⟨(labelsOf d).isSome, rfl, fun w => ?_⟩
    have HM := Lib.hid (fun w => may_any d w (by unfold maxLen; omega))
    go_enter Tryd.func81, Tryd.ntmps81
    go_wp2_with fail
    refine (HM.out w).mono ?_
    rintro e w1 ⟨rfl, hb⟩
    go_wp2_with fail
    go_ret
    exact ⟨rfl, hb⟩
  have e5 : (t == 5) = false := by simp; omega
  by_cases h6 : t = 6
  · subst h6
    obtain ⟨q, hqd, hq⟩ := cutSoa_is d hd
    refine ⟨q, hqd, fun w => ?_⟩
    clear hqd
    have HM := Lib.hid hq
    clear hq
    go_enter Tryd.func81, Tryd.ntmps81
    go_wp2_with fail
    refine (HM.out w).mono ?_
    rintro e w1 ⟨⟨a, b, c, rfl⟩, hb⟩
    go_wp2_with fail
    go_ret
    exact ⟨rfl, hb⟩
  have e6 : (t == 6) = false := by simp; omega
  by_cases h16 : t = 16
  · subst h16
    by_cases hl : d.size ≤ 512
    · refine ⟨decide (d.size ≠ 0) && decide (runT d d.size = d.size), by show _ = mayD 16 d; unfold mayD; simp [hl], fun w => ?_⟩
      have HM := Lib.hid (fun w => texts_any d w hl)
      obtain ⟨Q, hQ⟩ : ∃ Q, (decide (d.size ≠ 0) && decide (runT d d.size = d.size)) = Q := ⟨_, rfl⟩
      rw [hQ] at HM ⊢
      clear hQ
      have hl' : (d.size : Int) ≤ 512 := by omega
      go_enter Tryd.func81, Tryd.ntmps81
      go_wp2_with fail
      refine (HM.out w).mono ?_
      rintro e w1 ⟨rfl, hb⟩
      go_wp2_with fail
      go_ret
      exact ⟨rfl, hb⟩
    · refine ⟨false, by show _ = mayD 16 d; unfold mayD; simp [hl], fun w => ?_⟩
      have hl' : ¬ (d.size : Int) ≤ 512 := by omega
      have hl2 : (512 : Int) < d.size := by omega
      go_enter Tryd.func81, Tryd.ntmps81
      go_wp2_with fail
      go_ret
      exact ⟨rfl, Below.refl _ _⟩
  have e16 : (t == 16) = false := by simp; omega
  refine ⟨decide (d.size ≤ 512), by unfold mayD; rw [if_neg h1, if_neg h28, if_neg (by omega), if_neg h6, if_neg h16], fun w => ?_⟩
  have heq : decide ((d.size : Int) ≤ 512) = decide (d.size ≤ 512) := by by_cases h : d.size ≤ 512 <;> simp [h] <;> omega
  go_enter Tryd.func81, Tryd.ntmps81
  go_wp2_with fail
  go_ret
  exact ⟨rfl, Below.refl _ _⟩
/-- Which record may be in a message. -/
noncomputable def mayR (r : RecT) : Bool := (labelsOf r.1).isSome && ((r.2.1 != 41) && mayD r.2.1 r.2.2.2)
set_option maxHeartbeats 1600000 in
theorem mayrec_is (r : RecT) (ht : 0 ≤ r.2.1 ∧ r.2.1 < 65536) (hn : r.1.size ≤ 100000) (hd : r.2.2.2.size ≤ 100000) : ∀ w, Calls Tryd.prog 56 #[recV r] w fun e w' => e = .returned (.bool (mayR r)) ∧ Below w.heap.size w w' := by
  suffices h : ∃ q : Bool, q = mayR r ∧ ∀ w, Calls Tryd.prog 56 #[recV r] w fun e w' => e = .returned (.bool q) ∧ Below w.heap.size w w' by
    obtain ⟨q, rfl, h⟩ := h
    exact h
  obtain ⟨m, hm⟩ : ∃ m, (labelsOf r.1).isSome = m := ⟨_, rfl⟩
  have HM := Lib.hid (fun w => may_any r.1 w (by unfold maxLen; omega))
  rw [hm] at HM
  have hmr : mayR r = (m && ((r.2.1 != 41) && mayD r.2.1 r.2.2.2)) := by unfold mayR; rw [hm]
  have HMR := Lib.hid hmr
  clear hm hmr
  unfold recV
  cases m with
  | false =>
    refine ⟨false, by rw [HMR.out]; rfl, fun w => ?_⟩
    go_enter Tryd.func56, Tryd.ntmps56
    go_wp2_with fail
    refine (HM.out _).mono ?_
    rintro e w1 ⟨rfl, hb⟩
    have HB := Lib.hid (below_alloc _ (Below.refl _ _) (Nat.le_refl _) hb)
    clear hb
    go_wp2_with fail
    go_ret
    exact ⟨rfl, HB.out⟩
  | true =>
    by_cases h41 : r.2.1 = 41
    · have e41 : (r.2.1 != 41) = false := by simp [h41]
      clear h41
      refine ⟨false, by rw [HMR.out, e41]; rfl, fun w => ?_⟩
      go_enter Tryd.func56, Tryd.ntmps56
      go_wp2_with fail
      refine (HM.out _).mono ?_
      rintro e w1 ⟨rfl, hb⟩
      have hc := (Cs.new w #[.string r.1, .int .u16 r.2.1, .int .u32 r.2.2.1, .string r.2.2.2] 32 [.string r.1, .int .u16 r.2.1, .int .u32 r.2.2.1, .string r.2.2.2]).below hb
      have c1 := hc.get 1 _
      have c3 := hc.get 3 _
      have HB := Lib.hid (below_alloc _ (Below.refl _ _) (Nat.le_refl _) hb)
      clear hb hc
      go_wp2_with fail
      go_ret
      exact ⟨rfl, HB.out⟩
    · have e41 : (r.2.1 != 41) = true := by simp [h41]
      have hq := rmay_is r.2.1 ht r.2.2.2 hd
      have hmr := HMR.out
      rw [e41] at hmr
      generalize mayD r.2.1 r.2.2.2 = q at *
      have HQ := Lib.hid hq
      have HMR2 := Lib.hid hmr
      clear hq HMR hmr
      refine ⟨q, by rw [HMR2.out]; simp, fun w => ?_⟩
      go_enter Tryd.func56, Tryd.ntmps56
      go_wp2_with fail
      refine (HM.out _).mono ?_
      rintro e w1 ⟨rfl, hb⟩
      have hc := (Cs.new w #[.string r.1, .int .u16 r.2.1, .int .u32 r.2.2.1, .string r.2.2.2] 32 [.string r.1, .int .u16 r.2.1, .int .u32 r.2.2.1, .string r.2.2.2]).below hb
      have c1 := hc.get 1 _
      have c3 := hc.get 3 _
      have HB := Lib.hid (below_alloc _ (Below.refl _ _) (Nat.le_refl _) hb)
      clear hb hc
      go_wp2_with fail
      refine (HQ.out w1).mono ?_
      rintro e w2 ⟨rfl, hb2⟩
      have HB2 := Lib.hid (below_trans HB.out HB.out.size hb2)
      clear hb2
      go_wp2_with fail
      go_ret
      exact ⟨rfl, HB2.out⟩
end Go.Proofs.YteaeplceahdioaaDoor
namespace Go.Proofs.YteaeplceahdioaaDoor
open Go.RowKit
set_option linter.unusedVariables false
set_option linter.unusedSimpArgs false
set_option maxRecDepth 20000
theorem mayD_soa (n : Nat) : mayD 6 (soaD n) = true := by
  unfold mayD
  rw [if_neg (by decide), if_neg (by decide), if_neg (by decide), if_pos rfl]
  have h : ∃ a b t, IsSoa (soaD n).data.toList a b t := ⟨_, _, _, by
    show IsSoa (dataL (nameZ []) (nameZ []) [n, 10, 3, 40, 1]).toArray.toList _ _ _
    rw [List.toList_toArray]
    exact isSoa_data (nameZ_may [] (by simp)) (nameZ_may [] (by simp)) rfl⟩
  classical exact decide_eq_true h
theorem mayR_soa (o : ByteArray) (n : Nat) (ho : (labelsOf o).isSome = true) : mayR (soaR o n) = true := by
  unfold mayR soaR
  rw [ho]
  show (true && (((6 : Int) != 41) && mayD 6 (soaD n))) = true
  rw [mayD_soa]; rfl
theorem labelsOf_root : (labelsOf ⟨#[]⟩).isSome = true := by
  have h := nameZ_may [] (by simp)
  decide
theorem mayR_99 (t : Int) (d : ByteArray) (hd : d.size ≤ 512) : mayR (⟨#[]⟩, 99, t, d) = true := by
  unfold mayR
  rw [labelsOf_root]
  show (true && (((99 : Int) != 41) && mayD 99 d)) = true
  unfold mayD
  rw [if_neg (by decide), if_neg (by decide), if_neg (by decide), if_neg (by decide), if_neg (by decide), decide_eq_true hd]; rfl
/-- A name by numbers is one. -/
theorem labelsOf_origin (n : Nat) : (labelsOf (originB n)).isSome = true := by
  have h := nameZ_may [((n % 6 : Nat) : Int)] (by intro z hz; simp at hz; omega)
  exact h
theorem sortedR_nodup {rs : List RecT} (h : rs.Nodup) : (sortedR rs).length = rs.length := by
  have hn := (msR_perm rs).symm.nodup h
  have e : msR rs = sortedR rs := msR_eq (msR_rising (fun i x y hx hy hxy => by
    subst hxy
    obtain ⟨a1, e1⟩ := List.getElem?_eq_some_iff.1 hx
    obtain ⟨a2, e2⟩ := List.getElem?_eq_some_iff.1 hy
    exact List.pairwise_iff_getElem.1 hn i (i + 1) a1 a2 (by omega) (e1.trans e2.symm)))
  rw [← e, msR_len]
end Go.Proofs.YteaeplceahdioaaDoor
namespace Go.Proofs.YteaeplceahdioaaDoor
open Go.RowKit
set_option linter.unusedVariables false
set_option linter.unusedSimpArgs false
theorem find_unique {z : List RecT} {s : RecT} (hs : s ∈ z) (h6 : isSoaR s = true) (hu : ∀ q ∈ z, isSoaR q = true → q = s) : firstS z = some s := by
  unfold firstS
  cases h : z.find? isSoaR with
  | none => exact absurd h6 (List.find?_eq_none.1 h s hs)
  | some q => rw [hu q (List.mem_of_find?_eq_some h) (List.find?_some h)]
theorem rising_nodup {l : List RecT} (h : Rising l) : l.Nodup := List.Pairwise.imp (fun h => cmp_lt_ne h) h
theorem lessR_mem10 {z : List RecT} {r q : RecT} : q ∈ lessR z r ↔ q ∈ z ∧ q ≠ r := by
  unfold lessR
  rw [List.mem_filter]
  constructor
  · rintro ⟨h1, h2⟩
    exact ⟨h1, fun e => by subst e; rw [(eqB_iff q q).2 rfl] at h2; cases h2⟩
  · rintro ⟨h1, h2⟩
    refine ⟨h1, ?_⟩
    cases e : eqB q r with
    | false => rfl
    | true => exact absurd ((eqB_iff q r).1 e) h2
theorem insR_mem11 {z : List RecT} {r q : RecT} : q ∈ insR z r ↔ q ∈ z ∨ q = r := by
  constructor
  · intro h
    unfold insR at h
    rcases List.mem_append.1 h with h | h
    · exact .inl ((List.takeWhile_sublist _).mem h)
    · rcases List.mem_cons.1 h with h | h
      · exact .inr h
      · exact .inl ((List.dropWhile_sublist _).mem h)
  · rintro (h | rfl)
    · exact insR_keeps h
    · exact insR_has _ _
theorem delAll_mem : ∀ (l z : List RecT), Rising z → l.Nodup → (∀ r ∈ l, r ∈ z) → ∃ z', delAll l z = some z' ∧ Rising z' ∧ ∀ q, q ∈ z' ↔ q ∈ z ∧ q ∉ l
  | [], z, h, _, _ => ⟨z, rfl, h, fun q => by simp⟩
  | r :: l, z, h, hn, hm => by
    have hn := List.nodup_cons.1 hn
    obtain ⟨z', e, h1, h2⟩ := delAll_mem l (lessR z r) (lessR_rising h) hn.2 (fun q hq => lessR_mem10.2 ⟨hm q (by simp [hq]), fun e => hn.1 (by rw [← e]; exact hq)⟩)
    refine ⟨z', ?_, h1, fun q => ?_⟩
    · rw [delAll_cons, (hasB_iff _ _).2 (hm r (by simp)), if_pos rfl, e]
    · rw [h2, lessR_mem10, List.mem_cons]
      constructor
      · rintro ⟨⟨a, b⟩, c⟩; exact ⟨a, fun h => h.elim b c⟩
      · rintro ⟨a, b⟩; exact ⟨⟨a, fun h => b (.inl h)⟩, fun h => b (.inr h)⟩
theorem insAll_mem : ∀ (l z : List RecT), Rising z → l.Nodup → (∀ r ∈ l, r ∉ z) → ∃ z', insAll l z = some z' ∧ Rising z' ∧ ∀ q, q ∈ z' ↔ q ∈ z ∨ q ∈ l
  | [], z, h, _, _ => ⟨z, rfl, h, fun q => by simp⟩
  | r :: l, z, h, hn, hm => by
    have hn := List.nodup_cons.1 hn
    have hr := hm r (by simp)
    obtain ⟨z', e, h1, h2⟩ := insAll_mem l (insR z r) (insR_rising h hr) hn.2 (fun q hq hz => by
      rcases insR_mem11.1 hz with hz | hz
      · exact hm q (by simp [hq]) hz
      · exact hn.1 (by rw [← hz]; exact hq))
    refine ⟨z', ?_, h1, fun q => ?_⟩
    · rw [insAll_cons, hasB_false.2 hr, if_neg (by decide), e]
    · rw [h2, insR_mem11, List.mem_cons]
      constructor
      · rintro ((a | a) | a)
        · exact .inl a
        · exact .inr (.inl a)
        · exact .inr (.inr a)
      · rintro (a | a | a)
        · exact .inl (.inl a)
        · exact .inl (.inr a)
        · exact .inr a
/-- The records that are no SOA. -/
def nosoa (l : List RecT) : List RecT := l.filter fun r => !isSoaR r
theorem nosoa_mem {l : List RecT} {q : RecT} : q ∈ nosoa l ↔ q ∈ l ∧ isSoaR q = false := by
  unfold nosoa; rw [List.mem_filter]; simp
theorem nosoa_le (l : List RecT) : (nosoa l).length ≤ l.length := List.length_filter_le _ _
theorem nosoa_rising {l : List RecT} (h : Rising l) : Rising (nosoa l) := List.Pairwise.sublist List.filter_sublist h
theorem nosoa_yes {l : List RecT} {k : Nat} {r : RecT} (h : l[k]? = some r) (hs : isSoaR r = true) : nosoa (l.take (k + 1)) = nosoa (l.take k) := by
  unfold nosoa; rw [List.take_add_one, h, List.filter_append]; simp [hs]
theorem nosoa_no {l : List RecT} {k : Nat} {r : RecT} (h : l[k]? = some r) (hs : isSoaR r = false) : nosoa (l.take (k + 1)) = nosoa (l.take k) ++ [r] := by
  unfold nosoa; rw [List.take_add_one, h, List.filter_append]; simp [hs]
theorem delta_leads {a b : List RecT} {s1 s2 : RecT} (ha : Rising a) (hb : Rising b) (h1 : s1 ∈ a) (h2 : s2 ∈ b) (t1 : isSoaR s1 = true) (t2 : isSoaR s2 = true)
    (u1 : ∀ q ∈ a, isSoaR q = true → q = s1) (u2 : ∀ q ∈ b, isSoaR q = true → q = s2) (hne : s1 ≠ s2) : deltaR a s1 s2 (nosoa (woR a b)) (nosoa (woR b a)) = .inr b := by
  have n1 : s1 ∉ b := fun h => hne (u2 s1 h t1)
  have n2 : s2 ∉ a := fun h => hne (u1 s2 h t2).symm
  unfold deltaR
  rw [find_unique h1 t1 u1]
  simp only [eqB_refl, if_true]
  obtain ⟨z1, e1, r1, m1⟩ := delAll_mem (s1 :: nosoa (woR a b)) a ha
    (List.nodup_cons.2 ⟨(fun h => by rw [nosoa_mem, t1] at h; exact absurd h.2 (by decide)), rising_nodup (nosoa_rising (woR_rising ha))⟩)
    (fun r hr => by
      rcases List.mem_cons.1 hr with rfl | hr
      · exact h1
      · exact (woR_mem.1 (nosoa_mem.1 hr).1).1)
  rw [e1]
  obtain ⟨z2, e2, r2, m2⟩ := insAll_mem (nosoa (woR b a) ++ [s2]) z1 r1
    (List.nodup_append.2 ⟨rising_nodup (nosoa_rising (woR_rising hb)), by simp, fun x hx y hy e => by
      simp at hy; subst hy e
      rw [nosoa_mem, t2] at hx; cases hx.2⟩)
    (fun r hr hz => by
      have hz := ((m1 r).1 hz).1
      rcases List.mem_append.1 hr with hr | hr
      · exact (woR_mem.1 (nosoa_mem.1 hr).1).2 hz
      · simp at hr; subst hr; exact n2 hz)
  simp only [e2]
  congr 1
  refine rising_ext r2 hb (fun q => ?_)
  rw [m2, m1, List.mem_append, List.mem_singleton, nosoa_mem, woR_mem, List.mem_cons, nosoa_mem, woR_mem]
  constructor
  · rintro (⟨qa, hn⟩ | ⟨⟨qb, -⟩, -⟩ | rfl)
    · by_cases hq : q ∈ b
      · exact hq
      · exfalso
        cases hs : isSoaR q with
        | true => exact hn (.inl (u1 q qa hs))
        | false => exact hn (.inr ⟨⟨qa, hq⟩, hs⟩)
    · exact qb
    · exact h2
  · intro qb
    cases hs : isSoaR q with
    | true => exact .inr (.inr (u2 q qb hs))
    | false =>
      by_cases qa : q ∈ a
      · refine .inl ⟨qa, ?_⟩
        rintro (rfl | ⟨⟨-, h⟩, -⟩)
        · rw [t1] at hs; cases hs
        · exact h qb
      · exact .inr (.inl ⟨⟨qb, qa⟩, rfl⟩)
theorem unders_nosoa (o : ByteArray) (ds : List ActT) (most : Nat) : ∀ q ∈ undersOf o false ds most, isSoaR q = false := by
  intro q hq
  unfold undersOf at hq
  obtain ⟨a, -, rfl⟩ := List.mem_map.1 hq
  unfold underR isSoaR
  split
  · rfl
  · rename_i h
    simpa using h
theorem zoneR_soa (o : ByteArray) (n : Nat) (ds : List ActT) (most : Nat) : soaR o n ∈ zoneR o n ds most ∧ ∀ q ∈ zoneR o n ds most, isSoaR q = true → q = soaR o n := by
  unfold zoneR
  refine ⟨by rw [sortedR_mem]; simp, fun q hq hs => ?_⟩
  rw [sortedR_mem, List.mem_append, List.mem_singleton] at hq
  rcases hq with h | h
  · rw [unders_nosoa o ds most q h] at hs; cases hs
  · exact h
theorem back_there (o : ByteArray) (ds ds2 : List ActT) (most : Nat) :
    deltaR (zoneR o 1 ds most) (soaR o 1) (soaR o 2) (nosoa (woR (zoneR o 1 ds most) (zoneR o 2 ds2 most))) (nosoa (woR (zoneR o 2 ds2 most) (zoneR o 1 ds most))) = .inr (zoneR o 2 ds2 most) ∧
    deltaR (zoneR o 2 ds2 most) (soaR o 2) (soaR o 1) (nosoa (woR (zoneR o 2 ds2 most) (zoneR o 1 ds most))) (nosoa (woR (zoneR o 1 ds most) (zoneR o 2 ds2 most))) = .inr (zoneR o 1 ds most) := by
  have h1 := zoneR_soa o 1 ds most
  have h2 := zoneR_soa o 2 ds2 most
  have hne : soaR o 1 ≠ soaR o 2 := fun e => soaD_ne (by unfold soaR at e; injection e with _ e; injection e with _ e; injection e)
  exact ⟨delta_leads (zoneR_rising _ _ _ _) (zoneR_rising _ _ _ _) h1.1 h2.1 rfl rfl h1.2 h2.2 hne, delta_leads (zoneR_rising _ _ _ _) (zoneR_rising _ _ _ _) h2.1 h1.1 rfl rfl h2.2 h1.2 (fun e => hne e.symm)⟩
end Go.Proofs.YteaeplceahdioaaDoor
namespace Go.Proofs.YteaeplceahdioaaDoor
open Go.RowKit
set_option linter.unusedVariables false
set_option linter.unusedSimpArgs false
set_option maxRecDepth 20000
theorem scanR_ok (m : RecT → Bool) (o : ByteArray) : ∀ (z : List RecT) (prev : Option RecT) (n : Nat), (∀ p, prev = some p → ∀ r ∈ z, cmpR p r < 0) → Rising z → (∀ r ∈ z, m r = true ∧ (stripOf r.1 o).isSome = true ∧ (r.2.1 = 6 → r.1 = o)) →
    scanR m o prev n z = some (n + (z.filter isSoaR).length)
  | [], _, _, _, _, _ => rfl
  | r :: z, prev, n, hp, hr, hz => by
    obtain ⟨h1, h2, h3⟩ := hz r (by simp)
    have hr := List.pairwise_cons.1 hr
    have hb : badR m o prev r = false := by
      unfold badR
      rw [h1, h2]
      have e2 : (r.2.1 == 6 && !(r.1.toList == o.toList)) = false := by
        by_cases h : r.2.1 = 6
        · rw [h3 h]; simp
        · simp [h]
      rw [e2]
      cases prev with
      | none => rfl
      | some p =>
        have := hp p rfl r (by simp)
        show (decide (0 ≤ cmpR p r) || !true || !true || false) = false
        rw [decide_eq_false (by omega)]; rfl
    unfold scanR
    rw [hb, if_neg (by decide), scanR_ok m o z (some r) _ (fun p hpp q hq => by injection hpp with hpp; subst hpp; exact hr.1 q hq) hr.2 (fun q hq => hz q (by simp [hq]))]
    rw [List.filter_cons]
    unfold isSoaR
    by_cases h : r.2.1 = 6
    · simp [h]; omega
    · simp [h]
theorem one_soa {z : List RecT} {s : RecT} (hz : Rising z) (hs : s ∈ z) (h6 : isSoaR s = true) (hu : ∀ q ∈ z, isSoaR q = true → q = s) : (z.filter isSoaR).length = 1 := by
  have hn : (z.filter isSoaR).Nodup := List.Pairwise.sublist List.filter_sublist (rising_nodup hz)
  have hm : s ∈ z.filter isSoaR := List.mem_filter.2 ⟨hs, h6⟩
  have ha : ∀ q ∈ z.filter isSoaR, q = s := fun q hq => hu q (List.mem_filter.1 hq).1 (List.mem_filter.1 hq).2
  match hf : z.filter isSoaR with
  | [] => rw [hf] at hm; cases hm
  | [a] => rfl
  | a :: b :: l =>
    rw [hf] at hn ha
    have e1 := ha a (by simp)
    have e2 := ha b (by simp)
    exact absurd (e1.trans e2.symm) (fun e => (List.nodup_cons.1 hn).1 (by simp [e]))
/-- They are a zone, but for their sizes. -/
theorem right_ok {m : RecT → Bool} {o : ByteArray} {z : List RecT} {s : RecT} (hr : Rising z) (hs : s ∈ z) (h6 : isSoaR s = true) (hu : ∀ q ∈ z, isSoaR q = true → q = s) (hz : ∀ r ∈ z, m r = true ∧ (stripOf r.1 o).isSome = true ∧ (r.2.1 = 6 → r.1 = o)) :
    rightR m o z = fitsR z.length (sizeR z) := by
  unfold rightR fitsR
  rw [scanR_ok m o z none 0 (fun p h => by cases h) hr hz, one_soa hr hs h6 hu]
  simp
theorem check_ok {m : RecT → Bool} {o : ByteArray} {z : List RecT} {s : RecT} (hr : Rising z) (hs : s ∈ z) (h6 : isSoaR s = true) (hu : ∀ q ∈ z, isSoaR q = true → q = s) (hz : ∀ r ∈ z, m r = true ∧ (stripOf r.1 o).isSome = true ∧ (r.2.1 = 6 → r.1 = o)) :
    checkR m o z = if fitsR z.length (sizeR z) = true then 0 else 8 := by
  unfold checkR
  rw [right_ok hr hs h6 hu hz]
  split <;> simp_all
end Go.Proofs.YteaeplceahdioaaDoor
namespace Go.Proofs.YteaeplceahdioaaDoor
open Go.RowKit
set_option linter.unusedVariables false
set_option linter.unusedSimpArgs false
set_option maxRecDepth 20000
attribute [local simp] putsF isV wordOf Deps Region.binds Region.wanted Act.put wantedX isB
theorem insR_mem10 {out : List RecT} {r q : RecT} (h : q ∈ insR out r) : q ∈ out ∨ q = r := by
  unfold insR at h
  rcases List.mem_append.1 h with h | h
  · exact .inl ((List.takeWhile_sublist _).mem h)
  · rcases List.mem_cons.1 h with h | h
    · exact .inr h
    · exact .inl ((List.dropWhile_sublist _).mem h)
theorem sorted_snoc10 {z : List RecT} {r : RecT} (hz : Rising z) (hr : hasB z r = false) : sortedR (z ++ [r]) = insR z r :=
  rising_ext (sortedR_rising _) (insR_rising hz (hasB_false.1 hr)) (fun q => by
    rw [sortedR_mem, List.mem_append, List.mem_singleton]
    constructor
    · rintro (h | rfl)
      · exact insR_keeps h
      · exact insR_has _ _
    · exact insR_mem10)
theorem lessR_eq10 {z : List RecT} {r : RecT} (h : (lessR z r).length = z.length) : hasB z r = false := by
  have : lessR z r = z := List.filter_sublist.eq_of_length h
  cases e : hasB z r with
  | false => rfl
  | true =>
    have hm := (hasB_iff _ _).1 e
    rw [← this] at hm
    unfold lessR at hm
    have := (List.mem_filter.1 hm).2
    rw [(eqB_iff r r).2 rfl] at this
    cases this
theorem lessR_ne10 {z : List RecT} {r : RecT} (h : (lessR z r).length ≠ z.length) : hasB z r = true := by
  cases e : hasB z r with
  | true => rfl
  | false => exact absurd (by rw [lessR_none (hasB_false.1 e)]) h
theorem obm_of_cs10 {B g : Nat} {W w : World} {a b c d : Value} (hb : Below B W w) (hs : B ≤ w.heap.size) (hg : B ≤ g) (h : Cs w g [a, b, c, d]) : OBM 4 B W (.slice (some ⟨g, 0, none⟩) 1 1) 1 [a, b, c, d] w := by
  refine ⟨hb, hs, rfl, .inr ⟨g, 1, rfl, hg, h.lt, Nat.le_refl _, by decide, fun j hj => ?_, fun j u hu => h.get j u hu⟩⟩
  have h1 := h.2 j (by simpa using hj)
  exact ⟨by rw [h1.1]; rfl, h1.2⟩
theorem hasB_take10 {z : List RecT} {r x : RecT} {j : Nat} (hx : z[j]? = some x) (h : hasB (z.take j) r = false) (he : eqB x r = false) : hasB (z.take (j + 1)) r = false := by
  rw [hasB_false] at h ⊢
  rw [List.take_add_one, hx]
  intro hm
  rcases List.mem_append.1 hm with hm | hm
  · exact h hm
  · simp at hm; subst hm
    exact eqB_false he rfl
theorem hasB_at10 {z : List RecT} {r x : RecT} {j : Nat} (hx : z[j]? = some x) (he : eqB x r = true) : hasB z r = true := by
  rw [hasB_iff]
  obtain rfl := (eqB_iff _ _).1 he
  exact List.mem_of_getElem? hx
theorem until_mono10 {k : Nat} {p : Value → World → Prop} {d : Nat → Bool} {K : Nat} {v : Value} {w : World} (h : until_ k p d v w) : until_ k p (setD d K) v w := fun hk => h (setD_false hk)
/-- What the statement's delta leaves. -/
def Delta10 (x : Nat ⊕ List RecT) (w : World) (e : Ending) (w' : World) : Prop :=
  (∃ er : Nat, x = .inl er ∧ e = .returned (.tuple #[.slice none 0 0, .int .i64 (er : Int)]) ∧ Below w.heap.size w w') ∨ (∃ z v, x = .inr z ∧ e = .returned (.tuple #[v, .int .i64 0]) ∧ OBM 4 w.heap.size w v z.length (flatR z) w')
/-- In the midst of what goes. -/
structure Del10 (w2 w : World) (L z : List RecT) (k : Nat) (v : Value) (zk : List RecT) (wr : World) : Prop where
  own : OBM 4 w2.heap.size w2 v zk.length (flatR zk) wr
  ris : Rising zk
  len : zk.length ≤ z.length
  rest : delAll (L.drop k) zk = delAll L z
  bel : Below w.heap.size w wr
/-- In the midst of what comes. -/
structure Ins10 (w2 w : World) (L z : List RecT) (k : Nat) (v : Value) (zk : List RecT) (wr : World) : Prop where
  own : OBM 4 w2.heap.size w2 v zk.length (flatR zk) wr
  ris : Rising zk
  len : zk.length ≤ z.length + k
  rest : insAll (L.drop k) zk = insAll L z
  bel : Below w.heap.size w wr
theorem wrap_next10 (j : Nat) (h : j ≤ 100000) : IntKind.i64.wrap ((j : Int) + 1) = ((j + 1 : Nat) : Int) := by
  rw [IntWalk.i64_in _ (by omega)]; omega
set_option maxHeartbeats 6400000 in
theorem delta10_any (V : Value) (z : List RecT) (fr tt : RecT) (Ag An : Option Addr) (ng cg nn cn : Nat) (gone new : List RecT) (w : World) (hZ : ZoneAt w V z) (hzn : z.length ≤ 10000) (hri : Rising z)
    (hG : RowROk w (Ag, ng, cg, gone)) (hGn : ng ≤ 10000) (hG0 : Ag = none → ng = 0) (hN : RowROk w (An, nn, cn, new)) (hNn : nn ≤ 10000) (hN0 : An = none → nn = 0) :
    Calls Tryd.prog 20 #[V, dltV fr tt (.slice Ag ng cg) (.slice An nn cn)] w (Delta10 (deltaR z fr tt gone new) w) := by
  obtain ⟨i0, hi, hz0, hz1, hz2⟩ := info_parts4 rec_info
  obtain ⟨AR, hAR⟩ : ∃ R, R = Delta10 (deltaR z fr tt gone new) w := ⟨_, rfl⟩
  rw [← hAR]
  have HFAIL : Hid (∀ er : Nat, deltaR z fr tt gone new = .inl er → ∀ w', Below w.heap.size w w' → AR (.returned (.tuple #[.slice none 0 0, .int .i64 (er : Int)])) w') := Lib.hid (fun er h w' hb => by rw [hAR]; exact .inl ⟨er, h, rfl, hb⟩)
  have HOK : Hid (∀ z' v w', deltaR z fr tt gone new = .inr z' → OBM 4 w.heap.size w v z'.length (flatR z') w' → AR (.returned (.tuple #[v, .int .i64 0])) w') := Lib.hid (fun z' v w' h ho => by rw [hAR]; exact .inr ⟨z', v, h, rfl, ho⟩)
  have HZ := Lib.hid hZ
  obtain ⟨AZ, cz, rfl, hz1', hz2', hz3, hz4⟩ := hZ
  have SOA := Lib.hid (fun wx hb => soaz_any AZ z.length cz z wx ((hz1'.sl.recs (Nat.le_refl _) rfl).below hb) rfl (by unfold maxLen; omega))
  have HZS := Lib.hid hz1'.sl
  have HZ0 : Hid (AZ = none → z.length = 0) := Lib.hid (fun h => (hz2' h).1)
  obtain ⟨n, hn⟩ : ∃ n, n = z.length := ⟨_, rfl⟩
  rw [← hn] at HZ SOA HZ0
  rw [← hn]
  have hn1 : n ≤ 10000 := by omega
  have HNZ := Lib.hid hn
  have HRI := Lib.hid hri
  have HG := Lib.hid hG
  have HN := Lib.hid hN
  have HG0 := Lib.hid hG0
  have HN0 := Lib.hid hN0
  have HGN := Lib.hid hGn
  have HNN := Lib.hid hNn
  have HDR : Hid (deltaR z fr tt gone new = match firstS z with
    | none => .inl 5
    | some s => if eqB s fr = true then (match delAll (fr :: gone) z with
      | none => .inl 6
      | some z1 => (match insAll (new ++ [tt]) z1 with
        | none => .inl 7
        | some z2 => .inr z2)) else .inl 5) := Lib.hid rfl
  unfold dltV dltCells recCells
  obtain ⟨W, hW⟩ : ∃ W, W = w.alloc (.cells #[.string fr.1, .int .u16 fr.2.1, .int .u32 fr.2.2.1, .string fr.2.2.2, .string tt.1, .int .u16 tt.2.1, .int .u32 tt.2.2.1, .string tt.2.2.2, .slice Ag ng cg, .slice An nn cn] 48) := ⟨_, rfl⟩
  obtain ⟨B, hB⟩ : ∃ B, B = w.heap.size := ⟨_, rfl⟩
  have HC : Hid (Cs W B [.string fr.1, .int .u16 fr.2.1, .int .u32 fr.2.2.1, .string fr.2.2.2, .string tt.1, .int .u16 tt.2.1, .int .u32 tt.2.2.1, .string tt.2.2.2, .slice Ag ng cg, .slice An nn cn]) := Lib.hid (by rw [hW, hB]; exact Cs.new w _ _ _)
  have HBW : Hid (Below w.heap.size w W) := Lib.hid (by rw [hW]; exact (Below.refl _ _).alloc (Nat.le_refl _) _)
  have HW := Lib.hid hW
  have HBB := Lib.hid hB
  clear hAR hz1' hz2' hz3 hz4 hzn hri hG hN hGn hNn hG0 hN0 hW hB hn
  go_enter Tryd.func20, Tryd.ntmps20
  go_wp2_with fail
  rw [← HW.out, ← HBB.out]
  refine (SOA.out W HBW.out).mono ?_
  rintro e w1 ⟨rfl, hb1⟩
  have HC1 := Lib.hid (HC.out.below hb1)
  have HB1 := Lib.hid (below_trans HBW.out HBW.out.size hb1)
  have c0 := HC1.out.get 0 _
  have c1 := HC1.out.get 1 _
  have c2 := HC1.out.get 2 _
  have c3 := HC1.out.get 3 _
  have hlB := HC1.out.lt
  clear hb1 SOA HC HBW HW
  cases hs : firstS z with
  | none =>
    have hd := HDR.out
    rw [hs] at hd
    have HD := Lib.hid hd
    clear hs hd
    unfold recV zeroR
    go_wp2_with fail
    exact HFAIL.out 5 HD.out _ (HB1.out.alloc HB1.out.size _)
  | some s =>
    have hd := HDR.out
    rw [hs] at hd
    simp only at hd
    obtain ⟨q, hq⟩ : ∃ q, eqB s fr = q := ⟨_, rfl⟩
    have hne : ∀ w, (binOp .neq 32 (recV s) (recV fr)).run Tryd.prog w = .ok (.bool (!q)) w := fun w => by rw [← hq]; exact rec_neq s fr w
    rw [hq] at hd
    unfold recV at hne
    have HD := Lib.hid hd
    clear hs hd hq
    simp only [Option.getD_some, Option.isSome_some]
    unfold recV
    cases q with
    | false =>
      have hd := HD.out
      rw [if_neg (by decide)] at hd
      have HD := Lib.hid hd
      clear hd
      go_wp2_with fail
      exact HFAIL.out 5 HD.out _ (HB1.out.alloc HB1.out.size _)
    | true =>
      have hd := HD.out
      rw [if_pos rfl] at hd
      have HD := Lib.hid hd
      clear hd
      have HB2 := Lib.hid (HB1.out.alloc HB1.out.size (.cells #[.string s.1, .int .u16 s.2.1, .int .u32 s.2.2.1, .string s.2.2.2] 32))
      have HC2 := Lib.hid (HC1.out.alloc (.cells #[.string s.1, .int .u16 s.2.1, .int .u32 s.2.2.1, .string s.2.2.2] 32))
      go_upto_region 4 with fail
      generalize (w1.alloc (.cells #[.string s.1, .int .u16 s.2.1, .int .u32 s.2.2.1, .string s.2.2.2] 32)) = w2 at *
      have HSZ : Hid (Src Tryd.prog 4 34 (.slice AZ n cz) n (flatR z) w2) := Lib.hid (by
        have h := HZS.out.below HB2.out
        rw [← HNZ.out] at h
        exact Sl.srcM Tryd.underlying34 h HZ0.out (flatR_one z))
      have hfl : (flatR z).length = n * 4 := by rw [flatR_len, HNZ.out]
      clear c0 c1 c2 c3 hlB hne HC1 HB1
      go_wp2_with (at_builtin; go_loud (refine wpList_append_obm rfl _ _ 34 34 rfl 32 i0 _ 40 Tryd.underlying34 hi hz0 hz1 hz2 rfl (OBM.start w2) rfl rfl HSZ.out hfl (by unfold maxLen; omega) (by omega) ?_))
      intro v3 w3 q1 q2 q3 q4
      have HO : Hid (OBM 4 w2.heap.size w2 v3 z.length (flatR z) w3) := Lib.hid (by rw [← HNZ.out]; simpa using q1)
      have HB3 := Lib.hid (below_trans HB2.out HB2.out.size q1.bel)
      have HC3 := Lib.hid (HC2.out.below q1.bel)
      have HB2W := HB2
      clear q1 q2 q3 q4 hfl HSZ HB2 HC2
      have d0 := HC3.out.get 0 _
      have d1 := HC3.out.get 1 _
      have d2 := HC3.out.get 2 _
      have d3 := HC3.out.get 3 _
      have d8 := HC3.out.get 8 _
      have hlB3 := HC3.out.lt
      have HL : Hid (OBM 4 w3.heap.size w3 (.slice (some ⟨w3.heap.size, 0, none⟩) 1 1) 1 [.string fr.1, .int .u16 fr.2.1, .int .u32 fr.2.2.1, .string fr.2.2.2] (w3.alloc (.cells #[.string fr.1, .int .u16 fr.2.1, .int .u32 fr.2.2.1, .string fr.2.2.2] 32))) := Lib.hid (obm_of_cs10 ((Below.refl _ _).alloc (Nat.le_refl _) _) (by simp) (Nat.le_refl _) (Cs.new w3 _ _ _))
      have HSG : Hid (Src Tryd.prog 4 26 (.slice Ag ng cg) ng (flatR gone) (w3.alloc (.cells #[.string fr.1, .int .u16 fr.2.1, .int .u32 fr.2.2.1, .string fr.2.2.2] 32))) := Lib.hid (by
        have h := (HG.out.below (HB3.out.alloc HB3.out.size (.cells #[.string fr.1, .int .u16 fr.2.1, .int .u32 fr.2.2.1, .string fr.2.2.2] 32))).sl
        exact Sl.srcM Tryd.underlying26 h HG0.out (flatR_one gone))
      have hfl : (flatR gone).length = ng * 4 := by rw [flatR_len]; have := HG.out.len; simp at this; omega
      have hng : ng ≤ 10000 := HGN.out
      go_wp2_with (at_builtin; go_loud (refine wpList_append_obm rfl _ _ 26 26 rfl 32 i0 _ 40 Tryd.underlying26 hi hz0 hz1 hz2 rfl HL.out rfl rfl HSG.out hfl (by unfold maxLen; omega) (by omega) ?_))
      intro v5 w5 q1 q2 q3 q4
      obtain ⟨L, hL⟩ : ∃ L, L = fr :: gone := ⟨_, rfl⟩
      have hLl : L.length = 1 + ng := by rw [hL]; have := HG.out.len; simp at this ⊢; omega
      have q1' : OBM 4 w3.heap.size w3 v5 L.length (flatR L) w5 := by rw [hLl, hL]; unfold flatR at q1 ⊢; simpa [recCells] using q1
      have HD := Lib.hid (HD.out)
      rw [← hL] at HD
      obtain ⟨AL, cl, rfl, hl1, hl2, -⟩ := q1'.slice
      obtain ⟨m, hm⟩ : ∃ m, m = L.length := ⟨_, rfl⟩
      have hm2 : m ≤ 20000 := by omega
      have HRL := Lib.hid (q1'.recs rfl)
      rw [← hm]
      have HM := Lib.hid hm
      have HB5 := Lib.hid (below_trans HB3.out HB3.out.size q1'.bel)
      have HC5 := Lib.hid (HC3.out.below q1'.bel)
      have S0 : Hid (Del10 w2 w L z 0 v3 z w5) := Lib.hid ⟨HO.out.keep q1'.bel (Nat.le_refl _), HRI.out, Nat.le_refl _, rfl, HB5.out⟩
      clear hL q1 q2 q3 q4 q1' hl1 hl2 hm hLl hfl HL HSG HC3 HB3 d0 d1 d2 d3 d8 hlB3 HO
      go_wp2_with fail
      go_loopw [8, 40] (fun v i wr => ∃ (k : Nat) (zk : List RecT) (V : Value), k ≤ m ∧ v = V ∧ i = .int .i64 k ∧ Hid (Del10 w2 w L z k V zk wr) ∧ Hid (Below w5.heap.size w5 wr)) (fun _ i _ => m - (intOf i).toNat)
      case atStart => exact ⟨0, z, _, Nat.zero_le _, rfl, rfl, S0, Lib.hid (Below.refl _ _)⟩
      case round =>
        obtain ⟨k, zk, V, hk, hv, rfl, HS, HBR⟩ := hrel
        obtain rfl := hv.symm
        obtain ⟨AV, CV, hV, hv1, hv2, hv3⟩ := HS.out.own.slice
        subst hV
        by_cases hkm : k < m
        · have hkm' : (k : Int) < m := by omega
          have hk0 : ¬ (k : Int) < 0 := by omega
          obtain ⟨r, hr⟩ : ∃ q, L[k]? = some q := ⟨_, List.getElem?_eq_getElem (by rw [← HM.out]; exact hkm)⟩
          obtain ⟨g, off, rfl, hg, z0, z1, z2, z3⟩ := (HRL.out.below HBR.out) k _ hr
          have HR := Lib.hid (drop_at hr)
          obtain ⟨wa, hwa⟩ : ∃ wa, wa = wr.alloc (.cells #[.string r.1, .int .u16 r.2.1, .int .u32 r.2.2.1, .string r.2.2.2] 32) := ⟨_, rfl⟩
          obtain ⟨BA, hBA⟩ : ∃ B, B = wr.heap.size := ⟨_, rfl⟩
          have HCA : Hid (Cs wa BA [.string r.1, .int .u16 r.2.1, .int .u32 r.2.2.1, .string r.2.2.2]) := Lib.hid (by rw [hwa, hBA]; exact Cs.new wr _ _ _)
          have HOA : Hid (OBM 4 w2.heap.size w2 (.slice AV zk.length CV) zk.length (flatR zk) wa) := Lib.hid (by rw [hwa]; exact HS.out.own.alloc _)
          have HBWA : Hid (Below w.heap.size w wa) := Lib.hid (by rw [hwa]; exact HS.out.bel.alloc HS.out.bel.size _)
          have HB5A : Hid (Below w5.heap.size w5 wa) := Lib.hid (by rw [hwa]; exact HBR.out.alloc HBR.out.size _)
          have HWA := Lib.hid hwa
          have HBA := Lib.hid hBA
          have HRA : Hid (Recs wa AV zk) := Lib.hid (HOA.out.recs rfl)
          obtain ⟨nk, hnk⟩ : ∃ nk, nk = zk.length := ⟨_, rfl⟩
          have hnk2 : nk ≤ 10000 := by have := HS.out.len; have := HNZ.out; omega
          have HNK := Lib.hid hnk
          have HLEN : Hid (zk.length ≤ z.length) := Lib.hid HS.out.len
          have HRIS : Hid (Rising zk) := Lib.hid HS.out.ris
          have HREST : Hid (delAll (L.drop k) zk = delAll L z) := Lib.hid HS.out.rest
          rw [← hnk] at hv1 HOA ⊢
          clear hr hwa hBA hnk hv3 HS
          go_wp2_with fail
          rw [← HWA.out, ← HBA.out]
          go_loopw [11, 46] (fun v i wx => ∃ j : Nat, j ≤ nk ∧ i = .int .i64 j ∧ Hid (OBM 4 wa.heap.size wa v (lessR (zk.take j) r).length (flatR (lessR (zk.take j) r)) wx)) (fun _ i _ => nk - (intOf i).toNat)
          case atStart => exact ⟨0, Nat.zero_le _, rfl, Lib.hid (by simpa [lessR, flatR] using OBM.start wa)⟩
          case round =>
            obtain ⟨j, hj, rfl, HX⟩ := hrel
            by_cases hjn : j < nk
            · have hjn' : (j : Int) < nk := by omega
              have hj0 : ¬ (j : Int) < 0 := by omega
              obtain ⟨x, hx⟩ : ∃ q, zk[j]? = some q := ⟨_, List.getElem?_eq_getElem (by rw [← HNK.out]; exact hjn)⟩
              obtain ⟨gx, ox, rfl, hgx, y0, y1, y2, y3⟩ := (HRA.out.below HX.out.bel) j _ hx
              have hnx := lessR_next (s := r) hx
              have hle : (lessR (zk.take j) r).length ≤ 100000 := by
                have h2 : (lessR (zk.take j) r).length ≤ (zk.take j).length := List.length_filter_le _ _
                simp at h2; omega
              obtain ⟨q, hq⟩ : ∃ q, eqB x r = q := ⟨_, rfl⟩
              have hne : ∀ w, (binOp .neq 32 (recV x) (recV r)).run Tryd.prog w = .ok (.bool (!q)) w := fun w => by rw [← hq]; exact rec_neq x r w
              unfold recV at hne
              rw [hq] at hnx
              have HNX := Lib.hid hnx
              obtain ⟨wb, hwb⟩ : ∃ wb, wb = wr.alloc (.cells #[.string x.1, .int .u16 x.2.1, .int .u32 x.2.2.1, .string x.2.2.2] 32) := ⟨_, rfl⟩
              obtain ⟨BB, hBB⟩ : ∃ B, B = wr.heap.size := ⟨_, rfl⟩
              have HCB : Hid (Cs wb BB [.string x.1, .int .u16 x.2.1, .int .u32 x.2.2.1, .string x.2.2.2]) := Lib.hid (by rw [hwb, hBB]; exact Cs.new wr _ _ _)
              have HXB : Hid (OBM 4 wa.heap.size wa u11 (lessR (zk.take j) r).length (flatR (lessR (zk.take j) r)) wb) := Lib.hid (by rw [hwb]; exact HX.out.alloc _)
              have HCAB : Hid (Cs wb BA [.string r.1, .int .u16 r.2.1, .int .u32 r.2.2.1, .string r.2.2.2]) := Lib.hid (by rw [hwb]; exact (HCA.out.below HX.out.bel).alloc _)
              have HWB := Lib.hid hwb
              have HBB2 := Lib.hid hBB
              clear hx hnx hq hwb hBB
              go_upto_region 12 with fail
              rw [← HWB.out, ← HBB2.out]
              have d0 := HCB.out.get 0 _
              have d1 := HCB.out.get 1 _
              have d2 := HCB.out.get 2 _
              have d3 := HCB.out.get 3 _
              have dl := HCB.out.lt
              have e0 := HCAB.out.get 0 _
              have e1 := HCAB.out.get 1 _
              have e2 := HCAB.out.get 2 _
              have e3 := HCAB.out.get 3 _
              have el := HCAB.out.lt
              clear y0 y1 y2 y3
              cases q with
              | true =>
                go_wp2_with fail
                go_roundw
                case rel => exact ⟨j + 1, by omega, by go_num, Lib.hid (by rw [HNX.out]; simpa using HXB.out)⟩
                case measure => simp [intOf]; omega
              | false =>
                have HBX := Lib.hid (HXB.out.alloc (.cells #[.string x.1, .int .u16 x.2.1, .int .u32 x.2.2.1, .string x.2.2.2] 32))
                have hs := Lib.hid (src_rec (w := wb) (ts := 34) Tryd.underlying34 x)
                go_wp2_with (at_builtin; go_loud (refine wpList_append_obm rfl _ _ 34 34 rfl 32 i0 _ 40 Tryd.underlying34 hi hz0 hz1 hz2 rfl HBX.out rfl rfl hs.out rfl (by unfold maxLen; omega) (by omega) ?_))
                intro v' w' q1 q2 q3 q4
                have Q1 := Lib.hid q1
                clear q1 q2 q3 q4
                go_wp2_with fail
                go_roundw
                case rel => exact ⟨j + 1, by omega, by go_num, Lib.hid (by rw [HNX.out, if_neg (by decide), List.length_append, flatR_append]; simpa [flatR] using Q1.out)⟩
                case measure => simp [intOf]; omega
            · obtain rfl : j = nk := by omega
              have hjn' : ¬ (j : Int) < j := by omega
              obtain ⟨lr, hlr⟩ : ∃ lr, lr = (lessR zk r).length := ⟨_, rfl⟩
              have HRT : Hid (OBM 4 wa.heap.size wa u11 (lessR zk r).length (flatR (lessR zk r)) wr) := Lib.hid (by
                have h := HX.out
                rw [List.take_of_length_le (by rw [← HNK.out]; exact Nat.le_refl _)] at h
                exact h)
              obtain ⟨AR2, CR2, hvr, hr1, hr2, -⟩ := HRT.out.slice
              subst hvr
              rw [← hlr] at hr1 ⊢
              have hlr2 : lr ≤ j := by
                have h2 : (lessR zk r).length ≤ zk.length := List.length_filter_le _ _
                have := HNK.out; omega
              by_cases hc : lr = j
              · have hf : deltaR z fr tt gone new = .inl 6 := by
                  have h1 := HREST.out
                  rw [HR.out, delAll_cons, lessR_eq10 (by rw [← hlr, hc]; exact HNK.out), if_neg (by decide)] at h1
                  have := HD.out
                  rw [← h1] at this
                  exact this
                have HF := Lib.hid hf
                have HBF := Lib.hid (below_trans HBWA.out HBWA.out.size HRT.out.bel)
                have t1 : ((lr : Int) == (j : Int)) = true := by simp; omega
                clear hf hlr hc
                go_wp2_with fail
                exact HFAIL.out 6 HF.out _ HBF.out
              · have t1 : ((lr : Int) == (j : Int)) = false := by simp; omega
                have HS2 : Hid (Del10 w2 w L z (k + 1) (.slice AR2 lr CR2) (lessR zk r) wr) := Lib.hid (by
                  refine ⟨?_, lessR_rising HRIS.out, ?_, ?_, below_trans HBWA.out HBWA.out.size HRT.out.bel⟩
                  · rw [hlr]; exact HRT.out.out HOA.out.bel.size HOA.out.bel
                  · have := HLEN.out; have := HNK.out; omega
                  · have h1 := HREST.out
                    rw [HR.out, delAll_cons, lessR_ne10 (by rw [← hlr, ← HNK.out]; exact hc), if_pos rfl] at h1
                    exact h1)
                have HBN := Lib.hid (below_trans HB5A.out HB5A.out.size HRT.out.bel)
                clear hlr hc
                go_wp2_with fail
                go_roundw
                case rel => exact ⟨k + 1, _, _, by omega, rfl, by go_num, HS2, HBN⟩
                case measure => simp [intOf]; omega
        · obtain rfl : k = m := by omega
          have hkm' : ¬ (k : Int) < k := by omega
          have hz1 : delAll L z = some zk := by
            have h1 := HS.out.rest
            rw [List.drop_of_length_le (by rw [HM.out]; omega)] at h1
            exact h1.symm
          have hd := HD.out
          rw [hz1] at hd
          have HD := Lib.hid hd
          have HCR := Lib.hid (HC5.out.below HBR.out)
          have HBRW : Hid (Below w.heap.size w wr) := Lib.hid HS.out.bel
          have hnn := HNN.out
          obtain ⟨L2, hL2⟩ : ∃ L2, L2 = new ++ [tt] := ⟨_, rfl⟩
          rw [← hL2] at HD
          have hLc : flatR new ++ [.string tt.1, .int .u16 tt.2.1, .int .u32 tt.2.2.1, .string tt.2.2.2] = flatR L2 := by rw [hL2, flatR_append]; simp [flatR, recCells]
          obtain ⟨M2, hM2⟩ : ∃ M2, M2 = nn + 1 := ⟨_, rfl⟩
          have hLl : M2 = L2.length := by rw [hL2, hM2]; have := HN.out.len; simp at this ⊢; omega
          have hM3 : M2 ≤ 10001 := by omega
          have HM2 := Lib.hid hLl
          have HLC := Lib.hid hLc
          have HM2N := Lib.hid hM2
          have hfl : (flatR new).length = nn * 4 := by rw [flatR_len]; have := HN.out.len; simp at this; omega
          have HFL := Lib.hid hfl
          have HSN : Hid (∀ wx, Below wr.heap.size wr wx → Src Tryd.prog 4 26 (.slice An nn cn) nn (flatR new) wx) := Lib.hid (fun wx hb => by
            have h := (HN.out.below (below_trans HBRW.out HBRW.out.size hb)).sl
            exact Sl.srcM Tryd.underlying26 h HN0.out (flatR_one new))
          clear hz1 hd hL2 hLc hM2 hLl hfl
          go_upto_region 19 with fail
          refine wp_region_expR app_follows (fun x => by simp [putsF, Act.put]; rfl) (fun _ _ v => Below wr.heap.size wr v)
            [isX (.pointer (some ⟨B, 9, none⟩)), isX (.slice An nn cn), until_ 6 (ownW 4 wr.heap.size wr nn (flatR new)), isX (.pointer (some ⟨B, 4, none⟩)), isX (.agg #[.string tt.1, .int .u16 tt.2.1, .int .u32 tt.2.2.1, .string tt.2.2.2]), until_ 6 (litW 1 [.string tt.1, .int .u16 tt.2.1, .int .u32 tt.2.2.1, .string tt.2.2.2]), always (ownW 4 wr.heap.size wr M2 (flatR L2)), isX (.int .i64 (M2 : Nat)), isX (.int .i64 0)]
            [6] (by kernel_rfl) (by kernel_rfl) (by kernel_rfl) rfl ?_ (Below.refl _ _).drew ?_ ?_ ?_
          · repeat (first | exact trivial | refine ⟨by first | exact isX_stays _ | exact until_stays (litW_stays _ _) | exact until_stays (ownW_stays _ _ _ _ _) | exact always_stays (ownW_stays _ _ _ _ _), ?_⟩)
          · refine ⟨?_, ?_, ?_, ?_, ?_, ?_, skipped rfl, ?_, ?_, trivial⟩
            all_goals
              intro _ d x wx hR hdi hsrc hd
              refine ⟨fun _ => ?_, fun hX => by simp at hX⟩
              simp [wordX, isX] at hd ⊢
              have c4 := (HCR.out.below hR).get 4 _
              have c5 := (HCR.out.below hR).get 5 _
              have c6 := (HCR.out.below hR).get 6 _
              have c7 := (HCR.out.below hR).get 7 _
              have c9 := (HCR.out.below hR).get 9 _
              have cl := (HCR.out.below hR).lt
            · go_simp; exact nextXR _ rfl rfl hR (Below.refl _ _)
            · try simp [hd]
              go_simp; exact nextXR _ rfl rfl hR (Below.refl _ _)
            · try dsimp only
              rw [hd]
              refine oper_append_obm _ _ _ _ rfl 32 i0 _ 40 Tryd.underlying26 hi hz0 hz1 hz2 rfl (OBM.start wx) rfl rfl (HSN.out wx hR) HFL.out (by unfold maxLen; omega) (by omega) ?_
              intro v2 w' q1 q2 q3 q4
              exact nextXR v2 rfl (until_of (by unfold ownW; simpa using q1.out hR.size hR)) (below_trans hR hR.size q1.bel) q1.bel
            · go_simp; exact nextXR _ rfl rfl hR (Below.refl _ _)
            · try simp [hd]
              go_simp; exact nextXR _ rfl rfl hR (Below.refl _ _)
            · have hv : x 4 = .agg #[.string tt.1, .int .u16 tt.2.1, .int .u32 tt.2.2.1, .string tt.2.2.2] := by first | exact hd | exact hd.1
              simp only [hv]
              clear hd hv
              go_simp
              exact nextXR _ rfl (until_of (litW_new 1 _ _ _ _)) (hR.alloc hR.size _) ((Below.refl wx.heap.size wx).alloc (Nat.le_refl _) _)
            · have hd6 : OBM 4 wr.heap.size wr (x 6) M2 (flatR L2) wx := by first | exact hd | exact hd.1
              obtain ⟨A6, C6, hx6, g1, g2, -⟩ := hd6.slice
              try dsimp only
              rw [hx6]
              clear hd hd6 hx6
              go_simp; exact nextXR _ rfl rfl hR (Below.refl _ _)
            · go_simp; exact nextXR _ rfl rfl hR (Below.refl _ _)
          · refine ⟨unskipped rfl, unskipped rfl, unskipped rfl, unskipped rfl, unskipped rfl, unskipped rfl, ?_, unskipped rfl, unskipped rfl, trivial⟩
            intro _ d x wx hR hdi hcl hsrc hd
            refine ⟨fun _ => ?_, fun hX => by simp at hX⟩
            have d2 : d 2 = true := SrcX.reach (K := 6) hcl hsrc rfl 20 2 (by decide) (by kernel_rfl)
            have d5 : d 5 = true := SrcX.reach (K := 6) hcl hsrc rfl 20 5 (by decide) (by kernel_rfl)
            simp only [DoneX] at hd
            obtain ⟨-, -, h2, -, -, h5, -⟩ := hd
            have ho2 : OBM 4 wr.heap.size wr (x 2) nn (flatR new) wx := h2 d2 hdi
            obtain ⟨g5, hx5, hc5⟩ : litW 1 [.string tt.1, .int .u16 tt.2.1, .int .u32 tt.2.2.1, .string tt.2.2.2] (x 5) wx := h5 d5 hdi
            dsimp only
            rw [hx5]
            refine oper_append_obm _ _ _ _ rfl 32 i0 _ 40 Tryd.underlying26 hi hz0 hz1 hz2 rfl ho2 rfl rfl
              (Src.ofSlice _ Tryd.underlying26 ⟨g5, 0, none⟩ 1 1 [.string tt.1, .int .u16 tt.2.1, .int .u32 tt.2.2.1, .string tt.2.2.2] rfl (fun j u hu => by rw [Addr.add_lit, Nat.zero_add]; exact hc5.get j u hu) (recCells_one tt)) rfl (by unfold maxLen; omega) (by omega) ?_
            intro v2 w' q1 q2 q3 q4
            refine nextKR v2 rfl (by rw [← HLC.out, HM2N.out]; exact q1) q1.bel ?_
            exact ⟨fun _ _ h => h, fun _ _ h => h, fun _ _ _ => until_self, fun _ _ h => h, fun _ _ h => h, fun _ _ _ => until_self, fun h => absurd rfl h, fun _ _ h => h, fun _ _ h => h, trivial⟩
          intro x w6 d hall hR hx
          simp only [AllX] at hx
          obtain ⟨-, -, -, -, -, -, h6, h7, h8, -⟩ := hx
          have Q6 : OBM 4 wr.heap.size wr (x 6) M2 (flatR L2) w6 := h6
          have h7 : x 7 = .int .i64 (M2 : Nat) := h7
          have h8 : x 8 = .int .i64 0 := h8
          rw [h7, h8]
          clear h6 h7 h8 hall
          generalize x 6 = v6 at *
          obtain ⟨AL2, cl2, rfl, hl1, hl2, -⟩ := Q6.slice
          have HRL2 := Lib.hid (Q6.recs HM2.out.symm)
          have HB6 : Hid (Below w.heap.size w w6) := Lib.hid (below_trans HBRW.out HBRW.out.size hR)
          have HZK : Hid (zk.length ≤ 10000) := Lib.hid (by have := HS.out.len; have := HNZ.out; omega)
          have S0 : Hid (Ins10 w2 w L2 zk 0 (.slice AV zk.length CV) zk w6) := Lib.hid ⟨HS.out.own.keep hR (Nat.le_refl _), HS.out.ris, by omega, rfl, HB6.out⟩
          clear Q6 hR hl1 hl2 HS hv3
          go_wp2_with fail
          go_loopw [8, 73] (fun v i wr => ∃ (k : Nat) (zj : List RecT) (V : Value), k ≤ M2 ∧ v = V ∧ i = .int .i64 k ∧ Hid (Ins10 w2 w L2 zk k V zj wr) ∧ Hid (Below w6.heap.size w6 wr)) (fun _ i _ => M2 - (intOf i).toNat)
          case atStart => exact ⟨0, zk, _, Nat.zero_le _, rfl, rfl, S0, Lib.hid (Below.refl _ _)⟩
          case round =>
            obtain ⟨p, zj, V, hp, hv, rfl, HS, HBR⟩ := hrel
            obtain rfl := hv.symm
            obtain ⟨AV2, CV2, hV, hv1, hv2, hv3⟩ := HS.out.own.slice
            subst hV
            by_cases hpm : p < M2
            · have hpm' : (p : Int) < M2 := by omega
              have hp0 : ¬ (p : Int) < 0 := by omega
              obtain ⟨r, hr⟩ : ∃ q, L2[p]? = some q := ⟨_, List.getElem?_eq_getElem (by rw [← HM2.out]; exact hpm)⟩
              obtain ⟨g, off, rfl, hg, z0, z1, z2, z3⟩ := (HRL2.out.below HBR.out) p _ hr
              have HR := Lib.hid (drop_at hr)
              obtain ⟨wa, hwa⟩ : ∃ wa, wa = wr.alloc (.cells #[.string r.1, .int .u16 r.2.1, .int .u32 r.2.2.1, .string r.2.2.2] 32) := ⟨_, rfl⟩
              obtain ⟨BA, hBA⟩ : ∃ B, B = wr.heap.size := ⟨_, rfl⟩
              have HCA : Hid (Cs wa BA [.string r.1, .int .u16 r.2.1, .int .u32 r.2.2.1, .string r.2.2.2]) := Lib.hid (by rw [hwa, hBA]; exact Cs.new wr _ _ _)
              have HOA : Hid (OBM 4 w2.heap.size w2 (.slice AV2 zj.length CV2) zj.length (flatR zj) wa) := Lib.hid (by rw [hwa]; exact HS.out.own.alloc _)
              have HBWA : Hid (Below w.heap.size w wa) := Lib.hid (by rw [hwa]; exact HS.out.bel.alloc HS.out.bel.size _)
              have HB6A : Hid (Below w6.heap.size w6 wa) := Lib.hid (by rw [hwa]; exact HBR.out.alloc HBR.out.size _)
              have HWA := Lib.hid hwa
              have HBA := Lib.hid hBA
              have HRA : Hid (Recs wa AV2 zj) := Lib.hid (HOA.out.recs rfl)
              obtain ⟨nj, hnj⟩ : ∃ nj, nj = zj.length := ⟨_, rfl⟩
              have hnj2 : nj ≤ 20001 := by have := HS.out.len; have := HZK.out; omega
              have HNJ := Lib.hid hnj
              have HLEN : Hid (zj.length ≤ zk.length + p) := Lib.hid HS.out.len
              have HRIS : Hid (Rising zj) := Lib.hid HS.out.ris
              have HREST : Hid (insAll (L2.drop p) zj = insAll L2 zk) := Lib.hid HS.out.rest
              rw [← hnj] at hv1 HOA ⊢
              clear hr hwa hBA hnj hv3 HS
              go_wp2_with fail
              rw [← HWA.out, ← HBA.out]
              go_loopw [79] (fun i wx => ∃ j : Nat, j ≤ nj ∧ i = .int .i64 j ∧ Hid (hasB (zj.take j) r = false) ∧ Hid (Below wa.heap.size wa wx)) (fun i _ => nj - (intOf i).toNat)
              case atStart => exact ⟨0, Nat.zero_le _, rfl, Lib.hid (by simp [hasB]), Lib.hid (Below.refl _ _)⟩
              case round =>
                obtain ⟨j, hj, rfl, HNO, HX⟩ := hrel
                by_cases hjn : j < nj
                · have hjn' : (j : Int) < nj := by omega
                  have hj0 : ¬ (j : Int) < 0 := by omega
                  obtain ⟨x, hx⟩ : ∃ q, zj[j]? = some q := ⟨_, List.getElem?_eq_getElem (by rw [← HNJ.out]; exact hjn)⟩
                  obtain ⟨gx, ox, rfl, hgx, y0, y1, y2, y3⟩ := (HRA.out.below HX.out) j _ hx
                  obtain ⟨q, hq⟩ : ∃ q, eqB x r = q := ⟨_, rfl⟩
                  have hne : ∀ w, (binOp .eql 32 (recV x) (recV r)).run Tryd.prog w = .ok (.bool q) w := fun w => by rw [← hq]; exact rec_eql x r w
                  unfold recV at hne
                  have HXJ := Lib.hid hx
                  have HQ := Lib.hid hq
                  obtain ⟨wb, hwb⟩ : ∃ wb, wb = wr.alloc (.cells #[.string x.1, .int .u16 x.2.1, .int .u32 x.2.2.1, .string x.2.2.2] 32) := ⟨_, rfl⟩
                  obtain ⟨BB, hBB⟩ : ∃ B, B = wr.heap.size := ⟨_, rfl⟩
                  have HCB : Hid (Cs wb BB [.string x.1, .int .u16 x.2.1, .int .u32 x.2.2.1, .string x.2.2.2]) := Lib.hid (by rw [hwb, hBB]; exact Cs.new wr _ _ _)
                  have HXB : Hid (Below wa.heap.size wa wb) := Lib.hid (by rw [hwb]; exact HX.out.alloc HX.out.size _)
                  have HCAB : Hid (Cs wb BA [.string r.1, .int .u16 r.2.1, .int .u32 r.2.2.1, .string r.2.2.2]) := Lib.hid (by rw [hwb]; exact (HCA.out.below HX.out).alloc _)
                  have HWB := Lib.hid hwb
                  have HBB2 := Lib.hid hBB
                  clear hx hq hwb hBB
                  go_upto_region 25 with fail
                  rw [← HWB.out, ← HBB2.out]
                  have d0 := HCB.out.get 0 _
                  have d1 := HCB.out.get 1 _
                  have d2 := HCB.out.get 2 _
                  have d3 := HCB.out.get 3 _
                  have dl := HCB.out.lt
                  have e0 := HCAB.out.get 0 _
                  have e1 := HCAB.out.get 1 _
                  have e2 := HCAB.out.get 2 _
                  have e3 := HCAB.out.get 3 _
                  have el := HCAB.out.lt
                  clear y0 y1 y2 y3
                  cases q with
                  | true =>
                    have hf : deltaR z fr tt gone new = .inl 7 := by
                      have h1 := HREST.out
                      rw [HR.out, insAll_cons, hasB_at10 HXJ.out HQ.out, if_pos rfl] at h1
                      have := HD.out
                      rw [← h1] at this
                      exact this
                    have HF := Lib.hid hf
                    have HBF := Lib.hid (below_trans HBWA.out HBWA.out.size HXB.out)
                    clear hf
                    go_wp2_with fail
                    exact HFAIL.out 7 HF.out _ HBF.out
                  | false =>
                    go_wp2_with fail
                    go_roundw
                    case rel => exact ⟨j + 1, by omega, by go_num, Lib.hid (hasB_take10 HXJ.out HNO.out HQ.out), HXB⟩
                    case measure => simp [intOf]; omega
                · obtain rfl : j = nj := by omega
                  have hjn' : ¬ (j : Int) < j := by omega
                  have HNB : Hid (hasB zj r = false) := Lib.hid (by
                    have h := HNO.out
                    rw [List.take_of_length_le (by rw [← HNJ.out]; exact Nat.le_refl _)] at h
                    exact h)
                  have HOX : Hid (OBM 4 w2.heap.size w2 (.slice AV2 j CV2) j (flatR zj) wr) := Lib.hid (HOA.out.keep HX.out (Nat.le_refl _))
                  have HCX := Lib.hid (HCA.out.below HX.out)
                  have HSZ : Hid (∀ wx, Below wr.heap.size wr wx → Src Tryd.prog 4 34 (.slice AV2 j CV2) j (flatR zj) wx) := Lib.hid (fun wx hb => by
                    have h := HOX.out.keep hb (Nat.le_refl _)
                    obtain ⟨A0, c0, e0, -, -, h0⟩ := h.slice
                    injection e0 with ea eb ec
                    subst ea ec
                    exact Sl.srcM Tryd.underlying34 h.sl (fun e => (h0 e).1) (flatR_one zj))
                  have hfl : (flatR zj).length = j * 4 := by rw [flatR_len, HNJ.out]
                  have HFL := Lib.hid hfl
                  clear hfl
                  go_upto_region 28 with fail
                  have hzjl : (zj ++ [r]).length = j + 1 := by rw [List.length_append, HNJ.out]; rfl
                  have hsz : sortedR (zj ++ [r]) = insR zj r := sorted_snoc10 HRIS.out HNB.out
                  have SRT : Hid (∀ (A7 : Option Addr) (c7 : Nat) (wx : World), Recs wx A7 (zj ++ [r]) → Calls Tryd.prog 13 #[.slice A7 (j + 1) c7] wx fun e w' => ∃ v, e = .returned v ∧ OBM 4 wx.heap.size wx v (insR zj r).length (flatR (insR zj r)) w') := Lib.hid (fun A7 c7 wx h => by
                    have SR := sorted_any A7 (j + 1) c7 (zj ++ [r]) wx h hzjl (by omega)
                    rw [hsz] at SR
                    exact SR)
                  have HZJL := Lib.hid hzjl
                  clear hzjl hsz
                  refine wp_region_expR app_follows (fun x => by simp [putsF, Act.put]; rfl) (fun d x v => Below wr.heap.size wr v ∧ (d 6 = false → x 6 = .slice AV2 j CV2))
                    [isX (.slice AV2 j CV2), until_ 4 (ownW 4 wr.heap.size wr j (flatR zj)), isX (.agg #[.string r.1, .int .u16 r.2.1, .int .u32 r.2.2.1, .string r.2.2.2]), until_ 4 (litW 1 [.string r.1, .int .u16 r.2.1, .int .u32 r.2.2.1, .string r.2.2.2]), always (ownW 4 wr.heap.size wr (j + 1) (flatR (zj ++ [r]))), always (ownW 4 wr.heap.size wr (insR zj r).length (flatR (insR zj r))), always (ownW 4 wr.heap.size wr (insR zj r).length (flatR (insR zj r)))]
                    [0, 4] (by kernel_rfl) (by kernel_rfl) (by kernel_rfl) rfl ?_ ⟨(Below.refl _ _).drew, fun _ => rfl⟩ ?_ ?_ ?_
                  · repeat (first | exact trivial | refine ⟨by first | exact isX_stays _ | exact until_stays (litW_stays _ _) | exact until_stays (ownW_stays _ _ _ _ _) | exact always_stays (ownW_stays _ _ _ _ _), ?_⟩)
                  · refine ⟨skipped rfl, ?_, ?_, ?_, skipped rfl, ?_, ?_, trivial⟩
                    all_goals
                      intro _ d x wx hR hdi hsrc hd
                      refine ⟨fun _ => ?_, fun hX => by simp at hX⟩
                      simp [wordX, isX] at hd ⊢
                      have c0 := (HCX.out.below hR.1).get 0 _
                      have c1 := (HCX.out.below hR.1).get 1 _
                      have c2 := (HCX.out.below hR.1).get 2 _
                      have c3 := (HCX.out.below hR.1).get 3 _
                      have cl := (HCX.out.below hR.1).lt
                    · try dsimp only
                      rw [hd]
                      refine oper_append_obm _ _ _ _ rfl 32 i0 _ 40 Tryd.underlying26 hi hz0 hz1 hz2 rfl (OBM.start wx) rfl rfl (HSZ.out wx hR.1) HFL.out (by unfold maxLen; omega) (by omega) ?_
                      intro v2 w' q1 q2 q3 q4
                      exact nextXR v2 rfl (until_of (by unfold ownW; simpa using q1.out hR.1.size hR.1)) ⟨below_trans hR.1 hR.1.size q1.bel, held_next hR.2 (by decide)⟩ q1.bel
                    · go_simp; exact nextXR _ rfl rfl ⟨hR.1, held_next hR.2 (by decide)⟩ (Below.refl _ _)
                    · have hv : x 2 = .agg #[.string r.1, .int .u16 r.2.1, .int .u32 r.2.2.1, .string r.2.2.2] := by first | exact hd | exact hd.1
                      simp only [hv]
                      clear hd hv
                      go_simp
                      exact nextXR _ rfl (until_of (litW_new 1 _ _ _ _)) ⟨hR.1.alloc hR.1.size _, held_next hR.2 (by decide)⟩ ((Below.refl wx.heap.size wx).alloc (Nat.le_refl _) _)
                    · have hd4 : OBM 4 wr.heap.size wr (x 4) (j + 1) (flatR (zj ++ [r])) wx := by first | exact hd | exact hd.1
                      obtain ⟨A4, C4, hx4, g1, g2, -⟩ := hd4.slice
                      rw [hx4] at hd4
                      have SR := SRT.out A4 C4 wx (hd4.recs HZJL.out)
                      try dsimp only
                      rw [hx4]
                      clear hd hd4 hx4
                      go_simp
                      go_at_call 13
                      refine SR.mono ?_
                      rintro e wy ⟨v8, rfl, ho8⟩
                      exact nextXR v8 rfl (ho8.out hR.1.size hR.1) ⟨below_trans hR.1 hR.1.size ho8.bel, held_next hR.2 (by decide)⟩ ho8.bel
                    · have hd5 : ownW 4 wr.heap.size wr (insR zj r).length (flatR (insR zj r)) (x 5) wx := by first | exact hd | exact hd.1
                      go_simp; exact nextXR _ rfl hd5 ⟨hR.1, held_self⟩ (Below.refl _ _)
                  · refine ⟨?_, unskipped rfl, unskipped rfl, unskipped rfl, ?_, unskipped rfl, unskipped rfl, trivial⟩
                    · intro _ d x wx hR hdi hcl hsrc hd
                      refine ⟨fun _ => ?_, fun hX => by simp at hX⟩
                      have d6 : d 6 = false := by
                        cases e : d 6 with
                        | false => rfl
                        | true => have := hcl.reach 20 0 6 (by kernel_rfl) e; rw [hdi] at this; cases this
                      have hx6 := hR.2 d6
                      try dsimp only
                      rw [hx6]
                      go_simp
                      refine nextKR _ rfl rfl ⟨hR.1, held_next hR.2 (by decide)⟩ ?_
                      exact ⟨fun h => absurd rfl h, fun _ _ h => until_mono10 h, fun _ _ h => h, fun _ _ h => until_mono10 h, fun _ _ h => h, fun _ _ h => h, fun _ _ h => h, trivial⟩
                    · intro _ d x wx hR hdi hcl hsrc hd
                      refine ⟨fun _ => ?_, fun hX => by simp at hX⟩
                      have d1 : d 1 = true := SrcX.reach (K := 4) hcl hsrc rfl 20 1 (by decide) (by kernel_rfl)
                      have d3 : d 3 = true := SrcX.reach (K := 4) hcl hsrc rfl 20 3 (by decide) (by kernel_rfl)
                      have d5 : d 5 = false := by
                        cases e : d 5 with
                        | false => rfl
                        | true => have := hcl.reach 20 4 5 (by kernel_rfl) e; rw [hdi] at this; cases this
                      have d6 : d 6 = false := by
                        cases e : d 6 with
                        | false => rfl
                        | true => have := hcl.reach 20 4 6 (by kernel_rfl) e; rw [hdi] at this; cases this
                      simp only [DoneX] at hd
                      obtain ⟨-, h1, -, h3, -⟩ := hd
                      have ho1 : OBM 4 wr.heap.size wr (x 1) j (flatR zj) wx := h1 d1 hdi
                      obtain ⟨g3, hx3, hc3⟩ : litW 1 [.string r.1, .int .u16 r.2.1, .int .u32 r.2.2.1, .string r.2.2.2] (x 3) wx := h3 d3 hdi
                      try dsimp only
                      rw [hx3]
                      refine oper_append_obm _ _ _ _ rfl 32 i0 _ 40 Tryd.underlying26 hi hz0 hz1 hz2 rfl ho1 rfl rfl
                        (Src.ofSlice _ Tryd.underlying26 ⟨g3, 0, none⟩ 1 1 [.string r.1, .int .u16 r.2.1, .int .u32 r.2.2.1, .string r.2.2.2] rfl (fun j u hu => by rw [Addr.add_lit, Nat.zero_add]; exact hc3.get j u hu) (recCells_one r)) rfl (by unfold maxLen; omega) (by omega) ?_
                      intro v2 w' q1 q2 q3 q4
                      have hw : ownW 4 wr.heap.size wr (j + 1) (flatR (zj ++ [r])) v2 w' := by unfold ownW; rw [flatR_append]; simpa [flatR, recCells] using q1
                      refine nextKR v2 rfl hw ⟨q1.bel, held_next hR.2 (by decide)⟩ ?_
                      exact ⟨fun _ _ h => h, fun _ _ _ => until_self, fun _ _ h => h, fun _ _ _ => until_self, fun h => absurd rfl h, fun _ h5 _ => (by rw [d5] at h5; cases h5), fun _ h6 _ => (by rw [d6] at h6; cases h6), trivial⟩
                  intro x w8 d hall hR hx
                  simp only [AllX] at hx
                  obtain ⟨-, -, -, -, -, -, h6, -⟩ := hx
                  have Q6 : OBM 4 wr.heap.size wr (x 6) (insR zj r).length (flatR (insR zj r)) w8 := h6
                  have HS2 : Hid (Ins10 w2 w L2 zk (p + 1) (x 6) (insR zj r) w8) := Lib.hid (by
                    have hbx := below_trans HX.out HX.out.size hR.1
                    refine ⟨?_, insR_rising HRIS.out (hasB_false.1 HNB.out), by rw [insR_len]; have := HLEN.out; omega, ?_, below_trans HBWA.out HBWA.out.size hbx⟩
                    · exact Q6.out HOX.out.bel.size HOX.out.bel
                    · have h1 := HREST.out
                      rw [HR.out, insAll_cons, HNB.out, if_neg (by decide)] at h1
                      exact h1)
                  have HBN : Hid (Below w6.heap.size w6 w8) := Lib.hid (below_trans HB6A.out HB6A.out.size (below_trans HX.out HX.out.size hR.1))
                  clear h6 Q6 hR hall
                  generalize x 6 = v6 at *
                  go_wp2_with fail
                  go_roundw
                  case rel => exact ⟨p + 1, _, _, by omega, rfl, by go_num, HS2, HBN⟩
                  case measure => simp [intOf]; omega
            · obtain rfl : p = M2 := by omega
              have hpm' : ¬ (p : Int) < p := by omega
              have hz1 : insAll L2 zk = some zj := by
                have h1 := HS.out.rest
                rw [List.drop_of_length_le (by rw [← HM2.out]; omega)] at h1
                exact h1.symm
              have hd := HD.out
              rw [hz1] at hd
              have HD := Lib.hid hd
              have HOF : Hid (OBM 4 w.heap.size w (.slice AV2 zj.length CV2) zj.length (flatR zj) wr) := Lib.hid (HS.out.own.out HB2W.out.size HB2W.out)
              clear hz1 hd
              go_wp2_with fail
              exact HOK.out zj _ _ HD.out HOF.out
end Go.Proofs.YteaeplceahdioaaDoor
namespace Go.Proofs.YteaeplceahdioaaDoor
open Go.RowKit
set_option linter.unusedVariables false
set_option linter.unusedSimpArgs false
set_option maxRecDepth 20000
def rs99 (D : ByteArray) (j : Nat) : List RecT := (List.range j).map fun i : Nat => (⟨#[]⟩, 99, (i : Int), D)
def qR (D : ByteArray) (j : Nat) : List RecT := [soaR ⟨#[]⟩ 1] ++ rs99 D j
theorem qR_len (D : ByteArray) (j : Nat) : (qR D j).length = j + 1 := by simp [qR, rs99]
theorem qR_next (D : ByteArray) (j : Nat) : qR D (j + 1) = qR D j ++ [(⟨#[]⟩, 99, (j : Int), D)] := by unfold qR rs99; rw [List.range_succ]; simp
theorem qR_mem {D : ByteArray} {j : Nat} {r : RecT} (h : r ∈ qR D j) : r = soaR ⟨#[]⟩ 1 ∨ ∃ i : Nat, r = (⟨#[]⟩, 99, (i : Int), D) := by
  unfold qR rs99 at h
  rcases List.mem_append.1 h with h | h
  · simp at h; exact .inl h
  · obtain ⟨i, -, rfl⟩ := List.mem_map.1 h; exact .inr ⟨i, rfl⟩
theorem qR_nodup (D : ByteArray) (j : Nat) : (qR D j).Nodup := by
  unfold qR rs99
  refine List.nodup_append.2 ⟨by simp, ?_, ?_⟩
  · refine List.Pairwise.map _ (R := fun a b => a ≠ b) (fun a b hab e => hab ?_) List.nodup_range
    injection e with _ e; injection e with _ e; injection e with e; omega
  · intro x hx y hy e
    simp at hx; subst hx e
    obtain ⟨i, -, e⟩ := List.mem_map.1 hy
    unfold soaR at e
    injection e with _ e; injection e with e; omega
theorem qR_fit {D : ByteArray} (hD : D.size ≤ 256) (j : Nat) : ∀ r ∈ qR D j, fit10 r := by
  intro r hr
  rcases qR_mem hr with rfl | ⟨i, rfl⟩
  · exact fit10_soa _ (by decide) 1
  · exact ⟨⟨by show (0 : Int) ≤ 99; decide, by show (99 : Int) < 65536; decide⟩, by show (0 : Nat) ≤ 254; decide, by show D.size ≤ 100000; omega⟩
theorem strip_root : (stripOf (⟨#[]⟩ : ByteArray) ⟨#[]⟩).isSome = true := by decide
theorem qR_rep {D : ByteArray} (hD : D.size ≤ 256) (j : Nat) : repK mayR ⟨#[]⟩ (qR D j) = if fitsR (j + 1) (sizeR (sortedR (qR D j))) = true then 0 else 8 := by
  have hl := sortedR_nodup (qR_nodup D j)
  unfold repK
  rw [if_pos hl, check_ok (s := soaR ⟨#[]⟩ 1) (sortedR_rising _) (by rw [sortedR_mem]; simp [qR]) rfl ?_ ?_, hl, qR_len]
  · intro q hq hs
    rcases qR_mem ((sortedR_mem _ _).1 hq) with rfl | ⟨i, rfl⟩
    · rfl
    · exact absurd hs (by show ¬ (((99 : Int) == 6) = true); decide)
  · intro q hq
    rcases qR_mem ((sortedR_mem _ _).1 hq) with rfl | ⟨i, rfl⟩
    · exact ⟨mayR_soa _ 1 labelsOf_root, strip_root, fun _ => rfl⟩
    · exact ⟨mayR_99 _ _ (by omega), strip_root, fun _ => rfl⟩
theorem byte_infQ : (Tryd.prog.info? 5).map (fun i => (i.zero, i.size, i.bytes)) = some (some (.int .u8 0), 1, 1) := by kernel_rfl
set_option maxHeartbeats 6400000 in
theorem applyQuota_walk (w : World) (hE : Etype w) (n : Int) (hn : (Lit.int .u16 n).wf = true) (s : Int) (hs : (Lit.int .u8 s).wf = true) :
    Calls Tryd.prog 6 #[.int .u16 n, .int .u8 s] w fun e w' => e = .returned (.bool true) ∧ Below w.heap.size w w' := by
  have hn2 : 0 ≤ n ∧ n < 65536 := by
    have : IntKind.u16.min ≤ n ∧ n ≤ IntKind.u16.max := by simpa [Lit.wf] using hn
    have a : IntKind.u16.min = 0 := rfl
    have b : IntKind.u16.max = 65535 := rfl
    omega
  have hs2 := u8_wf hs
  obtain ⟨i0, hi, hz0, hz1, hz2⟩ := info_parts4 rec_info
  obtain ⟨ib, hbi, hb0, hb1, hb2⟩ := info_parts4 byte_infQ
  obtain ⟨N, hN, hN3⟩ : ∃ k : Nat, n.tmod 300 = (k : Int) ∧ k < 300 := ⟨(n.tmod 300).toNat, by rw [Int.tmod_eq_emod_of_nonneg hn2.1]; omega, by rw [Int.tmod_eq_emod_of_nonneg hn2.1]; omega⟩
  have hNe : n % 300 = (N : Int) := by rw [← Int.tmod_eq_emod_of_nonneg hn2.1]; exact hN
  have hNw : IntKind.i64.wrap (N : Int) = (N : Int) := IntWalk.i64_in _ (by omega)
  obtain ⟨sn, rfl⟩ : ∃ sn : Nat, s = sn := ⟨s.toNat, by omega⟩
  obtain ⟨d, hd⟩ : ∃ d, d = 1 + sn := ⟨_, rfl⟩
  have hsw : IntKind.i64.wrap (sn : Int) = (sn : Int) := IntWalk.i64_in _ (by omega)
  have hdw : IntKind.i64.wrap (1 + (sn : Int)) = (d : Int) := by rw [IntWalk.i64_in _ (by omega)]; omega
  have hd5 : d ≤ 256 := by omega
  obtain ⟨D, hD⟩ : ∃ D : ByteArray, D = ⟨(List.replicate d (0 : UInt8)).toArray⟩ := ⟨_, rfl⟩
  have hDs : D.size ≤ 256 := by rw [hD]; simp [ByteArray.size]; omega
  obtain ⟨Z, hZ⟩ : ∃ Z, madeCells (Value.int .u8 0).cells (d * 1) = Z := ⟨_, rfl⟩
  have hZl : Z.toList = (List.replicate d (0 : UInt8)).map bv := by
    rw [← hZ, Nat.mul_one]
    show (madeCells #[Value.int .u8 0] d).toList = _
    rw [toList_madeCells_one, List.map_replicate]; rfl
  have MK : ∀ w : World, (Instr.makeSlice 45 (.int .i64 (d : Nat)) (.int .i64 (d : Nat))).run Tryd.prog w = .ok (.slice (some ⟨w.heap.size, 0, none⟩) d d) (w.alloc (.cells Z 5)) := by
    intro w
    have := run_make (P := Tryd.prog) w 45 5 ib _ Tryd.underlying45 hbi hb0 .i64 .i64 (d : Nat) (d : Nat) (by omega) (Int.le_refl _) (by rw [hb2]; omega) (by omega)
    simp only [Int.toNat_natCast] at this
    rw [hb1, hZ] at this
    exact this
  have CV : ∀ w : World, (convert 45 9 (.slice (some ⟨w.heap.size, 0, none⟩) d d)).run Tryd.prog (w.alloc (.cells Z 5)) = .ok (.string D) (w.alloc (.cells Z 5)) := by
    intro w
    have hS := Sl.fresh w Z 5 d ((List.replicate d (0 : UInt8)).map bv) hZl (by simp)
    have := run_string_of (P := Tryd.prog) (w.alloc (.cells Z 5)) 45 9 5 _ _ d (List.replicate d 0) Tryd.underlying45 Tryd.underlying5 Tryd.underlying9 hS (fun h => by cases h) d
    rw [← hD] at this
    exact this
  have HMK := Lib.hid MK
  have HCV := Lib.hid CV
  have HDS := Lib.hid hDs
  have SO : Hid (∀ w, Calls Tryd.prog 12 #[.string ⟨#[]⟩, .int .u32 1] w fun e w' => e = .returned (.agg #[.string ⟨#[]⟩, .int .u16 6, .int .u32 9, .string (soaD 1)]) ∧ Below w.heap.size w w') := Lib.hid (fun w => soa9_any ⟨#[]⟩ 1 (by omega) w)
  have HQ0 : Hid (flatR (qR D 0) = [.string ⟨#[]⟩, .int .u16 6, .int .u32 9, .string (soaD 1)]) := Lib.hid (by simp [qR, rs99, flatR, recCells, soaR])
  generalize soaD 1 = D1 at *
  have HET := Lib.hid hE
  clear hn hs hD hDs hZ hZl MK CV hbi hb0 hb1 hb2 hd hE hs2
  go_enter Tryd.func6, Tryd.ntmps6
  go_wp2_with fail
  refine (awake10_any _ HET.out).mono ?_
  rintro e w1 ⟨rfl, hb1⟩
  have HB1 := Lib.hid hb1
  clear hb1
  go_wp2_with fail
  refine (SO.out _).mono ?_
  rintro e w2 ⟨rfl, hb2⟩
  have HB2 := Lib.hid (below_trans HB1.out HB1.out.size hb2)
  have HL : Hid (OBM 4 w2.heap.size w2 (.slice (some ⟨w2.heap.size, 0, none⟩) 1 1) 1 (flatR (qR D 0)) (w2.alloc (.cells #[.string ⟨#[]⟩, .int .u16 6, .int .u32 9, .string D1] 32))) := Lib.hid (by rw [HQ0.out]; exact obm_of_cs10 ((Below.refl _ _).alloc (Nat.le_refl _) _) (by simp) (Nat.le_refl _) (Cs.new w2 _ _ _))
  clear hb2 SO
  go_wp2_with fail
  go_loopw [7, 8] (fun v i wr => ∃ k : Nat, k ≤ N ∧ i = .int .i64 k ∧ Hid (OBM 4 w2.heap.size w2 v (k + 1) (flatR (qR D k)) wr)) (fun _ i _ => N - (intOf i).toNat)
  case atStart => exact ⟨0, Nat.zero_le _, rfl, HL⟩
  case round =>
    obtain ⟨k, hk, rfl, HB⟩ := hrel
    by_cases hlt : k < N
    · have hlt' : (k : Int) < N := by omega
      have hu : IntKind.u32.wrap (k : Int) = (k : Int) := by show (k : Int) % 4294967296 = k; omega
      have hmk := HMK.out wr
      have hcv := HCV.out wr
      have ho := Lib.hid (((HB.out.alloc (.cells Z 5))).alloc (.cells #[.string ⟨#[]⟩, .int .u16 99, .int .u32 (k : Nat), .string D] 32))
      have hS := Lib.hid (src_rec (w := wr.alloc (.cells Z 5)) (ts := 26) Tryd.underlying26 (⟨#[]⟩, 99, (k : Int), D))
      have hz : (wr.alloc (.cells Z 5)).heap.size = wr.heap.size + 1 := by simp
      rw [hz] at hS
      clear hz
      go_wp2_with (at_builtin; go_loud (refine wpList_append_obm rfl _ _ 26 26 rfl 32 i0 _ 40 Tryd.underlying26 hi hz0 hz1 hz2 rfl ho.out rfl rfl hS.out rfl (by unfold maxLen; omega) (by omega) ?_))
      intro v' w' q1 q2 q3 q4
      clear q2 q3 q4
      have Q1 := Lib.hid q1
      clear q1
      go_wp2_with fail
      go_roundw
      case rel => exact ⟨k + 1, by omega, by go_num, Lib.hid (by rw [qR_next, flatR_snoc]; exact Q1.out)⟩
      case measure => simp [intOf]; omega
    · obtain rfl : k = N := by omega
      have hlt' : ¬ (k : Int) < k := by omega
      obtain ⟨M, hM⟩ : ∃ M, M = k + 1 := ⟨_, rfl⟩
      rw [← hM] at HB
      obtain ⟨A', c', hv, -, -, -⟩ := HB.out.slice
      subst hv
      have hql : (qR D k).length = M := by rw [qR_len, hM]
      have hM3 : M ≤ 301 := by omega
      obtain ⟨hrow, hnil⟩ : RowROk wr (A', M, c', qR D k) ∧ (A' = none → M = 0 ∧ c' = 0) := by
        obtain ⟨A0, c0, e, h1, h2, h3⟩ := HB.out.slice
        injection e with ea eb ec
        subst ea ec
        exact ⟨⟨HB.out.sl, fun e => (h3 e).1, hql⟩, h3⟩
      have RP := replace_any sort_ok mayR ⟨#[]⟩ A' M c' (qR D k) wr hrow hnil (by omega) (by decide) (qR_fit HDS.out k) (fun r hf w => mayrec_is r hf.1 (Nat.le_trans hf.2.1 (by decide)) hf.2.2 w)
      rw [qR_rep HDS.out k, ← hM] at RP
      have hsl : (sortedR (qR D k)).length = M := by rw [sortedR_nodup (qR_nodup D k), hql]
      have hss : sizeR (sortedR (qR D k)) ≤ 1000000000000 := Nat.le_trans (sizeR_fit _ (fun r hr => qR_fit HDS.out k r ((sortedR_mem _ _).1 hr))) (by rw [hsl]; omega)
      have SRT : Hid (∀ wx, Below wr.heap.size wr wx → Calls Tryd.prog 13 #[.slice A' M c'] wx fun e w' => ∃ v, e = .returned v ∧ OBM 4 wx.heap.size wx v (sortedR (qR D k)).length (flatR (sortedR (qR D k))) w') := Lib.hid (fun wx hb => sorted_any A' M c' (qR D k) wx ((HB.out.keep hb (Nat.le_refl _)).recs hql) hql (by omega))
      have SZE : Hid (∀ (V : Option Addr) (C : Nat) (wx : World), Recs wx V (sortedR (qR D k)) → Calls Tryd.prog 24 #[.slice V M C] wx fun e w' => e = .returned (.int .i64 (sizeR (sortedR (qR D k)) : Nat)) ∧ Below wx.heap.size wx w') := Lib.hid (fun V C wx h => size_any V M C (sortedR (qR D k)) wx h hsl (by unfold maxLen; omega) hss)
      obtain ⟨P, hP⟩ : ∃ P, P = sizeR (sortedR (qR D k)) := ⟨_, rfl⟩
      rw [← hP] at RP SZE
      obtain ⟨S, hS⟩ : ∃ S, S = sortedR (qR D k) := ⟨_, rfl⟩
      rw [← hS] at RP SZE SRT hsl
      have HSL := Lib.hid hsl
      have HBR := Lib.hid (below_trans HB2.out HB2.out.size HB.out.bel)
      have HRP := Lib.hid RP
      have HME := Lib.hid hM
      have hMi : (k : Int) + 1 = (M : Int) := by omega
      clear RP hP hS hsl hss hql hrow hnil HB HMK HCV hN hNe hM
      go_wp2_with fail
      refine HRP.out.mono ?_
      intro ex w3 hR
      unfold fitsR at hR
      rcases hR with ⟨hk0, vx, rfl, hox⟩ | ⟨hk0, rfl, hb3⟩
      · have hfit : M ≤ 256 ∧ P ≤ 16384 := by
          by_cases h1 : M ≤ 256
          · by_cases h2 : P ≤ 16384
            · exact ⟨h1, h2⟩
            · rw [if_neg (by simp; omega)] at hk0; omega
          · rw [if_neg (by simp; omega)] at hk0; omega
        obtain ⟨VX, CX, rfl, -⟩ := hox.slice
        have HB3 := Lib.hid hox.bel
        have h1i : ¬ (256 : Int) < M := by omega
        have h2i : ¬ (16384 : Int) < P := by omega
        rw [HSL.out]
        have hee : ((M : Int) == (M : Int)) = true := by simp
        clear hk0 hox hfit
        go_wp2_with fail
        refine (SRT.out _ HB3.out).mono ?_
        rintro e w4 ⟨v4, rfl, ho4⟩
        obtain ⟨V4, C4, rfl, -⟩ := ho4.slice
        have HB4 := Lib.hid (below_trans HB3.out HB3.out.size ho4.bel)
        have SZ4 := SZE.out V4 C4 w4 (ho4.recs rfl)
        rw [HSL.out]
        have SZ4 := Lib.hid SZ4
        clear ho4
        go_wp2_with fail
        refine SZ4.out.mono ?_
        rintro e w5 ⟨rfl, hb5⟩
        have HB5 := Lib.hid (below_trans HBR.out HBR.out.size (below_trans HB4.out HB4.out.size hb5))
        clear hb5
        go_wp2_with fail
        go_ret
        exact ⟨rfl, HB5.out⟩
      · have hno : ¬ (M ≤ 256 ∧ P ≤ 16384) := fun h => hk0 (by rw [if_pos (by simp; omega)])
        have he8 : (if (decide (M ≤ 256) && decide (P ≤ 16384)) = true then 0 else 8 : Nat) = 8 := if_neg (by simp; omega)
        rw [he8]
        have HB3 := Lib.hid hb3
        have HW3 := Lib.hid (below_trans HBR.out HBR.out.size hb3)
        unfold errV
        by_cases h1 : M ≤ 256
        · have h1i : ¬ (256 : Int) < M := by omega
          have h2i : (16384 : Int) < P := by omega
          clear hk0 hno he8 hb3 h1
          go_wp2_with fail
          refine (SRT.out _ HB3.out).mono ?_
          rintro e w4 ⟨v4, rfl, ho4⟩
          obtain ⟨V4, C4, rfl, -⟩ := ho4.slice
          have HB4 := Lib.hid (below_trans HB3.out HB3.out.size ho4.bel)
          have SZ4 := SZE.out V4 C4 w4 (ho4.recs rfl)
          rw [HSL.out]
          have SZ4 := Lib.hid SZ4
          clear ho4
          go_wp2_with fail
          refine SZ4.out.mono ?_
          rintro e w5 ⟨rfl, hb5⟩
          have HB5 := Lib.hid (below_trans HBR.out HBR.out.size (below_trans HB4.out HB4.out.size hb5))
          have NE := Lib.hid (number_errno 8 w5 (HET.out.keep (Nat.le_refl _) HB5.out))
          clear hb5
          go_wp2_with fail
          refine NE.out.mono ?_
          rintro e w6 ⟨rfl, hb6⟩
          have HB6 := Lib.hid (below_trans HB5.out HB5.out.size hb6)
          clear hb6 NE
          go_wp2_with fail
          go_ret
          exact ⟨rfl, HB6.out⟩
        · have h1i : (256 : Int) < M := by omega
          have NE := Lib.hid (number_errno 8 w3 (HET.out.keep (Nat.le_refl _) HW3.out))
          clear hk0 hno he8 hb3 h1
          go_wp2_with fail
          refine NE.out.mono ?_
          rintro e w6 ⟨rfl, hb6⟩
          have HB6 := Lib.hid (below_trans HW3.out HW3.out.size hb6)
          clear hb6 NE
          go_wp2_with fail
          go_ret
          exact ⟨rfl, HB6.out⟩
end Go.Proofs.YteaeplceahdioaaDoor
namespace Go.Proofs.YteaeplceahdioaaDoor
open Go.ChangeShapes Go.WideShapes Go.RowKit
theorem laid_et : Tryd.prog.globalNamed "errors.errorType" = some 0 := by kernel_rfl
theorem laid_rt : (Tryd.prog.cutTypes.find? (·.1 == "internal/reflectlite.rtype")).map (·.2) = some 140 := by kernel_rfl
theorem laid_row : ((List.range 197).filter fun t => Tryd.prog.rowNamed t [101, 114, 114, 111, 114]) = [37] := by kernel_rfl
theorem laid_size : Tryd.prog.types.size = 197 := by kernel_rfl
/-- The rows' list. -/
abbrev laidE : List (String × DataW Unit) := [("errors.errorType", Rows.laid_errors_errorType)]
theorem etype_of_laid {W : World} (h : laidMetH Tryd.prog laidE W) : Etype W := by
  have h' : laidMet Tryd.prog [] W ∧ handlesMet Tryd.prog laidE W := h
  obtain ⟨name, u, ty, e1, e2, e3, e4, e5⟩ := h'.2 _ (List.mem_singleton.2 rfl)
  have en : name = [101, 114, 114, 111, 114] := (Option.some.inj e1).symm
  subst en
  obtain rfl := Option.some.inj (laid_rt.symm.trans e2)
  have hm : ty ∈ (List.range 197).filter fun t => Tryd.prog.rowNamed t [101, 114, 114, 111, 114] := List.mem_filter.2 ⟨List.mem_range.2 (by rw [← laid_size]; exact e3), e4⟩
  rw [laid_row] at hm
  obtain rfl := List.mem_singleton.1 hm
  have hh : typeHandle Tryd.prog 37 = .pointer (some ⟨1, 37, none⟩) := by kernel_rfl
  rw [hh] at e5
  have e6 := World.var?_cell laid_et e5 0
  unfold Etype
  simpa using e6
/-- The settled world, the variable's cell laid. -/
noncomputable def laidWorld (os : Os) : World :=
  let w0 := World.holding Tryd.prog os ⟨#[], #[], []⟩
  { w0 with heap := w0.heap.modify 0 fun
      | .cells _ t fz => .cells #[.iface 140 (.agg #[.pointer (some ⟨1, 37, none⟩)])] t fz
      | o => o }
theorem laidWorld_met (os : Os) (args : Array Value) : laidMetH Tryd.prog laidE ((laidWorld os).forCall (fun _ _ => 0) ⟨#[], args, []⟩).memory :=
  laidMetH_of_parts (laidMet_nil _ _) (by kernel_rfl)
end Go.Proofs.YteaeplceahdioaaDoor
