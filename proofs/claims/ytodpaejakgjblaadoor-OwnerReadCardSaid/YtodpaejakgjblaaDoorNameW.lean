/- 'Words' and 'Name' of layer 2's statements: labels of few letters, and the name of such. -/
import Derived.Test.YtodpaejakgjblaaDoorNameC
import Derived.OpenShut
namespace Go.Proofs.YtodpaejakgjblaaDoor
open Go.RowKit
set_option linter.unusedVariables false

/-- The eight labels. -/
def eight : List (List UInt8) := [[97], [98], [99], [119, 119, 119], [101, 120], [111, 114, 103], [42], [114, 112, 122, 45, 105, 112]]
def wordZ (z : Int) : List UInt8 := eight[(z % 8).toNat]?.getD []
def wordsZ (zs : List Int) : List (List UInt8) := (zs.take 12).map wordZ
theorem eight_cell (w : World) (z : Int) (hz : 0 ≤ z) (T : TypeId) :
    (w.alloc (.cells #[.string ⟨#[97]⟩, .string ⟨#[98]⟩, .string ⟨#[99]⟩, .string ⟨#[119, 119, 119]⟩, .string ⟨#[101, 120]⟩, .string ⟨#[111, 114, 103]⟩, .string ⟨#[42]⟩, .string ⟨#[114, 112, 122, 45, 105, 112]⟩] T)).cell? ⟨w.heap.size, (z % 8).toNat, none⟩ = some (.string ⟨(wordZ z).toArray⟩) := by
  obtain ⟨k, hk, hk8⟩ : ∃ k : Nat, (z % 8).toNat = k ∧ k < 8 := ⟨_, rfl, by omega⟩
  have h := news_at w #[.string ⟨#[97]⟩, .string ⟨#[98]⟩, .string ⟨#[99]⟩, .string ⟨#[119, 119, 119]⟩, .string ⟨#[101, 120]⟩, .string ⟨#[111, 114, 103]⟩, .string ⟨#[42]⟩, .string ⟨#[114, 112, 122, 45, 105, 112]⟩] T k (.string ⟨(wordZ z).toArray⟩)
  rw [Addr.add_lit, Nat.zero_add] at h
  rw [hk]
  apply h
  unfold wordZ
  rw [hk]
  match k, hk8 with
  | 0, _ => rfl
  | 1, _ => rfl
  | 2, _ => rfl
  | 3, _ => rfl
  | 4, _ => rfl
  | 5, _ => rfl
  | 6, _ => rfl
  | 7, _ => rfl

set_option maxHeartbeats 1600000 in
theorem words_any (A : Option Addr) (n c : Nat) (zs : List Int) (w : World) (hA : Sl w w.heap.size 1 A n (zs.map (Value.int .u8))) (hz : ∀ z ∈ zs, 0 ≤ z ∧ z < 256) (hn : n ≤ maxLen) :
    Calls Tryd.prog 24 #[.slice A n c] w fun e w' => ∃ v, e = .returned v ∧ Buf w.heap.size 9 w v (wordsZ zs).length ((wordsZ zs).map sv) w' := by
  obtain ⟨i0, hi, hz0, hz1, hz2⟩ := info_parts str_info
  have hzl : zs.length = n := by simpa using hA.1
  unfold maxLen at hn
  go_enter Tryd.func24, Tryd.ntmps24
  go_wp2_with fail
  go_loopw [3, 9] (fun v i wr => ∃ k : Nat, i = .int .i64 k ∧ k ≤ n ∧ k ≤ 12 ∧ Buf w.heap.size 9 w v k (((zs.take k).map wordZ).map sv) wr) (fun _ i _ => n - (intOf i).toNat)
  case atStart => exact ⟨0, rfl, Nat.zero_le _, by omega, Buf.start _ _⟩
  case round =>
    obtain ⟨k, rfl, hk, hk12, hb⟩ := hrel
    by_cases hlt : k < n
    · obtain ⟨b, off, u, rfl, hbb, hu, hc⟩ := hA.at_ hlt
      have hkl : k < zs.length := by omega
      have hlt' : (k : Int) < n := by omega
      have hcell : wr.cell? ⟨b, off + k, none⟩ = some (.int .u8 zs[k]) := by
        rw [hb.below.cell hbb, hc]
        simp only [List.getElem?_map, List.getElem?_eq_getElem hkl, Option.map_some] at hu
        exact hu.symm
      have hzk := hz zs[k] (List.getElem_mem hkl)
      have htk : ((zs.take (k + 1)).map wordZ).map sv = ((zs.take k).map wordZ).map sv ++ [sv (wordZ zs[k])] := by
        rw [List.take_succ_eq_append_getElem hkl, List.map_append, List.map_append]; rfl
      have h8 := fun w => eight_cell w zs[k] hzk.1 9
      generalize zs[k] = z at *
      have HT := Lib.hid htk
      clear htk hc hu
      by_cases hk2 : k = 12
      · have hk3 : ((k : Int) == 12) = true := by rw [hk2]; rfl
        have HK := Lib.hid hk2
        clear hk2
        go_wp2_with fail
        go_ret
        refine ⟨_, rfl, ?_⟩
        have hk2 := HK.out
        have hLl : (wordsZ zs).length = k := by unfold wordsZ; simp; omega
        rw [hLl]
        unfold wordsZ
        rw [← hk2]
        exact hb
      · have hk3 : ((k : Int) == 12) = false := by rw [beq_eq_false_iff_ne]; omega
        obtain ⟨z0, hz1'⟩ := hzk
        have a1 : 0 ≤ z % 8 := by omega
        have a2 : z % 8 < 8 := by omega
        go_wp2_with (at_builtin; go_loud (refine wpList_append_one rfl _ _ 31 rfl w.heap.size 9 i0 _ 16 Tryd.underlying31 hi hz0 hz1 hz2 rfl (hb.alloc _) rfl ?hx rfl ?c1 ?c2 ?_))
        case hx => exact congrArg (fun q => Value.slice (some ⟨q, 0, none⟩) 1 1) (by simp)
        case c1 => unfold maxLen; omega
        case c2 => omega
        intro v' w2 hb2
        have HB := Lib.hid hb2
        clear hb2
        go_wp2
        go_roundw
        case rel => exact ⟨k + 1, by go_num, by omega, by omega, by rw [HT.out, List.map_map, List.map_take]; exact HB.out⟩
        case measure => simp [intOf]; omega
    · obtain rfl : k = n := by omega
      have hlt' : ¬ (k : Int) < k := by omega
      have hLl : (wordsZ zs).length = k := by unfold wordsZ; simp; omega
      have hLw : wordsZ zs = (zs.take k).map wordZ := by unfold wordsZ; rw [List.take_of_length_le (by omega), List.take_of_length_le (by omega)]
      have H1 := Lib.hid hLl
      have H2 := Lib.hid hLw
      clear hLl hLw
      go_wp2_with fail
      go_ret
      exact ⟨_, rfl, by rw [H1.out, H2.out]; exact hb⟩

theorem wordsZ_len (zs : List Int) : (wordsZ zs).length ≤ 12 := by unfold wordsZ; simp; omega
theorem eight_ok : ∀ x ∈ eight, okLabel x = true ∧ x.map fold8 = x ∧ x.length ≤ 6 := by decide
theorem wordZ_ok (z : Int) (hz : 0 ≤ z) : okLabel (wordZ z) = true ∧ (wordZ z).map fold8 = wordZ z ∧ (wordZ z).length ≤ 6 := by
  apply eight_ok
  unfold wordZ
  have h : (z % 8).toNat < eight.length := by have : eight.length = 8 := rfl; omega
  rw [List.getElem?_eq_getElem h]
  exact List.getElem_mem h
theorem wordsZ_ok (zs : List Int) (hz : ∀ z ∈ zs, 0 ≤ z ∧ z < 256) : ∀ x ∈ wordsZ zs, okLabel x = true ∧ x.map fold8 = x ∧ x.length ≤ 6 := by
  intro x hx
  unfold wordsZ at hx
  obtain ⟨z, hz', rfl⟩ := List.mem_map.1 hx
  exact wordZ_ok z (hz z (List.mem_of_mem_take hz')).1
theorem few_wire : ∀ (ls : List (List UInt8)), (∀ x ∈ ls, x.length ≤ 6) → (wire ls).length ≤ 7 * ls.length
  | [], _ => by simp [wire]
  | l :: ls, h => by
    have h1 := few_wire ls (fun x hx => h x (by simp [hx]))
    have h2 := h l (by simp)
    simp [wire] at *
    omega
theorem few_low {ls : List (List UInt8)} (h : ∀ x ∈ ls, okLabel x = true ∧ x.map fold8 = x ∧ x.length ≤ 6) : lowL ls = ls := by
  unfold lowL
  rw [List.map_congr_left (g := id) (fun x hx => (h x hx).2.1), List.map_id]
/-- The name of few labels of few letters. -/
theorem few_make {ls : List (List UInt8)} (h : ∀ x ∈ ls, okLabel x = true ∧ x.map fold8 = x ∧ x.length ≤ 6) (hl : ls.length ≤ 12) : makeL ls = some (wire ls) := by
  have h1 := few_low h
  have h2 := few_wire ls (fun x hx => (h x hx).2.2)
  unfold makeL
  rw [h1, if_pos]
  refine ⟨?_, by omega⟩
  rw [List.all_eq_true]
  intro x hx
  have := (h x hx).1
  simp only [okLabel, Bool.and_eq_true] at this
  exact this.1
theorem few_labels {ls : List (List UInt8)} (h : ∀ x ∈ ls, okLabel x = true ∧ x.map fold8 = x ∧ x.length ≤ 6) (hl : ls.length ≤ 12) : labelsOf ⟨(wire ls).toArray⟩ = some ls := by
  have h2 := few_wire ls (fun x hx => (h x hx).2.2)
  refine (nameLabels_iff _ _).2 ⟨by simp; omega, by simp, fun x hx => (h x hx).1⟩
def nameZ (zs : List Int) : List UInt8 := wire (wordsZ zs)

set_option maxHeartbeats 800000 in
theorem name_any (A : Option Addr) (n c : Nat) (zs : List Int) (w : World) (hA : Sl w w.heap.size 1 A n (zs.map (Value.int .u8))) (hz : ∀ z ∈ zs, 0 ≤ z ∧ z < 256) (hn : n ≤ maxLen) :
    Calls Tryd.prog 26 #[.slice A n c] w fun e w' => e = .returned (sv (nameZ zs)) ∧ Below w.heap.size w w' := by
  have h1 := fun h => words_any A n c zs w h hz hn
  have hok := wordsZ_ok zs hz
  have hl := wordsZ_len zs
  have hb : bytesOf ((wordsZ zs).map fun l => ⟨l.toArray⟩) = wordsZ zs := by unfold bytesOf; simp [Function.comp_def]
  have hm : makeOf ((wordsZ zs).map fun l => ⟨l.toArray⟩) = some (nameZ zs) := by unfold makeOf; rw [hb]; exact few_make hok hl
  have hn' : nameOf ((wordsZ zs).map fun l => ⟨l.toArray⟩) = nameZ zs := by unfold nameOf; rw [hm]; rfl
  have hv : (wordsZ zs).map sv = ((wordsZ zs).map fun l => (⟨l.toArray⟩ : ByteArray)).map Value.string := by simp [sv, Function.comp_def]
  have hmk := fun A n c w h => make_any A n c ((wordsZ zs).map fun l => ⟨l.toArray⟩) w h (by
    intro t ht
    obtain ⟨l, hl', rfl⟩ := List.mem_map.1 ht
    rw [mk_size]
    have := (hok l hl').2.2
    unfold maxLen; omega)
  rw [hn', hm] at hmk
  rw [← hv] at hmk
  generalize hL : (wordsZ zs).length = L at *
  have H1 := Lib.hid (h1 hA)
  have HM := Lib.hid hmk
  clear h1 hok hb hm hn' hv hmk hL
  go_enter Tryd.func26, Tryd.ntmps26
  go_wp2_with fail
  refine H1.out.mono ?_
  rintro e w1 ⟨v, rfl, hb1⟩
  obtain ⟨D, d, rfl, hd1, hd2, hd3⟩ := hb1.slice
  have hS := hb1.sl
  have hB1 := hb1.below
  have hz1 := hB1.size
  clear hb1
  go_wp2_with fail
  refine (HM.out _ _ _ _ hS (by unfold maxLen; omega)).mono ?_
  rintro e w2 ⟨rfl, hb2⟩
  have hB2 := below_trans hB1 hz1 hb2
  go_wp2_with fail
  go_ret
  exact ⟨rfl, hB2⟩
end Go.Proofs.YtodpaejakgjblaaDoor
