/- Texts that walks stand on, one behind the other. -/
import Derived.Test.YtodpaejakgjblaaDoorOwnN
import Derived.Test.YtodpaejakgjblaaDoorNameC
import Derived.OpenShut
import Derived.Test.YtodpaejakgjblaaDoorEvA
import Derived.Test.YtodpaejakgjblaaDoorReg2
import Derived.Test.YtodpaejakgjblaaDoorOb
import Derived.Test.YtodpaejakgjblaaDoorReg
namespace Go.Proofs.YtodpaejakgjblaaDoor
open Go.RowKit
set_option linter.unusedVariables false
set_option maxRecDepth 20000

theorem enc_len {t : Trig} {n : List UInt8} (h : encR t = some n) : n.length ≤ 254 := by
  unfold encR at h
  split at h
  · simp only [Option.some.injEq] at h
    rw [← h]; exact encN_len t
  · cases h
set_option maxHeartbeats 8000000 in
theorem ownerNone_walk (w : World) (hL : LaidT w) (k : Int) (hk : (Lit.int .i64 k).wf = true) (n : ByteArray) (hn : n.size ≤ 140737488351232) (a : ByteArray) (ha : a.size ≤ 140737488351232) (x : Int) (hx : (Lit.int .i64 x).wf = true) :
    Calls Tryd.prog 7 #[.agg #[.int .i64 k, .string n, .string a, .int .i64 x]] w fun e w' => e = .returned (.bool true) ∧ Below w.heap.size w w' := by
  have hcs := Cs.new w #[.int .i64 k, .string n, .string a, .int .i64 x] 29 [.int .i64 k, .string n, .string a, .int .i64 x]
  have hbel0 : Below w.heap.size w (w.alloc (.cells #[.int .i64 k, .string n, .string a, .int .i64 x] 29)) := (Below.refl _ _).alloc (Nat.le_refl _) _
  have HAW := Lib.hid (fun w h => awake13_any w h)
  have henc := fun w h => encode_any k n a x w (by omega) (by omega) h
  have HCS := Lib.hid hcs
  have HB0 := Lib.hid hbel0
  have HL0 := Lib.hid (hL.alloc (.cells #[.int .i64 k, .string n, .string a, .int .i64 x] 29))
  clear hcs hbel0 hL
  cases hen : encR (toT k n a x) with
  | none =>
    rw [hen] at henc
    have henc : ∀ w, LaidT w → Calls Tryd.prog 21 #[.agg #[.int .i64 k, .string n, .string a, .int .i64 x]] w fun e w' => e = .returned (.tuple #[.string ⟨#[]⟩, .bool false]) ∧ Below w.heap.size w w' := henc
    have HENC := Lib.hid henc
    clear henc hen
    go_enter Tryd.func7, Tryd.ntmps7
    go_wp2_with (go_at_call 14; refine (HAW.out _ HL0.out).mono ?_; rintro e w1 ⟨rfl, hb1⟩; refine Hid.out ?_)
    refine Lib.hid ?_
    have hC1 := HCS.out.below hb1
    have k0 := hC1.get 0 (.int .i64 k)
    have k1 := hC1.get 1 (.string n)
    have k2 := hC1.get 2 (.string a)
    have k3 := hC1.get 3 (.int .i64 x)
    have HL1 := Lib.hid (HL0.out.below hb1 (Nat.le_refl _))
    have HB1 := Lib.hid (HB0.out.trans (hb1.mono HB0.out.size))
    clear hC1 hb1
    go_wp2_with (go_at_call 21; refine (HENC.out _ HL1.out).mono ?_; rintro e w2 ⟨rfl, hb2⟩)
    go_ret
    exact ⟨rfl, HB1.out.trans (hb2.mono HB1.out.size)⟩
  | some N =>
    rw [hen] at henc
    obtain ⟨NB, hNB⟩ : ∃ NB, NB = baL N := ⟨_, rfl⟩
    have henc : ∀ w, LaidT w → Calls Tryd.prog 21 #[.agg #[.int .i64 k, .string n, .string a, .int .i64 x]] w fun e w' => e = .returned (.tuple #[.string NB, .bool true]) ∧ Below w.heap.size w w' := by rw [hNB]; exact henc
    have hdc := fun w h => decode_any NB w (by rw [hNB, show (baL N).size = N.length by simp [baL, ByteArray.size]]; have := enc_len hen; omega) h
    rw [show NB.data.toList = N by rw [hNB]; simp [baL], dec_enc hen] at hdc
    have hdc : ∀ w, LaidT w → Calls Tryd.prog 22 #[.string NB] w fun e w' => e = .returned (.tuple #[.agg #[.int .i64 k, .string n, .string a, .int .i64 x], .bool true]) ∧ Below w.heap.size w w' := by
      intro w h
      have := hdc w h
      have e1 : trigV (some (toT k n a x)) = .tuple #[.agg #[.int .i64 k, .string n, .string a, .int .i64 x], .bool true] := by
        show Value.tuple #[.agg #[.int .i64 k, sv n.data.toList, sv a.data.toList, .int .i64 x], .bool true] = _
        rw [sv_bytes, sv_bytes]
      rw [e1] at this
      exact this
    have hq := fun w => trig_eql k k n n a a x x w
    rw [trigEq_iff, decide_eq_true rfl] at hq
    have HENC := Lib.hid henc
    have HDC := Lib.hid hdc
    clear henc hen hdc hNB
    go_enter Tryd.func7, Tryd.ntmps7
    go_wp2_with (go_at_call 14; refine (HAW.out _ HL0.out).mono ?_; rintro e w1 ⟨rfl, hb1⟩; refine Hid.out ?_)
    refine Lib.hid ?_
    have hC1 := HCS.out.below hb1
    have k0 := hC1.get 0 (.int .i64 k)
    have k1 := hC1.get 1 (.string n)
    have k2 := hC1.get 2 (.string a)
    have k3 := hC1.get 3 (.int .i64 x)
    have HC1 := Lib.hid hC1
    have HL1 := Lib.hid (HL0.out.below hb1 (Nat.le_refl _))
    have HB1 := Lib.hid (HB0.out.trans (hb1.mono HB0.out.size))
    clear hC1 hb1
    go_wp2_with (go_at_call 21; refine (HENC.out _ HL1.out).mono ?_; rintro e w2 ⟨rfl, hb2⟩; refine Hid.out ?_)
    refine Lib.hid ?_
    have HC2 := Lib.hid (HC1.out.below hb2)
    have HL2 := Lib.hid (HL1.out.below hb2 (Nat.le_refl _))
    have HB2 := Lib.hid (HB1.out.trans (hb2.mono HB1.out.size))
    clear hb2 HC1 HL1 HB1 k0 k1 k2 k3
    go_wp2_with (go_at_call 22; refine (HDC.out _ HL2.out).mono ?_; rintro e w3 ⟨rfl, hb3⟩; refine Hid.out ?_)
    refine Lib.hid ?_
    have hC3 := (HC2.out.below hb3).alloc (.cells #[.int .i64 k, .string n, .string a, .int .i64 x] 29)
    have k0 := hC3.get 0 (.int .i64 k)
    have k1 := hC3.get 1 (.string n)
    have k2 := hC3.get 2 (.string a)
    have k3 := hC3.get 3 (.int .i64 x)
    have hB3 := HB2.out.trans (hb3.mono HB2.out.size)
    have HB3 := Lib.hid (hB3.alloc hB3.size (.cells #[.int .i64 k, .string n, .string a, .int .i64 x] 29))
    clear hC3 hB3 hb3 HC2 HL2 HB2
    go_wp2_with fail
    go_ret
    exact ⟨rfl, HB3.out⟩
end Go.Proofs.YtodpaejakgjblaaDoor
namespace Go.Proofs.YtodpaejakgjblaaDoor
open Go.RowKit
set_option linter.unusedVariables false

/-- The eight labels. -/
def eight : List (List UInt8) := [[97], [98], [99], [119, 119, 119], [101, 120], [111, 114, 103], [42], [114, 112, 122, 45, 105, 112]]
def wordZ (z : Int) : List UInt8 := eight[(z % 8).toNat]?.getD []
def wordsZ (zs : List Int) : List (List UInt8) := (zs.take 12).map wordZ
theorem eight_cell (w : World) (z : Int) (hz : 0 ≤ z) (T : TypeId) :
    (w.alloc (.cells #[.string ⟨#[97]⟩, .string ⟨#[98]⟩, .string ⟨#[99]⟩, .string ⟨#[119, 119, 119]⟩, .string ⟨#[101, 120]⟩, .string ⟨#[111, 114, 103]⟩, .string ⟨#[42]⟩, .string ⟨#[114, 112, 122, 45, 105, 112]⟩] T)).cell? ⟨w.heap.size, (z % 8).toNat, none⟩ = some (.string ⟨(wordZ z).toArray⟩) := by
  obtain ⟨k, hk, hk8⟩ : ∃ k : Nat, (z % 8).toNat = k ∧ k < 8 := ⟨_, rfl, by omega⟩
  have h := news_at w #[.string ⟨#[97]⟩, .string ⟨#[98]⟩, .string ⟨#[99]⟩, .string ⟨#[119, 119, 119]⟩, .string ⟨#[101, 120]⟩, .string ⟨#[111, 114, 103]⟩, .string ⟨#[42]⟩, .string ⟨#[114, 112, 122, 45, 105, 112]⟩] T k (.string ⟨(wordZ z).toArray⟩)
  rw [Addr.add_lit, Nat.zero_add] at h
  rw [hk]
  apply h
  unfold wordZ
  rw [hk]
  match k, hk8 with
  | 0, _ => rfl
  | 1, _ => rfl
  | 2, _ => rfl
  | 3, _ => rfl
  | 4, _ => rfl
  | 5, _ => rfl
  | 6, _ => rfl
  | 7, _ => rfl

set_option maxHeartbeats 1600000 in
theorem words_any (A : Option Addr) (n c : Nat) (zs : List Int) (w : World) (hA : Sl w w.heap.size 1 A n (zs.map (Value.int .u8))) (hz : ∀ z ∈ zs, 0 ≤ z ∧ z < 256) (hn : n ≤ maxLen) :
    Calls Tryd.prog 24 #[.slice A n c] w fun e w' => ∃ v, e = .returned v ∧ Buf w.heap.size 9 w v (wordsZ zs).length ((wordsZ zs).map sv) w' := by
  obtain ⟨i0, hi, hz0, hz1, hz2⟩ := info_parts str_info
  have hzl : zs.length = n := by simpa using hA.1
  unfold maxLen at hn
  go_enter Tryd.func24, Tryd.ntmps24
  go_wp2_with fail
  go_loopw [3, 9] (fun v i wr => ∃ k : Nat, i = .int .i64 k ∧ k ≤ n ∧ k ≤ 12 ∧ Buf w.heap.size 9 w v k (((zs.take k).map wordZ).map sv) wr) (fun _ i _ => n - (intOf i).toNat)
  case atStart => exact ⟨0, rfl, Nat.zero_le _, by omega, Buf.start _ _⟩
  case round =>
    obtain ⟨k, rfl, hk, hk12, hb⟩ := hrel
    by_cases hlt : k < n
    · obtain ⟨b, off, u, rfl, hbb, hu, hc⟩ := hA.at_ hlt
      have hkl : k < zs.length := by omega
      have hlt' : (k : Int) < n := by omega
      have hcell : wr.cell? ⟨b, off + k, none⟩ = some (.int .u8 zs[k]) := by
        rw [hb.below.cell hbb, hc]
        simp only [List.getElem?_map, List.getElem?_eq_getElem hkl, Option.map_some] at hu
        exact hu.symm
      have hzk := hz zs[k] (List.getElem_mem hkl)
      have htk : ((zs.take (k + 1)).map wordZ).map sv = ((zs.take k).map wordZ).map sv ++ [sv (wordZ zs[k])] := by
        rw [List.take_succ_eq_append_getElem hkl, List.map_append, List.map_append]; rfl
      have h8 := fun w => eight_cell w zs[k] hzk.1 9
      generalize zs[k] = z at *
      have HT := Lib.hid htk
      clear htk hc hu
      by_cases hk2 : k = 12
      · have hk3 : ((k : Int) == 12) = true := by rw [hk2]; rfl
        have HK := Lib.hid hk2
        clear hk2
        go_wp2_with fail
        go_ret
        refine ⟨_, rfl, ?_⟩
        have hk2 := HK.out
        have hLl : (wordsZ zs).length = k := by unfold wordsZ; simp; omega
        rw [hLl]
        unfold wordsZ
        rw [← hk2]
        exact hb
      · have hk3 : ((k : Int) == 12) = false := by rw [beq_eq_false_iff_ne]; omega
        obtain ⟨z0, hz1'⟩ := hzk
        have a1 : 0 ≤ z % 8 := by omega
        have a2 : z % 8 < 8 := by omega
        go_wp2_with (at_builtin; go_loud (refine wpList_append_one rfl _ _ 31 rfl w.heap.size 9 i0 _ 16 Tryd.underlying31 hi hz0 hz1 hz2 rfl (hb.alloc _) rfl ?hx rfl ?c1 ?c2 ?_))
        case hx => exact congrArg (fun q => Value.slice (some ⟨q, 0, none⟩) 1 1) (by simp)
        case c1 => unfold maxLen; omega
        case c2 => omega
        intro v' w2 hb2
        have HB := Lib.hid hb2
        clear hb2
        go_wp2
        go_roundw
        case rel => exact ⟨k + 1, by go_num, by omega, by omega, by rw [HT.out, List.map_map, List.map_take]; exact HB.out⟩
        case measure => simp [intOf]; omega
    · obtain rfl : k = n := by omega
      have hlt' : ¬ (k : Int) < k := by omega
      have hLl : (wordsZ zs).length = k := by unfold wordsZ; simp; omega
      have hLw : wordsZ zs = (zs.take k).map wordZ := by unfold wordsZ; rw [List.take_of_length_le (by omega), List.take_of_length_le (by omega)]
      have H1 := Lib.hid hLl
      have H2 := Lib.hid hLw
      clear hLl hLw
      go_wp2_with fail
      go_ret
      exact ⟨_, rfl, by rw [H1.out, H2.out]; exact hb⟩

theorem wordsZ_len (zs : List Int) : (wordsZ zs).length ≤ 12 := by unfold wordsZ; simp; omega
theorem eight_ok : ∀ x ∈ eight, okLabel x = true ∧ x.map fold8 = x ∧ x.length ≤ 6 := by decide
theorem wordZ_ok (z : Int) (hz : 0 ≤ z) : okLabel (wordZ z) = true ∧ (wordZ z).map fold8 = wordZ z ∧ (wordZ z).length ≤ 6 := by
  apply eight_ok
  unfold wordZ
  have h : (z % 8).toNat < eight.length := by have : eight.length = 8 := rfl; omega
  rw [List.getElem?_eq_getElem h]
  exact List.getElem_mem h
theorem wordsZ_ok (zs : List Int) (hz : ∀ z ∈ zs, 0 ≤ z ∧ z < 256) : ∀ x ∈ wordsZ zs, okLabel x = true ∧ x.map fold8 = x ∧ x.length ≤ 6 := by
  intro x hx
  unfold wordsZ at hx
  obtain ⟨z, hz', rfl⟩ := List.mem_map.1 hx
  exact wordZ_ok z (hz z (List.mem_of_mem_take hz')).1
theorem few_wire : ∀ (ls : List (List UInt8)), (∀ x ∈ ls, x.length ≤ 6) → (wire ls).length ≤ 7 * ls.length
  | [], _ => by simp [wire]
  | l :: ls, h => by
    have h1 := few_wire ls (fun x hx => h x (by simp [hx]))
    have h2 := h l (by simp)
    simp [wire] at *
    omega
theorem few_low {ls : List (List UInt8)} (h : ∀ x ∈ ls, okLabel x = true ∧ x.map fold8 = x ∧ x.length ≤ 6) : lowL ls = ls := by
  unfold lowL
  rw [List.map_congr_left (g := id) (fun x hx => (h x hx).2.1), List.map_id]
/-- The name of few labels of few letters. -/
theorem few_make {ls : List (List UInt8)} (h : ∀ x ∈ ls, okLabel x = true ∧ x.map fold8 = x ∧ x.length ≤ 6) (hl : ls.length ≤ 12) : makeL ls = some (wire ls) := by
  have h1 := few_low h
  have h2 := few_wire ls (fun x hx => (h x hx).2.2)
  unfold makeL
  rw [h1, if_pos]
  refine ⟨?_, by omega⟩
  rw [List.all_eq_true]
  intro x hx
  have := (h x hx).1
  simp only [okLabel, Bool.and_eq_true] at this
  exact this.1
theorem few_labels {ls : List (List UInt8)} (h : ∀ x ∈ ls, okLabel x = true ∧ x.map fold8 = x ∧ x.length ≤ 6) (hl : ls.length ≤ 12) : labelsOf ⟨(wire ls).toArray⟩ = some ls := by
  have h2 := few_wire ls (fun x hx => (h x hx).2.2)
  refine (nameLabels_iff _ _).2 ⟨by simp; omega, by simp, fun x hx => (h x hx).1⟩
def nameZ (zs : List Int) : List UInt8 := wire (wordsZ zs)

set_option maxHeartbeats 800000 in
theorem name_any (A : Option Addr) (n c : Nat) (zs : List Int) (w : World) (hA : Sl w w.heap.size 1 A n (zs.map (Value.int .u8))) (hz : ∀ z ∈ zs, 0 ≤ z ∧ z < 256) (hn : n ≤ maxLen) :
    Calls Tryd.prog 26 #[.slice A n c] w fun e w' => e = .returned (sv (nameZ zs)) ∧ Below w.heap.size w w' := by
  have h1 := fun h => words_any A n c zs w h hz hn
  have hok := wordsZ_ok zs hz
  have hl := wordsZ_len zs
  have hb : bytesOf ((wordsZ zs).map fun l => ⟨l.toArray⟩) = wordsZ zs := by unfold bytesOf; simp [Function.comp_def]
  have hm : makeOf ((wordsZ zs).map fun l => ⟨l.toArray⟩) = some (nameZ zs) := by unfold makeOf; rw [hb]; exact few_make hok hl
  have hn' : nameOf ((wordsZ zs).map fun l => ⟨l.toArray⟩) = nameZ zs := by unfold nameOf; rw [hm]; rfl
  have hv : (wordsZ zs).map sv = ((wordsZ zs).map fun l => (⟨l.toArray⟩ : ByteArray)).map Value.string := by simp [sv, Function.comp_def]
  have hmk := fun A n c w h => make_any A n c ((wordsZ zs).map fun l => ⟨l.toArray⟩) w h (by
    intro t ht
    obtain ⟨l, hl', rfl⟩ := List.mem_map.1 ht
    rw [mk_size]
    have := (hok l hl').2.2
    unfold maxLen; omega)
  rw [hn', hm] at hmk
  rw [← hv] at hmk
  generalize hL : (wordsZ zs).length = L at *
  have H1 := Lib.hid (h1 hA)
  have HM := Lib.hid hmk
  clear h1 hok hb hm hn' hv hmk hL
  go_enter Tryd.func26, Tryd.ntmps26
  go_wp2_with fail
  refine H1.out.mono ?_
  rintro e w1 ⟨v, rfl, hb1⟩
  obtain ⟨D, d, rfl, hd1, hd2, hd3⟩ := hb1.slice
  have hS := hb1.sl
  have hB1 := hb1.below
  have hz1 := hB1.size
  clear hb1
  go_wp2_with fail
  refine (HM.out _ _ _ _ hS (by unfold maxLen; omega)).mono ?_
  rintro e w2 ⟨rfl, hb2⟩
  have hB2 := below_trans hB1 hz1 hb2
  go_wp2_with fail
  go_ret
  exact ⟨rfl, hB2⟩
end Go.Proofs.YtodpaejakgjblaaDoor
namespace Go.Proofs.YtodpaejakgjblaaDoor
open Go.RowKit
set_option linter.unusedVariables false
set_option maxRecDepth 20000

theorem encV_shape (o : Option (List UInt8)) : ∃ NB b, encV o = .tuple #[.string NB, .bool b] := by
  cases o with
  | none => exact ⟨_, _, rfl⟩
  | some n => exact ⟨baL n, true, rfl⟩
def six6L : List (List UInt8) := [cAnswer, cClient, cNsip, cNsname, [120], star]
theorem six6L_len : ∀ x ∈ six6L, x.length ≤ 20 := by decide
theorem six6_cell (w : World) (z : Int) (hz : 0 ≤ z) (T : TypeId) :
    ∃ l ∈ six6L, (w.alloc (.cells #[.string ⟨#[114, 112, 122, 45, 105, 112]⟩, .string ⟨#[114, 112, 122, 45, 99, 108, 105, 101, 110, 116, 45, 105, 112]⟩, .string ⟨#[114, 112, 122, 45, 110, 115, 105, 112]⟩, .string ⟨#[114, 112, 122, 45, 110, 115, 100, 110, 97, 109, 101]⟩, .string ⟨#[120]⟩, .string ⟨#[42]⟩] T)).cell? ⟨w.heap.size, (z % 6).toNat, none⟩ = some (.string (baL l)) := by
  obtain ⟨k, hk, hk6⟩ : ∃ k : Nat, (z % 6).toNat = k ∧ k < 6 := ⟨_, rfl, by omega⟩
  rw [hk]
  have hl : k < six6L.length := hk6
  refine ⟨six6L[k], List.getElem_mem hl, ?_⟩
  have h := news_at w #[.string ⟨#[114, 112, 122, 45, 105, 112]⟩, .string ⟨#[114, 112, 122, 45, 99, 108, 105, 101, 110, 116, 45, 105, 112]⟩, .string ⟨#[114, 112, 122, 45, 110, 115, 105, 112]⟩, .string ⟨#[114, 112, 122, 45, 110, 115, 100, 110, 97, 109, 101]⟩, .string ⟨#[120]⟩, .string ⟨#[42]⟩] T k (.string (baL six6L[k]))
  rw [Addr.add_lit, Nat.zero_add] at h
  apply h
  match k, hk6 with
  | 0, _ => rfl
  | 1, _ => rfl
  | 2, _ => rfl
  | 3, _ => rfl
  | 4, _ => rfl
  | 5, _ => rfl
theorem makeL_len (ls : List (List UInt8)) : ((makeL ls).getD []).length ≤ 254 := by
  cases h : makeL ls with
  | none => simp
  | some x =>
    unfold makeL at h
    split at h
    · rename_i hc
      simp only [Option.some.injEq] at h
      subst h
      exact hc.2
    · cases h
theorem named_small {ls : List (List UInt8)} {e d : Int} {T : Trig} (h : namedR ls e d = some T) : T.name.length ≤ 254 ∧ T.addr.length ≤ 16 := by
  unfold namedR at h
  cases ls with
  | nil => cases h
  | cons l r =>
    simp only at h
    split at h
    all_goals
      simp only [Option.some.injEq] at h
      subst h
      exact ⟨makeL_len _, by simp⟩
theorem decR_small {n : List UInt8} {T : Trig} (h : decR n = some T) : T.name.length ≤ 254 ∧ T.addr.length ≤ 16 := by
  obtain ⟨ls, _, _, _, h4⟩ := decR_some h
  unfold decL at h4
  split at h4
  · exact named_small h4
  · split at h4
    · exact named_small h4
    · cases ha : addrR ls.dropLast with
      | none => rw [ha] at h4; cases h4
      | some p =>
        obtain ⟨a, b⟩ := p
        rw [ha] at h4
        simp only [Option.map_some, Option.some.injEq] at h4
        subst h4
        have := (isCut_four (mayP_cut (addr_some ha).1)).1
        exact ⟨by simp, by simp only; omega⟩
theorem baL_size (l : List UInt8) : (baL l).size = l.length := by simp [baL, ByteArray.size]
/-- What the law asks of one name. -/
structure Asked (N : ByteArray) (dv ev : Value) (tk : Int) (TN TA : ByteArray) (tb : Int) (ok : Bool) (NB : ByteArray) (is : Bool) : Prop where
  dv : dv = .tuple #[.agg #[.int .i64 tk, .string TN, .string TA, .int .i64 tb], .bool ok]
  ev : ev = .tuple #[.string NB, .bool is]
  yes : ok = true → is = true ∧ NB = N ∧ (labelsOf N).isSome = true ∧ N.size ≠ 0
  no : ok = false → tk = 0 ∧ TN = ⟨#[]⟩ ∧ TA = ⟨#[]⟩ ∧ tb = 0
  small : TN.size ≤ 140737488355328 ∧ TA.size ≤ 140737488355328
theorem asked (N : ByteArray) : ∃ tk TN TA tb ok NB is, Asked N (trigV (decR N.data.toList)) (encV (encR (toT tk TN TA tb))) tk TN TA tb ok NB is := by
  cases hd : decR N.data.toList with
  | none =>
    obtain ⟨NB, is, he⟩ := encV_shape (encR (toT 0 ⟨#[]⟩ ⟨#[]⟩ 0))
    exact ⟨0, ⟨#[]⟩, ⟨#[]⟩, 0, false, NB, is, rfl, he, fun h => by (cases h), fun _ => ⟨rfl, rfl, rfl, rfl⟩, by decide, by decide⟩
  | some T =>
    have he := enc_dec hd
    refine ⟨T.kind, baL T.name, baL T.addr, T.bits, true, N, true, rfl, ?_, fun _ => ⟨rfl, rfl, ?_, ?_⟩, fun h => by (cases h), ?_, ?_⟩
    · rw [← toT_surj, he]; show Value.tuple #[sv N.data.toList, .bool true] = _; rw [sv_bytes]
    · obtain ⟨ls, h1, h2, h3, h4⟩ := decR_some hd
      show (nameLabels N.data.toList).isSome = true
      rw [h2, h1.labels]; rfl
    · intro h0
      have : N.data.toList = [] := by
        apply List.eq_nil_of_length_eq_zero
        simpa using h0
      rw [this, decR_nil] at hd
      cases hd
    · have := decR_small hd; rw [baL_size]; omega
    · have := decR_small hd; rw [baL_size]; omega

set_option maxHeartbeats 16000000 in
theorem ownerRead_walk (w : World) (hL : LaidT w) (A : Option Addr) (n c : Nat) (zs : List Int) (SA : SlView w A n c (zs.map (Value.int .u8))) (hl : zs.length = n) (hw : ∀ z ∈ zs, (Lit.int .u8 z).wf = true) (hc : c ≤ 140737488351232)
    (raw : ByteArray) (hraw : raw.size ≤ 140737488351232) (last : Int) (hlast : (Lit.int .u8 last).wf = true) :
    Calls Tryd.prog 6 #[.slice A n c, .string raw, .int .u8 last] w fun e w' => e = .returned (.bool true) ∧ Below w.heap.size w w' := by
  obtain ⟨i0, hi, hz0, hz1, hz2⟩ := info_parts str_info
  have hz : ∀ z ∈ zs, 0 ≤ z ∧ z < 256 := fun z h => by have := bounds_u8 (hw z h); omega
  have hlb := bounds_u8 hlast
  have hA := SA.sl
  have hn : n ≤ maxLen := by have := SA.le; unfold maxLen; omega
  have hwd := fun w h => words_any A n c zs w h hz hn
  have hnm := fun w h => name_any A n c zs w h hz hn
  have hX := wordsZ_len zs
  have hX6 : ∀ x ∈ wordsZ zs, x.length ≤ 6 := fun x hx => (wordsZ_ok zs hz x hx).2.2
  obtain ⟨X, hXe⟩ : ∃ X, X = wordsZ zs := ⟨_, rfl⟩
  rw [← hXe] at hwd hX hX6
  obtain ⟨N2, hN2⟩ : ∃ N, N = baL (nameZ zs) := ⟨_, rfl⟩
  rw [show sv (nameZ zs) = .string N2 by rw [hN2]; rfl] at hnm
  have hN2s : N2.size ≤ 140737488351232 := by
    rw [hN2, baL_size]
    have h1 := few_wire (wordsZ zs) (fun x hx => (wordsZ_ok zs hz x hx).2.2)
    have h2 := wordsZ_len zs
    unfold nameZ; omega
  have HAW := Lib.hid (awake13_any w hL)
  have HWD := Lib.hid hwd
  have HNM := Lib.hid hnm
  have HA := Lib.hid hA
  have HLL := Lib.hid hL
  have HX6 := Lib.hid hX6
  have r0 : 0 ≤ last % 6 := by omega
  have r1 : last % 6 < 6 := by omega
  obtain ⟨l0, l1⟩ := hlb
  clear hwd hnm hA hL hX6 hXe hN2 SA hw hz hl hlast
  go_enter Tryd.func6, Tryd.ntmps6
  go_wp2_with (go_at_call 14; refine HAW.out.mono ?_; rintro e w1 ⟨rfl, hb1⟩; refine Hid.out ?_)
  refine Lib.hid ?_
  have HA1 := Lib.hid ((HA.out.below hb1).more hb1.size)
  have HL1 := Lib.hid (HLL.out.below hb1 (Nat.le_refl _))
  have HB1 := Lib.hid hb1
  clear hb1
  go_wp2_with (go_at_call 24; refine (HWD.out _ HA1.out).mono ?_; rintro e w2 ⟨v2, rfl, hbuf⟩; refine Hid.out ?_)
  refine Lib.hid ?_
  have HB2 := Lib.hid (HB1.out.trans (hbuf.below.mono HB1.out.size))
  obtain ⟨l6, hl6, hcell⟩ := six6_cell w2 last l0 9
  obtain ⟨S6, hS6⟩ : ∃ S, S = baL l6 := ⟨_, rfl⟩
  rw [← hS6] at hcell
  have hb3 := (hbuf.out (C := w.heap.size) (W0 := w) HB1.out.size HB1.out).alloc (.cells #[.string ⟨#[114, 112, 122, 45, 105, 112]⟩, .string ⟨#[114, 112, 122, 45, 99, 108, 105, 101, 110, 116, 45, 105, 112]⟩, .string ⟨#[114, 112, 122, 45, 110, 115, 105, 112]⟩, .string ⟨#[114, 112, 122, 45, 110, 115, 100, 110, 97, 109, 101]⟩, .string ⟨#[120]⟩, .string ⟨#[42]⟩] 9)
  have HS6 := Lib.hid hS6
  have HL6 := Lib.hid (six6L_len l6 hl6)
  clear hbuf hS6 hl6
  go_upto_region 4 with fail
  go_wp2_with (at_builtin; go_loud (refine wpList_append_one rfl _ _ 31 rfl w.heap.size 9 i0 _ 16 Tryd.underlying31 hi hz0 hz1 hz2 rfl hb3 rfl ?hx rfl ?c1 ?c2 ?_))
  case hx => exact congrArg (fun q => Value.slice (some ⟨q, 0, none⟩) 1 1) (by simp)
  case c1 => unfold maxLen; omega
  case c2 => omega
  intro v' w3 hb4
  have hmap : X.map sv ++ [Value.string S6] = (X ++ [l6]).map sv := by rw [HS6.out, List.map_append]; rfl
  rw [hmap] at hb4
  have hlen4 : (X ++ [l6]).length = X.length + 1 := by simp
  have hmk := fun A c w h => makeX_any A (X.length + 1) c (X ++ [l6]) w h (by
    intro x hx
    simp only [List.mem_append, List.mem_cons, List.not_mem_nil, or_false] at hx
    unfold maxLen
    rcases hx with hx | rfl
    · have := HX6.out x hx; omega
    · have := HL6.out; omega) (by unfold maxLen; omega)
  obtain ⟨N1, hN1⟩ : ∃ N, N = baL ((makeL (X ++ [l6])).getD []) := ⟨_, rfl⟩
  rw [show sv ((makeL (X ++ [l6])).getD []) = .string N1 by rw [hN1]; rfl] at hmk
  have hN1s : N1.size ≤ 140737488351232 := by rw [hN1, baL_size]; have := makeL_len (X ++ [l6]); omega
  obtain ⟨A4, c4, rfl, hq1, hq2, hq3⟩ := hb4.slice
  have HB4 := Lib.hid hb4.below
  have HSL4 := Lib.hid hb4.sl
  have HMK := Lib.hid hmk
  have HL4 := Lib.hid (HLL.out.below hb4.below (Nat.le_refl _))
  generalize (makeL (X ++ [l6])).isSome = ok1 at HMK
  clear hb4 hmap hlen4 hmk hN1 hq3 hb3 HS6 HL6 hcell
  go_wp2_with (go_at_call 25; refine (HMK.out _ _ _ HSL4.out).mono ?_; rintro e w4 ⟨rfl, hb5⟩; refine Hid.out ?_)
  refine Lib.hid ?_
  have HB5 := Lib.hid (HB4.out.trans (hb5.mono HB4.out.size))
  have HA5 := Lib.hid ((HA.out.below HB5.out).more HB5.out.size)
  clear hb5
  go_wp2_with (go_at_call 26; refine (HNM.out _ HA5.out).mono ?_; rintro e w5 ⟨rfl, hb6⟩; refine Hid.out ?_)
  refine Lib.hid ?_
  have hB6 := HB5.out.trans (hb6.mono HB5.out.size)
  have HB6 := Lib.hid (hB6.alloc hB6.size (.cells #[.string N1, .string N2, .string raw] 27))
  have HSN := Lib.hid (Sl.fresh w5 #[.string N1, .string N2, .string raw] 27 3 _ rfl rfl)
  have HL6' := Lib.hid (HLL.out.below HB6.out (Nat.le_refl _))
  clear hb6 hB6 HB5 HA5 HB4 HSL4 HMK HL4 HNM HWD HA HA1 HL1 HB1 HB2 HAW
  go_upto_region 7 with fail
  generalize w5.alloc (.cells #[.string N1, .string N2, .string raw] 27) = W at HB6 HSN HL6' ⊢
  generalize w5.heap.size = P at HSN ⊢
  go_loopw [39] (fun v39 wr => ∃ k : Nat, k ≤ 3 ∧ v39 = .int .i64 k ∧ Hid (Below W.heap.size W wr)) (fun v39 _ => 3 - (intOf v39).toNat)
  case atStart => exact ⟨0, by omega, rfl, Lib.hid (Below.refl _ _)⟩
  case round =>
    obtain ⟨k, hk, rfl, HBR⟩ := hrel
    by_cases hk3 : k < 3
    · have hk3i : (k : Int) < 3 := by omega
      obtain ⟨Nk, hNk, hNs⟩ : ∃ N, ([Value.string N1, .string N2, .string raw] : List Value)[k]? = some (.string N) ∧ N.size ≤ 140737488351232 := by
        match k, hk3 with
        | 0, _ => exact ⟨N1, rfl, hN1s⟩
        | 1, _ => exact ⟨N2, rfl, hN2s⟩
        | 2, _ => exact ⟨raw, rfl, hraw⟩
      have hcl := (HSN.out.below HBR.out).cell k _ hNk
      rw [Nat.zero_add] at hcl
      obtain ⟨tk, TN, TA, tb, ok, NB, is, ha⟩ := asked Nk
      have hdc := fun w h => decode_any Nk w (by omega) h
      have hec := fun w h => encode_any tk TN TA tb w ha.small.1 ha.small.2 h
      rw [ha.dv] at hdc
      rw [ha.ev] at hec
      have hmy := fun w => may_any Nk w (by unfold maxLen; omega)
      have hLr := HL6'.out.below HBR.out (Nat.le_refl _)
      have HDC := Lib.hid hdc
      have HEC := Lib.hid hec
      have HLR := Lib.hid hLr
      have hyes := ha.yes
      have hno := ha.no
      have htn := fun w => trig_neq tk 0 TN ⟨#[]⟩ TA ⟨#[]⟩ tb 0 w
      have HYES := Lib.hid hyes
      have HNO := Lib.hid hno
      have HMY := Lib.hid hmy
      have HTN := Lib.hid htn
      clear hdc hec hmy hLr hyes hno ha hNk htn
      go_wp2_with (go_at_call 22; refine (HDC.out _ HLR.out).mono ?_; rintro e w7 ⟨rfl, hb7⟩; refine Hid.out ?_)
      refine Lib.hid ?_
      have hC7 := Cs.new w7 #[.int .i64 tk, .string TN, .string TA, .int .i64 tb] 29 [.int .i64 tk, .string TN, .string TA, .int .i64 tb]
      have hB7 := HBR.out.trans (hb7.mono HBR.out.size)
      have HB7 := Lib.hid (hB7.alloc hB7.size (.cells #[.int .i64 tk, .string TN, .string TA, .int .i64 tb] 29))
      have HL7 := Lib.hid (HL6'.out.below HB7.out (Nat.le_refl _))
      have HC7 := Lib.hid hC7
      clear hb7 hC7 hB7
      go_wp2_with (go_at_call 21; refine (HEC.out _ HL7.out).mono ?_; rintro e w8 ⟨rfl, hb8⟩; refine Hid.out ?_)
      refine Lib.hid ?_
      have hC8 := HC7.out.below hb8
      have k0 := hC8.get 0 (.int .i64 tk)
      have k1 := hC8.get 1 (.string TN)
      have k2 := hC8.get 2 (.string TA)
      have k3 := hC8.get 3 (.int .i64 tb)
      have HB8 := Lib.hid (HB7.out.trans (hb8.mono HB7.out.size))
      generalize w7.heap.size = P7 at k0 k1 k2 k3 ⊢
      clear hb8 hC8 HC7 HL7 HB7
      cases ok with
      | true =>
        obtain ⟨rfl, rfl, hms, hne⟩ := HYES.out rfl
        have hem : (NB.toList == []) = false := str_empty NB hne
        have hem2 := str_empty' NB hne
        have HMY2 := HMY.out
        rw [hms] at HMY2
        have HMY3 := Lib.hid HMY2
        clear HYES HNO HTN HMY HMY2 hms hne
        go_wp2_with (go_at_call 27; refine (HMY3.out _).mono ?_; rintro e w9 ⟨rfl, hb9⟩)
        go_roundw
        case rel => exact ⟨k + 1, by omega, by go_num, Lib.hid (HB8.out.trans (hb9.mono HB8.out.size))⟩
        case measure => simp [intOf]; omega
      | false =>
        obtain ⟨rfl, rfl, rfl, rfl⟩ := HNO.out rfl
        have htn := HTN.out
        rw [trigEq_iff, decide_eq_true rfl] at htn
        clear HYES HNO HTN
        go_wp2_with (go_at_call 27; refine (HMY.out _).mono ?_; rintro e w9 ⟨rfl, hb9⟩)
        all_goals exact ⟨⟨k + 1, by omega, by go_num, Lib.hid (HB8.out.trans (hb9.mono HB8.out.size))⟩, by simp [intOf]; omega⟩
    · obtain rfl : k = 3 := by omega
      have HBF := Lib.hid (HB6.out.trans (HBR.out.mono HB6.out.size))
      go_wp2_with fail
      go_ret
      exact ⟨rfl, HBF.out⟩
end Go.Proofs.YtodpaejakgjblaaDoor
namespace Go.Proofs.YtodpaejakgjblaaDoor
open Go.RowKit
set_option linter.unusedVariables false
set_option maxRecDepth 20000

def toE (T : Int) (C N : ByteArray) (ty z tk : Int) (TN TA : ByteArray) (tb ac : Int) : Ev := ⟨T, C.data.toList, N.data.toList, ty, z, toT tk TN TA tb, ac⟩
def evX (T : Int) (C N : ByteArray) (ty z tk : Int) (TN TA : ByteArray) (tb ac : Int) : List Value :=
  [.int .i64 T, .string C, .string N, .int .u16 ty, .int .i64 z, .int .i64 tk, .string TN, .string TA, .int .i64 tb, .int .i64 ac]

set_option maxHeartbeats 16000000 in
theorem evmay_any (T : Int) (C N : ByteArray) (ty z tk : Int) (TN TA : ByteArray) (tb ac : Int) (w : World) (hC : C.size ≤ 140737488355328) (hN : N.size ≤ 140737488355328) (hTN : TN.size ≤ 140737488355328) (hTA : TA.size ≤ 140737488355328) (hL : LaidT w) :
    Calls Tryd.prog 34 #[.agg #[.int .i64 T, .string C, .string N, .int .u16 ty, .int .i64 z, .int .i64 tk, .string TN, .string TA, .int .i64 tb, .int .i64 ac]] w fun e w' =>
      e = .returned (.bool (mayE (toE T C N ty z tk TN TA tb ac))) ∧ Below w.heap.size w w' := by
  have henc := fun w h => encode_any tk TN TA tb w hTN hTA h
  have hmy := fun w => may_any N w (by unfold maxLen; omega)
  have hme : mayE (toE T C N ty z tk TN TA tb ac) = ((encR (toT tk TN TA tb)).isSome && inE T 4294967295 && decide (C.size ≤ 16) && (labelsOf N).isSome && inE z 31 && inE ac 8) := by
    show (_ && _ && decide (C.data.toList.length ≤ 16) && _ && _ && _) = _
    rw [show C.data.toList.length = C.size by simp]; rfl
  have henc : ∀ w, LaidT w → Calls Tryd.prog 21 #[.agg #[.int .i64 tk, .string TN, .string TA, .int .i64 tb]] w fun e w' => (∃ NB, e = .returned (.tuple #[.string NB, .bool (encR (toT tk TN TA tb)).isSome])) ∧ Below w.heap.size w w' := by
    intro w h
    refine (henc w h).mono ?_
    rintro e w' ⟨rfl, hb⟩
    refine ⟨?_, hb⟩
    show ∃ NB, Ending.returned (encV (encR (toT tk TN TA tb))) = _
    cases encR (toT tk TN TA tb) with
    | none => exact ⟨_, rfl⟩
    | some x => exact ⟨_, rfl⟩
  rw [hme]
  generalize (encR (toT tk TN TA tb)).isSome = b0 at henc ⊢
  obtain ⟨b3, hb3⟩ : ∃ b, b = (labelsOf N).isSome := ⟨_, rfl⟩
  rw [← hb3] at hmy ⊢
  obtain ⟨b1, hb1⟩ : ∃ b, inE T 4294967295 = b := ⟨_, rfl⟩
  obtain ⟨b4, hb4⟩ : ∃ b, inE z 31 = b := ⟨_, rfl⟩
  obtain ⟨b5, hb5⟩ : ∃ b, inE ac 8 = b := ⟨_, rfl⟩
  rw [hb1, hb4, hb5]
  have HENC := Lib.hid henc
  have HMY := Lib.hid hmy
  have hC1 := Cs.new w #[.int .i64 T, .string C, .string N, .int .u16 ty, .int .i64 z, .int .i64 tk, .string TN, .string TA, .int .i64 tb, .int .i64 ac] 68 _
  have hB1 := (Below.refl w.heap.size w).alloc (Nat.le_refl _) (.cells #[.int .i64 T, .string C, .string N, .int .u16 ty, .int .i64 z, .int .i64 tk, .string TN, .string TA, .int .i64 tb, .int .i64 ac] 68)
  have HC1 := Lib.hid hC1
  have HB1 := Lib.hid hB1
  have HL1 := Lib.hid (hL.below hB1 (Nat.le_refl _))
  clear henc hmy hC1 hB1 hL hb3 hme hN hTN hTA
  go_enter Tryd.func34, Tryd.ntmps34
  go_upto_region 1 with fail
  generalize w.alloc (.cells #[.int .i64 T, .string C, .string N, .int .u16 ty, .int .i64 z, .int .i64 tk, .string TN, .string TA, .int .i64 tb, .int .i64 ac] 68) = W1 at HC1 HB1 HL1 ⊢
  have c5 := HC1.out.get 5 (.int .i64 tk)
  have c6 := HC1.out.get 6 (.string TN)
  have c7 := HC1.out.get 7 (.string TA)
  have c8 := HC1.out.get 8 (.int .i64 tb)
  go_wp2_with (go_at_call 21; refine (HENC.out _ HL1.out).mono ?_; rintro e w2 ⟨⟨NB, rfl⟩, hb2⟩; refine Hid.out ?_)
  refine Lib.hid ?_
  have HB2 := Lib.hid (HB1.out.trans (hb2.mono HB1.out.size))
  have HC2 := Lib.hid (HC1.out.below hb2)
  clear c5 c6 c7 c8 hb2 HC1 HB1 HL1 HENC
  have c0 := HC2.out.get 0 (.int .i64 T)
  have c1 := HC2.out.get 1 (.string C)
  have c2 := HC2.out.get 2 (.string N)
  cases b0 with
  | false =>
    go_wp2_with fail
    go_ret
    exact ⟨by simp, HB2.out⟩
  | true =>
  cases b1 with
  | false =>
    go_wp2_with (go_at_call 59; refine (evin_any _ _ _).mono ?_; rintro e w3 ⟨rfl, rfl⟩)
    go_ret
    exact ⟨by simp, HB2.out⟩
  | true =>
  by_cases hc : C.size ≤ 16
  · have hci : (C.size : Int) ≤ 16 := by omega
    cases b3 with
    | false =>
      go_wp2_with (first
        | (go_at_call 59; refine (evin_any _ _ _).mono ?_; rintro e w3 ⟨rfl, rfl⟩)
        | (go_at_call 27; refine (HMY.out _).mono ?_; rintro e w4 ⟨rfl, hq4⟩))
      go_ret
      exact ⟨by simp [hc], HB2.out.trans (hq4.mono HB2.out.size)⟩
    | true =>
      go_wp2_with (first
        | (go_at_call 59; refine (evin_any _ _ _).mono ?_; rintro e w3 ⟨rfl, rfl⟩)
        | (go_at_call 27; refine (HMY.out _).mono ?_; rintro e w4 ⟨rfl, hq4⟩; refine Hid.out ?_))
      refine Lib.hid ?_
      have hC4 := HC2.out.below hq4
      have HB4 := Lib.hid (HB2.out.trans (hq4.mono HB2.out.size))
      clear c0 c1 c2
      have c4 := hC4.get 4 (.int .i64 z)
      have c9 := hC4.get 9 (.int .i64 ac)
      clear hC4 hq4
      cases b4 with
      | false =>
        go_wp2_with (go_at_call 59; refine (evin_any _ _ _).mono ?_; rintro e w5 ⟨rfl, rfl⟩)
        go_ret
        exact ⟨by simp [hc], HB4.out⟩
      | true =>
        go_wp2_with (go_at_call 59; refine (evin_any _ _ _).mono ?_; rintro e w5 ⟨rfl, rfl⟩)
        go_ret
        exact ⟨by simp [hc], HB4.out⟩
  · have hci : ¬ ((C.size : Int) ≤ 16) := by omega
    go_wp2_with (go_at_call 59; refine (evin_any _ _ _).mono ?_; rintro e w3 ⟨rfl, rfl⟩)
    go_ret
    exact ⟨by simp, HB2.out⟩
end Go.Proofs.YtodpaejakgjblaaDoor
namespace Go.Proofs.YtodpaejakgjblaaDoor
open Go.RowKit
set_option linter.unusedVariables false
set_option maxRecDepth 20000

theorem slone32 (w : World) (n : Nat) (t : TypeId) : Sl (w.alloc (.cells #[.int .u32 n] t)) (w.alloc (.cells #[.int .u32 n] t)).heap.size 1 (some ⟨w.heap.size, 0, none⟩) 1 ([n].map v32) := Sl.fresh w _ _ 1 _ rfl rfl
theorem slone16 (w : World) (n : Nat) (t : TypeId) : Sl (w.alloc (.cells #[.int .u16 n] t)) (w.alloc (.cells #[.int .u16 n] t)).heap.size 1 (some ⟨w.heap.size, 0, none⟩) 1 ([n].map v16) := Sl.fresh w _ _ 1 _ rfl rfl

set_option maxHeartbeats 16000000 in
theorem evenc_any (T : Int) (C N : ByteArray) (ty z tk : Int) (TN TA : ByteArray) (tb ac : Int) (w : World) (hC : C.size ≤ 140737488355328) (hN : N.size ≤ 140737488355328) (hTN : TN.size ≤ 140737488355328) (hTA : TA.size ≤ 140737488355328) (hty : 0 ≤ ty ∧ ty < 65536) (hL : LaidT w) :
    Calls Tryd.prog 31 #[.agg #[.int .i64 T, .string C, .string N, .int .u16 ty, .int .i64 z, .int .i64 tk, .string TN, .string TA, .int .i64 tb, .int .i64 ac]] w fun e w' =>
      ∃ v, e = .returned (.tuple #[v, .bool (mayE (toE T C N ty z tk TN TA tb ac))]) ∧ (mayE (toE T C N ty z tk TN TA tb ac) = true → OB w.heap.size w v (evB (toE T C N ty z tk TN TA tb ac)).length ((evB (toE T C N ty z tk TN TA tb ac)).map bv) w') ∧
        (mayE (toE T C N ty z tk TN TA tb ac) = false → v = .slice none 0 0) ∧ Below w.heap.size w w' := by
  have hmay := fun w h => evmay_any T C N ty z tk TN TA tb ac w hC hN hTN hTA h
  have hC1 := Cs.new w #[.int .i64 T, .string C, .string N, .int .u16 ty, .int .i64 z, .int .i64 tk, .string TN, .string TA, .int .i64 tb, .int .i64 ac] 68 [.int .i64 T, .string C, .string N, .int .u16 ty, .int .i64 z, .int .i64 tk, .string TN, .string TA, .int .i64 tb, .int .i64 ac]
  have hB1 := (Below.refl w.heap.size w).alloc (Nat.le_refl _) (.cells #[.int .i64 T, .string C, .string N, .int .u16 ty, .int .i64 z, .int .i64 tk, .string TN, .string TA, .int .i64 tb, .int .i64 ac] 68)
  have HC1 := Lib.hid hC1
  have HB1 := Lib.hid hB1
  have HL1 := Lib.hid (hL.below hB1 (Nat.le_refl _))
  clear hC1 hB1 hL
  cases hm : mayE (toE T C N ty z tk TN TA tb ac) with
  | false =>
    rw [hm] at hmay
    have HMAY := Lib.hid hmay
    clear hmay hm hC hN hTN hTA hty
    go_enter Tryd.func31, Tryd.ntmps31
    go_upto_region 1 with fail
    generalize w.alloc (.cells #[.int .i64 T, .string C, .string N, .int .u16 ty, .int .i64 z, .int .i64 tk, .string TN, .string TA, .int .i64 tb, .int .i64 ac] 68) = W1 at HC1 HB1 HL1 ⊢
    have c0 := HC1.out.get 0 (.int .i64 T)
    have c1 := HC1.out.get 1 (.string C)
    have c2 := HC1.out.get 2 (.string N)
    have c3 := HC1.out.get 3 (.int .u16 ty)
    have c4 := HC1.out.get 4 (.int .i64 z)
    have c5 := HC1.out.get 5 (.int .i64 tk)
    have c6 := HC1.out.get 6 (.string TN)
    have c7 := HC1.out.get 7 (.string TA)
    have c8 := HC1.out.get 8 (.int .i64 tb)
    have c9 := HC1.out.get 9 (.int .i64 ac)
    go_wp2_with (go_at_call 34; refine (HMAY.out _ HL1.out).mono ?_; rintro e w2 ⟨rfl, hb2⟩)
    go_ret2
    refine ⟨.slice none 0 0, rfl, ?_, fun _ => rfl, HB1.out.trans (hb2.mono HB1.out.size)⟩
    intro h; cases h
  | true =>
    rw [hm] at hmay
    obtain ⟨⟨rel, hrel, hrl⟩, ⟨t0, t1⟩, hcl, ⟨ls, hls, hnl⟩, ⟨z0, z1⟩, ⟨a0, a1⟩⟩ := mayE_iff.1 hm
    have hcl : C.size ≤ 16 := by have h : C.data.toList.length ≤ 16 := hcl; simpa using h
    have hnl : N.size ≤ 254 := by have h : N.data.toList.length ≤ 254 := hnl; simpa using h
    have hrel : encR (toT tk TN TA tb) = some rel := hrel
    have t0 : 0 ≤ T := t0
    have t1 : T ≤ 4294967295 := t1
    have z0 : 0 ≤ z := z0
    have z1 : z ≤ 31 := z1
    have a0 : 0 ≤ ac := a0
    have a1 : ac ≤ 8 := a1
    obtain ⟨y0, y1⟩ := hty
    have hev : evB (toE T C N ty z tk TN TA tb ac) = b32 T.toNat ++ (lenB C.data.toList ++ (lenB N.data.toList ++ (b16 ty.toNat ++ (UInt8.ofNat z.toNat :: UInt8.ofNat ac.toNat :: lenB rel)))) := by
      show b32 T.toNat ++ (lenB C.data.toList ++ (lenB N.data.toList ++ (b16 ty.toNat ++ (UInt8.ofNat z.toNat :: UInt8.ofNat ac.toNat :: lenB ((encR (toT tk TN TA tb)).getD []))))) = _
      rw [hrel]; rfl
    rw [hev]
    obtain ⟨R, hR⟩ : ∃ R, R = baL rel := ⟨_, rfl⟩
    have hRd : R.data.toList = rel := by rw [hR]; simp [baL]
    have hRs : R.size ≤ 254 := by have : R.size = R.data.toList.length := by simp
                                  rw [hRd] at this; omega
    have henc : ∀ w, LaidT w → Calls Tryd.prog 21 #[.agg #[.int .i64 tk, .string TN, .string TA, .int .i64 tb]] w fun e w' => e = .returned (.tuple #[.string R, .bool true]) ∧ Below w.heap.size w w' := by
      intro w h
      have := encode_any tk TN TA tb w hTN hTA h
      rw [hrel] at this
      rw [hR]; exact this
    rw [← hRd]
    clear hev hls hrl hR hRd hrel hm hC hN hTN hTA
    obtain ⟨Tn, rfl⟩ := Int.eq_ofNat_of_zero_le t0
    obtain ⟨yn, rfl⟩ := Int.eq_ofNat_of_zero_le y0
    obtain ⟨zn, rfl⟩ := Int.eq_ofNat_of_zero_le z0
    obtain ⟨an, rfl⟩ := Int.eq_ofNat_of_zero_le a0
    simp only [Int.toNat_natCast]
    have wT : IntKind.u32.wrap (Tn : Int) = Tn := by rw [IntKind.wrap_u32]; omega
    have wz : IntKind.u8.wrap (zn : Int) = zn := by rw [IntKind.wrap_u8]; omega
    have wa : IntKind.u8.wrap (an : Int) = an := by rw [IntKind.wrap_u8]; omega
    have HMAY := Lib.hid hmay
    have HENC := Lib.hid henc
    clear hmay henc
    obtain ⟨i0, hi, hz0, hz1, hz2⟩ := info_parts num_info
    go_enter Tryd.func31, Tryd.ntmps31
    go_upto_region 1 with fail
    generalize w.alloc (.cells #[.int .i64 Tn, .string C, .string N, .int .u16 yn, .int .i64 zn, .int .i64 tk, .string TN, .string TA, .int .i64 tb, .int .i64 an] 68) = W1 at HC1 HB1 HL1 ⊢
    have c0 := HC1.out.get 0 (.int .i64 Tn)
    have c1 := HC1.out.get 1 (.string C)
    have c2 := HC1.out.get 2 (.string N)
    have c3 := HC1.out.get 3 (.int .u16 yn)
    have c4 := HC1.out.get 4 (.int .i64 zn)
    have c5 := HC1.out.get 5 (.int .i64 tk)
    have c6 := HC1.out.get 6 (.string TN)
    have c7 := HC1.out.get 7 (.string TA)
    have c8 := HC1.out.get 8 (.int .i64 tb)
    have c9 := HC1.out.get 9 (.int .i64 an)
    go_wp2_with (go_at_call 34; refine (HMAY.out _ HL1.out).mono ?_; rintro e w2 ⟨rfl, hb2⟩; refine Hid.out ?_)
    refine Lib.hid ?_
    have HB2 := Lib.hid (HB1.out.trans (hb2.mono HB1.out.size))
    have HC2 := Lib.hid (HC1.out.below hb2)
    have HL2 := Lib.hid (HL1.out.below hb2 (Nat.le_refl _))
    clear c0 c1 c2 c3 c4 c5 c6 c7 c8 c9 hb2 HC1 HB1 HL1 HMAY
    have c5 := HC2.out.get 5 (.int .i64 tk)
    have c6 := HC2.out.get 6 (.string TN)
    have c7 := HC2.out.get 7 (.string TA)
    have c8 := HC2.out.get 8 (.int .i64 tb)
    go_wp2_with (go_at_call 21; refine (HENC.out _ HL2.out).mono ?_; rintro e w3 ⟨rfl, hb3⟩; refine Hid.out ?_)
    refine Lib.hid ?_
    have HB3 := Lib.hid (HB2.out.trans (hb3.mono HB2.out.size))
    have HC3 := Lib.hid (HC2.out.below hb3)
    clear c5 c6 c7 c8 hb3 HC2 HB2 HL2 HENC
    have c0 := HC3.out.get 0 (.int .i64 Tn)
    have hb34 := (Below.refl w3.heap.size w3).alloc (Nat.le_refl _) (.cells #[.int .u32 Tn] 61)
    have HB4 := Lib.hid (HB3.out.trans (hb34.mono HB3.out.size))
    have HC4 := Lib.hid (HC3.out.below hb34)
    have hp32 := put32_any none 0 0 [] _ 1 1 [Tn] _ (Sl.nil _ _ _ _) (fun _ => ⟨rfl, rfl⟩) (slone32 w3 Tn 61) (by intro x hx; simp at hx; omega) (by omega)
    have HP32 := Lib.hid hp32
    clear hb34 hp32
    go_wp2_with (go_at_call 55; refine HP32.out.mono ?_; rintro e w5 ⟨g5, rfl, hown5, hb5⟩; refine Hid.out ?_)
    refine Lib.hid ?_
    have hob5 := OB.of_own hown5 hb5 hb5.size
    rw [show ([] ++ [Tn].flatMap b32) = b32 Tn by simp] at hob5
    generalize w3.alloc (.cells #[.int .u32 Tn] 61) = W4 at HC4 HB4 hob5
    have hc5 := HC4.out.below hob5.bel
    have c1 := hc5.get 1 (.string C)
    have hp1 := evput_any C hob5 (by omega) (by omega)
    have HP1 := Lib.hid hp1
    clear c0 hb5 hown5 HC3 HB3 HP32 hp1 hob5 hc5
    go_wp2_with (go_at_call 56; refine HP1.out.mono ?_; rintro e w6 ⟨v6, rfl, hob6⟩; refine Hid.out ?_)
    refine Lib.hid ?_
    rw [show 0 + 4 * 1 + (1 + C.size) = 5 + C.size by omega] at hob6
    have hc6 := HC4.out.below hob6.bel
    have c2 := hc6.get 2 (.string N)
    have hp2 := evput_any N hob6 (by omega) (by omega)
    have HP2 := Lib.hid hp2
    clear c1 HP1 hp2 hob6 hc6
    go_wp2_with (go_at_call 56; refine HP2.out.mono ?_; rintro e w7 ⟨v7, rfl, hob7⟩; refine Hid.out ?_)
    refine Lib.hid ?_
    rw [show 5 + C.size + (1 + N.size) = 6 + C.size + N.size by omega] at hob7
    have hc7 := HC4.out.below hob7.bel
    have c3 := hc7.get 3 (.int .u16 yn)
    obtain ⟨A7, d7, rfl, hx1, hx2, hx3⟩ := hob7.slice
    have hal := (Below.refl w7.heap.size w7).alloc (Nat.le_refl _) (.cells #[.int .u16 yn] 62)
    have hob8 := hob7.alloc (.cells #[.int .u16 yn] 62)
    have hp3 := put16_any A7 _ d7 _ _ 1 1 [yn] _ hob8.sl hx3 (slone16 w7 yn 62) (by intro x hx; simp at hx; omega) (by omega)
    have HP3 := Lib.hid hp3
    have HOB8 := Lib.hid hob8
    clear c2 HP2 hp3 hob7 hob8 hc7 hal hx3
    go_wp2_with (go_at_call 57; refine HP3.out.mono ?_; rintro e w9 ⟨g9, rfl, hown9, hb9⟩; refine Hid.out ?_)
    refine Lib.hid ?_
    have hob9 := (OB.of_own hown9 hb9 hb9.size).out HOB8.out.base HOB8.out.bel
    rw [show [yn].flatMap b16 = b16 yn by simp] at hob9
    have hc9 := HC4.out.below hob9.bel
    have c4 := hc9.get 4 (.int .i64 zn)
    have c9 := hc9.get 9 (.int .i64 an)
    clear c3 hown9 hb9 HP3 HOB8 hc9
    go_wp2_with (at_builtin; go_loud (refine wpList_append_ob rfl _ _ 22 22 rfl 5 i0 _ 1 Tryd.underlying22 hi hz0 hz1 hz2 rfl (hob9.alloc _) rfl rfl (src_byte2 w9 Tryd.underlying22 _ _ _) ?c1 ?c2 ?_))
    case c1 => unfold maxLen; omega
    case c2 => omega
    intro v10 w10 hob10 _ _ _
    have hl10 : ((b32 Tn ++ lenB C.data.toList ++ lenB N.data.toList ++ b16 yn).map bv ++ [.int .u8 (zn : Int), .int .u8 (an : Int)]) = (b32 Tn ++ lenB C.data.toList ++ lenB N.data.toList ++ b16 yn ++ [UInt8.ofNat zn, UInt8.ofNat an]).map bv := by
      rw [u8_of (by omega), u8_of (by omega)]; simp
    have hob10 : OB W4.heap.size W4 v10 (6 + C.size + N.size + 2 + 2) ((b32 Tn ++ lenB C.data.toList ++ lenB N.data.toList ++ b16 yn ++ [UInt8.ofNat zn, UInt8.ofNat an]).map bv) w10 := by
      have h := hob10
      rw [← hl10]
      simp only [List.map_append, List.append_assoc] at h ⊢
      exact h
    have hp4 := evput_any R hob10 (by omega) (by omega)
    have HP4 := Lib.hid hp4
    have HOB10 := Lib.hid hob10
    clear c4 c9 hob9 hp4 hob10 hl10
    go_wp2_with (go_at_call 56; refine HP4.out.mono ?_; rintro e w11 ⟨v11, rfl, hob11⟩)
    go_ret2
    have hfin := hob11.out HB4.out.size HB4.out
    refine ⟨v11, rfl, fun _ => ?_, (fun h => by cases h), hfin.bel⟩
    have e1 : b32 Tn ++ lenB C.data.toList ++ lenB N.data.toList ++ b16 yn ++ [UInt8.ofNat zn, UInt8.ofNat an] ++ lenB R.data.toList = b32 Tn ++ (lenB C.data.toList ++ (lenB N.data.toList ++ (b16 yn ++ (UInt8.ofNat zn :: UInt8.ofNat an :: lenB R.data.toList)))) := by simp
    rw [← e1]
    have e2 := hfin.len
    rw [List.length_map] at e2
    rw [e2]
    exact hfin
end Go.Proofs.YtodpaejakgjblaaDoor
namespace Go.Proofs.YtodpaejakgjblaaDoor
open Go.RowKit
set_option linter.unusedVariables false
set_option linter.unusedSimpArgs false
set_option maxRecDepth 20000

theorem Cs.all10 {w : World} {P : Nat} {a b c d e f g i j k : Value} (h : Cs w P [a, b, c, d, e, f, g, i, j, k]) (a' b' c' d' e' f' g' i' j' k' : Value) : Cs (World.setCell (World.setCell (World.setCell (World.setCell (World.setCell (World.setCell (World.setCell (World.setCell (World.setCell (World.setCell w ⟨P, 0, none⟩ a') ⟨P, 1, none⟩ b') ⟨P, 2, none⟩ c') ⟨P, 3, none⟩ d') ⟨P, 4, none⟩ e') ⟨P, 5, none⟩ f') ⟨P, 6, none⟩ g') ⟨P, 7, none⟩ i') ⟨P, 8, none⟩ j') ⟨P, 9, none⟩ k') P [a', b', c', d', e', f', g', i', j', k'] :=
  ((((((((((h.set' 0 a' (by simp)).set' 1 b' (by simp)).set' 2 c' (by simp)).set' 3 d' (by simp)).set' 4 e' (by simp)).set' 5 f' (by simp)).set' 6 g' (by simp)).set' 7 i' (by simp)).set' 8 j' (by simp)).set' 9 k' (by simp))
theorem below_all10 {w W : World} {P B : Nat} (h : Below B W w) (hP : B ≤ P) (a' b' c' d' e' f' g' i' j' k' : Value) : Below B W (World.setCell (World.setCell (World.setCell (World.setCell (World.setCell (World.setCell (World.setCell (World.setCell (World.setCell (World.setCell w ⟨P, 0, none⟩ a') ⟨P, 1, none⟩ b') ⟨P, 2, none⟩ c') ⟨P, 3, none⟩ d') ⟨P, 4, none⟩ e') ⟨P, 5, none⟩ f') ⟨P, 6, none⟩ g') ⟨P, 7, none⟩ i') ⟨P, 8, none⟩ j') ⟨P, 9, none⟩ k') :=
  ((((((((((h.setCell (p := ⟨P, 0, none⟩) hP a').setCell (p := ⟨P, 1, none⟩) hP b').setCell (p := ⟨P, 2, none⟩) hP c').setCell (p := ⟨P, 3, none⟩) hP d').setCell (p := ⟨P, 4, none⟩) hP e').setCell (p := ⟨P, 5, none⟩) hP f').setCell (p := ⟨P, 6, none⟩) hP g').setCell (p := ⟨P, 7, none⟩) hP i').setCell (p := ⟨P, 8, none⟩) hP j').setCell (p := ⟨P, 9, none⟩) hP k')
theorem trigA_parts (t : Trig) : ∃ tk TN TA tb, trigA t = .agg #[.int .i64 tk, .string TN, .string TA, .int .i64 tb] ∧ t = toT tk TN TA tb := ⟨t.kind, baL t.name, baL t.addr, t.bits, rfl, by simp [toT, baL]⟩
/-- What a cut gives. -/
inductive CutIs (X : ByteArray) : Value → Prop where
  | none (h : cutR X.data.toList = none) : CutIs X (.tuple #[.string ⟨#[]⟩, .string ⟨#[]⟩, .bool false])
  | some (L R : ByteArray) (h : cutR X.data.toList = some (L.data.toList, R.data.toList)) (hL : L.size ≤ 255) (hR : R.size ≤ X.size) : CutIs X (.tuple #[.string L, .string R, .bool true])
theorem cutIs (X : ByteArray) : CutIs X (cutV (cutR X.data.toList)) := by
  cases h : cutR X.data.toList with
  | none => exact .none h
  | some lr =>
    obtain ⟨l, r⟩ := lr
    obtain ⟨e1, e2⟩ := cutR_some h
    have e3 : X.size = (lenB l ++ r).length := by rw [← e1]; simp
    rw [List.length_append, lenB_length] at e3
    refine CutIs.some (baL l) (baL r) ?_ ?_ ?_
    · rw [h]; simp [baL]
    · rw [baL_size]; omega
    · rw [baL_size]; omega
theorem cut_any' (X : ByteArray) (w : World) (hs : X.size ≤ 140737488355328) :
    Calls Tryd.prog 74 #[.string X] w fun e w' => ∃ v, e = .returned v ∧ CutIs X v ∧ ∃ k, w' = w.drewN k := (evcut_any X w hs).mono (by rintro e w' ⟨rfl, h⟩; exact ⟨_, rfl, cutIs X, h⟩)
theorem extract_drop (s : ByteArray) (h : 4 ≤ s.size) : (s.extract 4 s.size).data.toList = s.data.toList.drop 4 ∧ (s.extract 4 s.size).size = s.size - 4 := by
  have h1 := ba_extract s 4 s.size
  have h2 : (s.extract 4 s.size).data.toList = s.data.toList.extract 4 s.size := by
    have h3 : s.extract 4 s.size = baL (s.data.toList.extract 4 s.size) := by injection h1
    rw [h3]; simp [baL]
  have h4 : (s.extract 4 s.size).data.toList = s.data.toList.drop 4 := by
    rw [h2, List.extract_eq_take_drop, List.take_of_length_le (by simp)]
  refine ⟨h4, ?_⟩
  have : (s.extract 4 s.size).size = (s.extract 4 s.size).data.toList.length := by simp
  rw [this, h4]; simp
theorem num32_eq (s : ByteArray) : n32 s 0 = num32 s.data.toList := rfl
theorem num16_eq (s : ByteArray) : n16 s 0 = num16 s.data.toList := rfl
/-- What is read of bytes. -/
def ReadIs (s : ByteArray) (v : Value) : Prop := ∃ (T : Int) (C N : ByteArray) (ty z tk : Int) (TN TA : ByteArray) (tb ac : Int) (ok : Bool), v = .tuple #[.agg #[.int .i64 T, .string C, .string N, .int .u16 ty, .int .i64 z, .int .i64 tk, .string TN, .string TA, .int .i64 tb, .int .i64 ac], .bool ok] ∧
  (ok = true → readR s.data.toList = some (toE T C N ty z tk TN TA tb ac) ∧ C.size ≤ 255 ∧ N.size ≤ 255 ∧ TN.size ≤ 254 ∧ TA.size ≤ 16 ∧ 0 ≤ ty ∧ ty < 65536) ∧ (ok = false → readR s.data.toList = none)
theorem readIs_none {s : ByteArray} (h : readR s.data.toList = none) : ReadIs s (.tuple #[.agg #[.int .i64 0, .string ⟨#[]⟩, .string ⟨#[]⟩, .int .u16 0, .int .i64 0, .int .i64 0, .string ⟨#[]⟩, .string ⟨#[]⟩, .int .i64 0, .int .i64 0], .bool false]) :=
  ⟨0, ⟨#[]⟩, ⟨#[]⟩, 0, 0, 0, ⟨#[]⟩, ⟨#[]⟩, 0, 0, false, rfl, (fun h => by cases h), fun _ => h⟩

set_option maxHeartbeats 16000000 in
theorem evread_any (s : ByteArray) (w : World) (hs : s.size ≤ 140737488355328) (hL : LaidT w) :
    Calls Tryd.prog 58 #[.string s] w fun e w' => ∃ v, e = .returned v ∧ ReadIs s v ∧ Below w.heap.size w w' := by
  have hcs := Cs.new w #[.int .i64 0, .string ⟨#[]⟩, .string ⟨#[]⟩, .int .u16 0, .int .i64 0, .int .i64 0, .string ⟨#[]⟩, .string ⟨#[]⟩, .int .i64 0, .int .i64 0] 68 [.int .i64 0, .string ⟨#[]⟩, .string ⟨#[]⟩, .int .u16 0, .int .i64 0, .int .i64 0, .string ⟨#[]⟩, .string ⟨#[]⟩, .int .i64 0, .int .i64 0]
  have hbel0 := (Below.refl w.heap.size w).alloc (Nat.le_refl _) (.cells #[.int .i64 0, .string ⟨#[]⟩, .string ⟨#[]⟩, .int .u16 0, .int .i64 0, .int .i64 0, .string ⟨#[]⟩, .string ⟨#[]⟩, .int .i64 0, .int .i64 0] 68)
  have HCS := Lib.hid hcs
  have HB0 := Lib.hid hbel0
  have HL0 := Lib.hid (hL.below hbel0 (Nat.le_refl _))
  clear hcs hbel0 hL
  have hslen : s.data.toList.length = s.size := by simp
  by_cases h4 : s.size < 4
  · have hr : readR s.data.toList = none := by unfold readR; rw [hslen, if_pos h4]
    have HG := Lib.hid (fun w => get32_no s 0 w (by unfold maxLen; omega) (.inr (by omega)))
    have HRD := Lib.hid (readIs_none hr)
    clear hr hslen
    have k0 := HCS.out.get 0 (.int .i64 0)
    have k1 := HCS.out.get 1 (.string ⟨#[]⟩)
    have k2 := HCS.out.get 2 (.string ⟨#[]⟩)
    have k3 := HCS.out.get 3 (.int .u16 0)
    have k4 := HCS.out.get 4 (.int .i64 0)
    have k5 := HCS.out.get 5 (.int .i64 0)
    have k6 := HCS.out.get 6 (.string ⟨#[]⟩)
    have k7 := HCS.out.get 7 (.string ⟨#[]⟩)
    have k8 := HCS.out.get 8 (.int .i64 0)
    have k9 := HCS.out.get 9 (.int .i64 0)
    have z0 := HCS.out.froz 0
    have z1 := HCS.out.froz 1
    have z2 := HCS.out.froz 2
    have z3 := HCS.out.froz 3
    have z4 := HCS.out.froz 4
    have z5 := HCS.out.froz 5
    have z6 := HCS.out.froz 6
    have z7 := HCS.out.froz 7
    have z8 := HCS.out.froz 8
    have z9 := HCS.out.froz 9
    go_enter Tryd.func58, Tryd.ntmps58
    go_wp2_with (go_at_call 73; refine (HG.out _).mono ?_; rintro e w1 ⟨rfl, rfl⟩)
    go_wp2_with fail
    exact bodyPost_ret (v := .tuple #[.agg #[.int .i64 0, .string ⟨#[]⟩, .string ⟨#[]⟩, .int .u16 0, .int .i64 0, .int .i64 0, .string ⟨#[]⟩, .string ⟨#[]⟩, .int .i64 0, .int .i64 0], .bool false]) (by simp [results, Tryd.results58, go_sem]) rfl ⟨_, rfl, HRD.out, HB0.out⟩
  · have h4i : (4 : Int) ≤ s.size := by omega
    have h4j : ¬ ((s.size : Int) < 4) := by omega
    obtain ⟨S1, hS1⟩ : ∃ S, S = s.extract 4 s.size := ⟨_, rfl⟩
    have hS1d : S1.data.toList = s.data.toList.drop 4 := by rw [hS1]; exact (extract_drop s (by omega)).1
    have hS1s : S1.size ≤ s.size := by rw [hS1, (extract_drop s (by omega)).2]; omega
    have hr : readR s.data.toList = match cutR S1.data.toList with | none => none | some (client, s1) => (match cutR s1 with | none => none | some (name, s2) => readC s.data.toList (num32 s.data.toList) client name s2) := by
      unfold readR; rw [hslen, if_neg h4, hS1d]; rfl
    have HG := Lib.hid (fun w => get32_yes s 0 w (by unfold maxLen; omega) (by omega))
    obtain ⟨Tm, hTm⟩ : ∃ T, T = n32 s 0 := ⟨_, rfl⟩
    have hTlt : Tm < 4294967296 := by rw [hTm, n32]; have := at8_lt s 0; have := at8_lt s (0 + 1); have := at8_lt s (0 + 2); have := at8_lt s (0 + 3); omega
    have hTe : num32 s.data.toList = Tm := by rw [hTm]; rfl
    rw [hTe] at hr
    rw [← hTm] at HG
    have wT : IntKind.i64.wrap (Tm : Int) = Tm := IntWalk.i64_in _ (by omega)
    have HCUT1 := Lib.hid (fun w => cut_any' S1 w (by omega))
    have HR := Lib.hid hr
    have hs8 : S1.size ≤ 140737488355328 := by omega
    clear hr hslen hS1d hS1s hTm hTe
    go_enter Tryd.func58, Tryd.ntmps58
    go_wp2_with (go_at_call 73; refine (HG.out _).mono ?_; rintro e w1 ⟨rfl, n1, rfl⟩; refine Hid.out ?_)
    refine Lib.hid ?_
    have HB1 := Lib.hid (HB0.out.trans ((drewN_below _ n1).mono HB0.out.size))
    have HC1 := Lib.hid (HCS.out.drewN n1)
    have HL1 := Lib.hid (HL0.out.below (drewN_below _ n1) (Nat.le_refl _))
    generalize (World.alloc w (.cells #[.int .i64 0, .string ⟨#[]⟩, .string ⟨#[]⟩, .int .u16 0, .int .i64 0, .int .i64 0, .string ⟨#[]⟩, .string ⟨#[]⟩, .int .i64 0, .int .i64 0] 68)).drewN n1 = W1 at HB1 HC1 HL1 ⊢
    clear HG HCS HB0 HL0
    go_wp2_with (go_at_call 74; rw [← hS1]; refine (HCUT1.out _).mono ?_; rintro e w2 ⟨v2, rfl, hcut, n2, rfl⟩; refine Hid.out ?_)
    refine Lib.hid ?_
    have HB2 := Lib.hid (HB1.out.trans ((drewN_below _ n2).mono HB1.out.size))
    have HC2 := Lib.hid (HC1.out.drewN n2)
    have HL2 := Lib.hid (HL1.out.below (drewN_below _ n2) (Nat.le_refl _))
    generalize W1.drewN n2 = W2 at HB2 HC2 HL2 ⊢
    clear HB1 HC1 HL1 HCUT1 h4 h4i h4j hS1
    rcases hcut with hcut | ⟨C, S2, hcut, hC, hS2⟩
    · have hr := HR.out
      rw [hcut] at hr
      have HRD := Lib.hid (readIs_none hr)
      clear hr HR hcut
      have k0 := HC2.out.get 0 (.int .i64 0)
      have k1 := HC2.out.get 1 (.string ⟨#[]⟩)
      have k2 := HC2.out.get 2 (.string ⟨#[]⟩)
      have k3 := HC2.out.get 3 (.int .u16 0)
      have k4 := HC2.out.get 4 (.int .i64 0)
      have k5 := HC2.out.get 5 (.int .i64 0)
      have k6 := HC2.out.get 6 (.string ⟨#[]⟩)
      have k7 := HC2.out.get 7 (.string ⟨#[]⟩)
      have k8 := HC2.out.get 8 (.int .i64 0)
      have k9 := HC2.out.get 9 (.int .i64 0)
      have z0 := HC2.out.froz 0
      have z1 := HC2.out.froz 1
      have z2 := HC2.out.froz 2
      have z3 := HC2.out.froz 3
      have z4 := HC2.out.froz 4
      have z5 := HC2.out.froz 5
      have z6 := HC2.out.froz 6
      have z7 := HC2.out.froz 7
      have z8 := HC2.out.froz 8
      have z9 := HC2.out.froz 9
      go_wp2_with fail
      refine bodyPost_ret (v := .tuple #[.agg #[.int .i64 0, .string ⟨#[]⟩, .string ⟨#[]⟩, .int .u16 0, .int .i64 0, .int .i64 0, .string ⟨#[]⟩, .string ⟨#[]⟩, .int .i64 0, .int .i64 0], .bool false]) ?_ rfl ?_
      · have hfin := Cs.all10 HC2.out (.int .i64 0) (.string ⟨#[]⟩) (.string ⟨#[]⟩) (.int .u16 0) (.int .i64 0) (.int .i64 0) (.string ⟨#[]⟩) (.string ⟨#[]⟩) (.int .i64 0) (.int .i64 0)
        have g0 := hfin.get 0 (.int .i64 0)
        have g1 := hfin.get 1 (.string ⟨#[]⟩)
        have g2 := hfin.get 2 (.string ⟨#[]⟩)
        have g3 := hfin.get 3 (.int .u16 0)
        have g4 := hfin.get 4 (.int .i64 0)
        have g5 := hfin.get 5 (.int .i64 0)
        have g6 := hfin.get 6 (.string ⟨#[]⟩)
        have g7 := hfin.get 7 (.string ⟨#[]⟩)
        have g8 := hfin.get 8 (.int .i64 0)
        have g9 := hfin.get 9 (.int .i64 0)
        generalize (World.setCell (World.setCell (World.setCell (World.setCell (World.setCell (World.setCell (World.setCell (World.setCell (World.setCell (World.setCell W2 ⟨w.heap.size, 0, none⟩ (.int .i64 0)) ⟨w.heap.size, 1, none⟩ (.string ⟨#[]⟩)) ⟨w.heap.size, 2, none⟩ (.string ⟨#[]⟩)) ⟨w.heap.size, 3, none⟩ (.int .u16 0)) ⟨w.heap.size, 4, none⟩ (.int .i64 0)) ⟨w.heap.size, 5, none⟩ (.int .i64 0)) ⟨w.heap.size, 6, none⟩ (.string ⟨#[]⟩)) ⟨w.heap.size, 7, none⟩ (.string ⟨#[]⟩)) ⟨w.heap.size, 8, none⟩ (.int .i64 0)) ⟨w.heap.size, 9, none⟩ (.int .i64 0)) = WF at g0 g1 g2 g3 g4 g5 g6 g7 g8 g9 ⊢
        simp [results, Tryd.results58, go_sem, g0, g1, g2, g3, g4, g5, g6, g7, g8, g9]
      · have hbel := below_all10 HB2.out (Nat.le_refl _) (.int .i64 0) (.string ⟨#[]⟩) (.string ⟨#[]⟩) (.int .u16 0) (.int .i64 0) (.int .i64 0) (.string ⟨#[]⟩) (.string ⟨#[]⟩) (.int .i64 0) (.int .i64 0)
        exact ⟨_, rfl, HRD.out, hbel⟩
    · have hr := HR.out
      rw [hcut] at hr
      have hr : readR s.data.toList = match cutR S2.data.toList with | none => none | some (name, s2) => readC s.data.toList Tm C.data.toList name s2 := hr
      have hs9 : S2.size ≤ 140737488355328 := by omega
      have HCUT2 := Lib.hid (fun w => cut_any' S2 w hs9)
      clear HR hcut hS2 hs8
      have HR := Lib.hid hr
      clear hr
      go_wp2_with (go_at_call 74; refine (HCUT2.out _).mono ?_; rintro e w3 ⟨v3, rfl, hcut, n3, rfl⟩; refine Hid.out ?_)
      refine Lib.hid ?_
      have HB3 := Lib.hid (HB2.out.trans ((drewN_below _ n3).mono HB2.out.size))
      have HC3 := Lib.hid (HC2.out.drewN n3)
      have HL3 := Lib.hid (HL2.out.below (drewN_below _ n3) (Nat.le_refl _))
      generalize W2.drewN n3 = W3 at HB3 HC3 HL3 ⊢
      clear HB2 HC2 HL2 HCUT2
      rcases hcut with hcut | ⟨N, S3, hcut, hN, hS3⟩
      · have hr := HR.out
        rw [hcut] at hr
        have HRD := Lib.hid (readIs_none hr)
        clear hr HR hcut
        have k0 := HC3.out.get 0 (.int .i64 0)
        have k1 := HC3.out.get 1 (.string ⟨#[]⟩)
        have k2 := HC3.out.get 2 (.string ⟨#[]⟩)
        have k3 := HC3.out.get 3 (.int .u16 0)
        have k4 := HC3.out.get 4 (.int .i64 0)
        have k5 := HC3.out.get 5 (.int .i64 0)
        have k6 := HC3.out.get 6 (.string ⟨#[]⟩)
        have k7 := HC3.out.get 7 (.string ⟨#[]⟩)
        have k8 := HC3.out.get 8 (.int .i64 0)
        have k9 := HC3.out.get 9 (.int .i64 0)
        have z0 := HC3.out.froz 0
        have z1 := HC3.out.froz 1
        have z2 := HC3.out.froz 2
        have z3 := HC3.out.froz 3
        have z4 := HC3.out.froz 4
        have z5 := HC3.out.froz 5
        have z6 := HC3.out.froz 6
        have z7 := HC3.out.froz 7
        have z8 := HC3.out.froz 8
        have z9 := HC3.out.froz 9
        go_wp2_with fail
        refine bodyPost_ret (v := .tuple #[.agg #[.int .i64 0, .string ⟨#[]⟩, .string ⟨#[]⟩, .int .u16 0, .int .i64 0, .int .i64 0, .string ⟨#[]⟩, .string ⟨#[]⟩, .int .i64 0, .int .i64 0], .bool false]) ?_ rfl ?_
        · have hfin := Cs.all10 HC3.out (.int .i64 0) (.string ⟨#[]⟩) (.string ⟨#[]⟩) (.int .u16 0) (.int .i64 0) (.int .i64 0) (.string ⟨#[]⟩) (.string ⟨#[]⟩) (.int .i64 0) (.int .i64 0)
          have g0 := hfin.get 0 (.int .i64 0)
          have g1 := hfin.get 1 (.string ⟨#[]⟩)
          have g2 := hfin.get 2 (.string ⟨#[]⟩)
          have g3 := hfin.get 3 (.int .u16 0)
          have g4 := hfin.get 4 (.int .i64 0)
          have g5 := hfin.get 5 (.int .i64 0)
          have g6 := hfin.get 6 (.string ⟨#[]⟩)
          have g7 := hfin.get 7 (.string ⟨#[]⟩)
          have g8 := hfin.get 8 (.int .i64 0)
          have g9 := hfin.get 9 (.int .i64 0)
          generalize (World.setCell (World.setCell (World.setCell (World.setCell (World.setCell (World.setCell (World.setCell (World.setCell (World.setCell (World.setCell W3 ⟨w.heap.size, 0, none⟩ (.int .i64 0)) ⟨w.heap.size, 1, none⟩ (.string ⟨#[]⟩)) ⟨w.heap.size, 2, none⟩ (.string ⟨#[]⟩)) ⟨w.heap.size, 3, none⟩ (.int .u16 0)) ⟨w.heap.size, 4, none⟩ (.int .i64 0)) ⟨w.heap.size, 5, none⟩ (.int .i64 0)) ⟨w.heap.size, 6, none⟩ (.string ⟨#[]⟩)) ⟨w.heap.size, 7, none⟩ (.string ⟨#[]⟩)) ⟨w.heap.size, 8, none⟩ (.int .i64 0)) ⟨w.heap.size, 9, none⟩ (.int .i64 0)) = WF at g0 g1 g2 g3 g4 g5 g6 g7 g8 g9 ⊢
          simp [results, Tryd.results58, go_sem, g0, g1, g2, g3, g4, g5, g6, g7, g8, g9]
        · have hbel := below_all10 HB3.out (Nat.le_refl _) (.int .i64 0) (.string ⟨#[]⟩) (.string ⟨#[]⟩) (.int .u16 0) (.int .i64 0) (.int .i64 0) (.string ⟨#[]⟩) (.string ⟨#[]⟩) (.int .i64 0) (.int .i64 0)
          exact ⟨_, rfl, HRD.out, hbel⟩
      · have hr := HR.out
        rw [hcut] at hr
        have hr : readR s.data.toList = readC s.data.toList Tm C.data.toList N.data.toList S3.data.toList := hr
        have hs10 : S3.size ≤ 140737488355328 := by omega
        have hS3l : S3.data.toList.length = S3.size := by simp
        clear HR hcut hS3 hs9
        by_cases h4 : S3.size < 4
        · have h4i : (S3.size : Int) < 4 := by omega
          have HRD := Lib.hid (readIs_none (s := s) (by rw [hr]; unfold readC; rw [hS3l, if_pos h4]))
          clear hr hS3l
          have k0 := HC3.out.get 0 (.int .i64 0)
          have k1 := HC3.out.get 1 (.string ⟨#[]⟩)
          have k2 := HC3.out.get 2 (.string ⟨#[]⟩)
          have k3 := HC3.out.get 3 (.int .u16 0)
          have k4 := HC3.out.get 4 (.int .i64 0)
          have k5 := HC3.out.get 5 (.int .i64 0)
          have k6 := HC3.out.get 6 (.string ⟨#[]⟩)
          have k7 := HC3.out.get 7 (.string ⟨#[]⟩)
          have k8 := HC3.out.get 8 (.int .i64 0)
          have k9 := HC3.out.get 9 (.int .i64 0)
          have z0 := HC3.out.froz 0
          have z1 := HC3.out.froz 1
          have z2 := HC3.out.froz 2
          have z3 := HC3.out.froz 3
          have z4 := HC3.out.froz 4
          have z5 := HC3.out.froz 5
          have z6 := HC3.out.froz 6
          have z7 := HC3.out.froz 7
          have z8 := HC3.out.froz 8
          have z9 := HC3.out.froz 9
          go_wp2_with fail
          refine bodyPost_ret (v := .tuple #[.agg #[.int .i64 0, .string ⟨#[]⟩, .string ⟨#[]⟩, .int .u16 0, .int .i64 0, .int .i64 0, .string ⟨#[]⟩, .string ⟨#[]⟩, .int .i64 0, .int .i64 0], .bool false]) ?_ rfl ?_
          · have hfin := Cs.all10 HC3.out (.int .i64 0) (.string ⟨#[]⟩) (.string ⟨#[]⟩) (.int .u16 0) (.int .i64 0) (.int .i64 0) (.string ⟨#[]⟩) (.string ⟨#[]⟩) (.int .i64 0) (.int .i64 0)
            have g0 := hfin.get 0 (.int .i64 0)
            have g1 := hfin.get 1 (.string ⟨#[]⟩)
            have g2 := hfin.get 2 (.string ⟨#[]⟩)
            have g3 := hfin.get 3 (.int .u16 0)
            have g4 := hfin.get 4 (.int .i64 0)
            have g5 := hfin.get 5 (.int .i64 0)
            have g6 := hfin.get 6 (.string ⟨#[]⟩)
            have g7 := hfin.get 7 (.string ⟨#[]⟩)
            have g8 := hfin.get 8 (.int .i64 0)
            have g9 := hfin.get 9 (.int .i64 0)
            generalize (World.setCell (World.setCell (World.setCell (World.setCell (World.setCell (World.setCell (World.setCell (World.setCell (World.setCell (World.setCell W3 ⟨w.heap.size, 0, none⟩ (.int .i64 0)) ⟨w.heap.size, 1, none⟩ (.string ⟨#[]⟩)) ⟨w.heap.size, 2, none⟩ (.string ⟨#[]⟩)) ⟨w.heap.size, 3, none⟩ (.int .u16 0)) ⟨w.heap.size, 4, none⟩ (.int .i64 0)) ⟨w.heap.size, 5, none⟩ (.int .i64 0)) ⟨w.heap.size, 6, none⟩ (.string ⟨#[]⟩)) ⟨w.heap.size, 7, none⟩ (.string ⟨#[]⟩)) ⟨w.heap.size, 8, none⟩ (.int .i64 0)) ⟨w.heap.size, 9, none⟩ (.int .i64 0)) = WF at g0 g1 g2 g3 g4 g5 g6 g7 g8 g9 ⊢
            simp [results, Tryd.results58, go_sem, g0, g1, g2, g3, g4, g5, g6, g7, g8, g9]
          · have hbel := below_all10 HB3.out (Nat.le_refl _) (.int .i64 0) (.string ⟨#[]⟩) (.string ⟨#[]⟩) (.int .u16 0) (.int .i64 0) (.int .i64 0) (.string ⟨#[]⟩) (.string ⟨#[]⟩) (.int .i64 0) (.int .i64 0)
            exact ⟨_, rfl, HRD.out, hbel⟩
        · have h4i : (4 : Int) ≤ S3.size := by omega
          have h4j : ¬ ((S3.size : Int) < 4) := by omega
          obtain ⟨S4, hS4⟩ : ∃ S, S = S3.extract 4 S3.size := ⟨_, rfl⟩
          have hS4d : S4.data.toList = S3.data.toList.drop 4 := by rw [hS4]; exact (extract_drop S3 (by omega)).1
          have hS4s : S4.size ≤ S3.size := by rw [hS4, (extract_drop S3 (by omega)).2]; omega
          obtain ⟨y2, hy2⟩ : ∃ y, y = at8 S3 2 := ⟨_, rfl⟩
          obtain ⟨y3, hy3⟩ : ∃ y, y = at8 S3 3 := ⟨_, rfl⟩
          have hy2l : y2 < 256 := by rw [hy2]; exact at8_lt _ _
          have hy3l : y3 < 256 := by rw [hy3]; exact at8_lt _ _
          have hr : readR s.data.toList = match cutR S4.data.toList with | none => none | some (own, s3) => if s3 ≠ [] then none else match decR own with | none => none | some t => some ⟨Tm, C.data.toList, N.data.toList, num16 S3.data.toList, y2, t, y3⟩ := by
            rw [hr, hy2, hy3]; unfold readC; rw [hS3l, if_neg h4, hS4d]; rfl
          have HG2 := Lib.hid (fun w => get16_yes S3 0 w (by unfold maxLen; omega) (by omega))
          have q2 : (S3[2].toNat : Int) = y2 := by rw [hy2, at8_eq S3 2 (by omega)]
          have q3 : (S3[3].toNat : Int) = y3 := by rw [hy3, at8_eq S3 3 (by omega)]
          have w2 : IntKind.i64.wrap (y2 : Int) = y2 := IntWalk.i64_in _ (by omega)
          have w3 : IntKind.i64.wrap (y3 : Int) = y3 := IntWalk.i64_in _ (by omega)
          have i2 : (2 : Int) < S3.size := by omega
          have i3 : (3 : Int) < S3.size := by omega
          obtain ⟨ty, hty⟩ : ∃ T, T = n16 S3 0 := ⟨_, rfl⟩
          have htylt : ty < 65536 := by rw [hty, n16]; have := at8_lt S3 0; have := at8_lt S3 (0 + 1); omega
          have htye : num16 S3.data.toList = ty := by rw [hty]; rfl
          rw [htye] at hr
          rw [← hty] at HG2
          have HCUT3 := Lib.hid (fun w => cut_any' S4 w (by omega))
          have HR := Lib.hid hr
          have hs11 : S4.size ≤ 140737488355328 := by omega
          clear hr hS4d hS4s hy2 hy3 hty htye
          go_wp2_with (go_at_call 75; refine (HG2.out _).mono ?_; rintro e w4 ⟨rfl, n4, rfl⟩; refine Hid.out ?_)
          refine Lib.hid ?_
          have HB4 := Lib.hid (HB3.out.trans ((drewN_below _ n4).mono HB3.out.size))
          have HC4 := Lib.hid (HC3.out.drewN n4)
          have HL4 := Lib.hid (HL3.out.below (drewN_below _ n4) (Nat.le_refl _))
          generalize W3.drewN n4 = W4 at HB4 HC4 HL4 ⊢
          clear HG2 HB3 HC3 HL3
          go_upto_region 11 with fail
          go_quiet (fail)
          have HB5 := Lib.hid (HB4.out.trans ((drewN_below _ nq).mono HB4.out.size))
          have HC5 := Lib.hid (HC4.out.drewN nq)
          have HL5 := Lib.hid (HL4.out.below (drewN_below _ nq) (Nat.le_refl _))
          generalize W4.drewN nq = W5 at HB5 HC5 HL5 ⊢
          clear HB4 HC4 HL4
          go_wp2_with (go_at_call 74; rw [← hS4]; refine (HCUT3.out _).mono ?_; rintro e w6 ⟨v6, rfl, hcut, n6, rfl⟩; refine Hid.out ?_)
          refine Lib.hid ?_
          have HB6 := Lib.hid (HB5.out.trans ((drewN_below _ n6).mono HB5.out.size))
          have HC6 := Lib.hid (HC5.out.drewN n6)
          have HL6 := Lib.hid (HL5.out.below (drewN_below _ n6) (Nat.le_refl _))
          generalize W5.drewN n6 = W6 at HB6 HC6 HL6 ⊢
          clear HB5 HC5 HL5 HCUT3 hS4
          rcases hcut with hcut | ⟨O, S5, hcut, hO, hS5⟩
          · have hr := HR.out
            rw [hcut] at hr
            have HRD := Lib.hid (readIs_none hr)
            clear hr HR hcut
            have k0 := HC6.out.get 0 (.int .i64 0)
            have k1 := HC6.out.get 1 (.string ⟨#[]⟩)
            have k2 := HC6.out.get 2 (.string ⟨#[]⟩)
            have k3 := HC6.out.get 3 (.int .u16 0)
            have k4 := HC6.out.get 4 (.int .i64 0)
            have k5 := HC6.out.get 5 (.int .i64 0)
            have k6 := HC6.out.get 6 (.string ⟨#[]⟩)
            have k7 := HC6.out.get 7 (.string ⟨#[]⟩)
            have k8 := HC6.out.get 8 (.int .i64 0)
            have k9 := HC6.out.get 9 (.int .i64 0)
            have z0 := HC6.out.froz 0
            have z1 := HC6.out.froz 1
            have z2 := HC6.out.froz 2
            have z3 := HC6.out.froz 3
            have z4 := HC6.out.froz 4
            have z5 := HC6.out.froz 5
            have z6 := HC6.out.froz 6
            have z7 := HC6.out.froz 7
            have z8 := HC6.out.froz 8
            have z9 := HC6.out.froz 9
            go_wp2_with fail
            refine bodyPost_ret (v := .tuple #[.agg #[.int .i64 0, .string ⟨#[]⟩, .string ⟨#[]⟩, .int .u16 0, .int .i64 0, .int .i64 0, .string ⟨#[]⟩, .string ⟨#[]⟩, .int .i64 0, .int .i64 0], .bool false]) ?_ rfl ?_
            · have hfin := Cs.all10 HC6.out (.int .i64 0) (.string ⟨#[]⟩) (.string ⟨#[]⟩) (.int .u16 0) (.int .i64 0) (.int .i64 0) (.string ⟨#[]⟩) (.string ⟨#[]⟩) (.int .i64 0) (.int .i64 0)
              have g0 := hfin.get 0 (.int .i64 0)
              have g1 := hfin.get 1 (.string ⟨#[]⟩)
              have g2 := hfin.get 2 (.string ⟨#[]⟩)
              have g3 := hfin.get 3 (.int .u16 0)
              have g4 := hfin.get 4 (.int .i64 0)
              have g5 := hfin.get 5 (.int .i64 0)
              have g6 := hfin.get 6 (.string ⟨#[]⟩)
              have g7 := hfin.get 7 (.string ⟨#[]⟩)
              have g8 := hfin.get 8 (.int .i64 0)
              have g9 := hfin.get 9 (.int .i64 0)
              generalize (World.setCell (World.setCell (World.setCell (World.setCell (World.setCell (World.setCell (World.setCell (World.setCell (World.setCell (World.setCell W6 ⟨w.heap.size, 0, none⟩ (.int .i64 0)) ⟨w.heap.size, 1, none⟩ (.string ⟨#[]⟩)) ⟨w.heap.size, 2, none⟩ (.string ⟨#[]⟩)) ⟨w.heap.size, 3, none⟩ (.int .u16 0)) ⟨w.heap.size, 4, none⟩ (.int .i64 0)) ⟨w.heap.size, 5, none⟩ (.int .i64 0)) ⟨w.heap.size, 6, none⟩ (.string ⟨#[]⟩)) ⟨w.heap.size, 7, none⟩ (.string ⟨#[]⟩)) ⟨w.heap.size, 8, none⟩ (.int .i64 0)) ⟨w.heap.size, 9, none⟩ (.int .i64 0)) = WF at g0 g1 g2 g3 g4 g5 g6 g7 g8 g9 ⊢
              simp [results, Tryd.results58, go_sem, g0, g1, g2, g3, g4, g5, g6, g7, g8, g9]
            · have hbel := below_all10 HB6.out (Nat.le_refl _) (.int .i64 0) (.string ⟨#[]⟩) (.string ⟨#[]⟩) (.int .u16 0) (.int .i64 0) (.int .i64 0) (.string ⟨#[]⟩) (.string ⟨#[]⟩) (.int .i64 0) (.int .i64 0)
              exact ⟨_, rfl, HRD.out, hbel⟩
          · have hr := HR.out
            rw [hcut] at hr
            have hr2 : readR s.data.toList = if S5.data.toList ≠ [] then none else match decR O.data.toList with | none => none | some t => some ⟨Tm, C.data.toList, N.data.toList, ty, y2, t, y3⟩ := hr
            clear hr HR hcut hS5
            have hr := hr2
            clear hr2
            by_cases h5 : S5.data.toList = []
            · rw [if_neg (by simpa using h5)] at hr
              obtain rfl : S5 = ⟨#[]⟩ := by apply ByteArray.ext; apply Array.ext'; simpa using h5
              have hdc := fun w h => decode_any O w (by omega) h
              cases hd : decR O.data.toList with
              | none =>
                rw [hd] at hr
                have hdc2 := hdc
                rw [hd] at hdc2
                have HR := Lib.hid hr
                clear hr hdc
                have hdc : ∀ w, LaidT w → Calls Tryd.prog 22 #[.string O] w fun e w' => e = .returned (.tuple #[.agg #[.int .i64 0, .string ⟨#[]⟩, .string ⟨#[]⟩, .int .i64 0], .bool false]) ∧ Below w.heap.size w w' := hdc2
                have HDC := Lib.hid hdc
                clear hdc hdc2 hd
                go_wp2_with (go_at_call 22; refine (HDC.out _ HL6.out).mono ?_; rintro e w7 ⟨rfl, hb7⟩; refine Hid.out ?_)
                refine Lib.hid ?_
                have hb8 := hb7.trans (((Below.refl w7.heap.size w7).alloc (Nat.le_refl _) (.cells #[.int .i64 0, .string ⟨#[]⟩, .string ⟨#[]⟩, .int .i64 0] 29)).mono hb7.size)
                have HB8 := Lib.hid (HB6.out.trans (hb8.mono HB6.out.size))
                have HC8 := Lib.hid (HC6.out.below hb8)
                have HD8 := Lib.hid (Cs.new w7 #[.int .i64 0, .string ⟨#[]⟩, .string ⟨#[]⟩, .int .i64 0] 29 [.int .i64 0, .string ⟨#[]⟩, .string ⟨#[]⟩, .int .i64 0])
                clear hb7 hb8 HB6 HC6 HL6 HDC
                go_upto_region 16 with fail
                generalize World.alloc w7 (.cells #[.int .i64 0, .string ⟨#[]⟩, .string ⟨#[]⟩, .int .i64 0] 29) = W8 at HB8 HC8 HD8 ⊢
                generalize w7.heap.size = P8 at HD8 ⊢
                have m0 := HD8.out.get 0 (.int .i64 0)
                have m1 := HD8.out.get 1 (.string ⟨#[]⟩)
                have m2 := HD8.out.get 2 (.string ⟨#[]⟩)
                have m3 := HD8.out.get 3 (.int .i64 0)
                have k0 := HC8.out.get 0 (.int .i64 0)
                have k1 := HC8.out.get 1 (.string ⟨#[]⟩)
                have k2 := HC8.out.get 2 (.string ⟨#[]⟩)
                have k3 := HC8.out.get 3 (.int .u16 0)
                have k4 := HC8.out.get 4 (.int .i64 0)
                have k5 := HC8.out.get 5 (.int .i64 0)
                have k6 := HC8.out.get 6 (.string ⟨#[]⟩)
                have k7 := HC8.out.get 7 (.string ⟨#[]⟩)
                have k8 := HC8.out.get 8 (.int .i64 0)
                have k9 := HC8.out.get 9 (.int .i64 0)
                have z0 := HC8.out.froz 0
                have z1 := HC8.out.froz 1
                have z2 := HC8.out.froz 2
                have z3 := HC8.out.froz 3
                have z4 := HC8.out.froz 4
                have z5 := HC8.out.froz 5
                have z6 := HC8.out.froz 6
                have z7 := HC8.out.froz 7
                have z8 := HC8.out.froz 8
                have z9 := HC8.out.froz 9
                go_wp2_with fail
                refine bodyPost_ret (v := .tuple #[.agg #[.int .i64 Tm, .string C, .string N, .int .u16 ty, .int .i64 y2, .int .i64 0, .string ⟨#[]⟩, .string ⟨#[]⟩, .int .i64 0, .int .i64 y3], .bool false]) ?_ rfl ?_
                · have hfin := Cs.all10 HC8.out (.int .i64 Tm) (.string C) (.string N) (.int .u16 ty) (.int .i64 y2) (.int .i64 0) (.string ⟨#[]⟩) (.string ⟨#[]⟩) (.int .i64 0) (.int .i64 y3)
                  have g0 := hfin.get 0 (.int .i64 Tm)
                  have g1 := hfin.get 1 (.string C)
                  have g2 := hfin.get 2 (.string N)
                  have g3 := hfin.get 3 (.int .u16 ty)
                  have g4 := hfin.get 4 (.int .i64 y2)
                  have g5 := hfin.get 5 (.int .i64 0)
                  have g6 := hfin.get 6 (.string ⟨#[]⟩)
                  have g7 := hfin.get 7 (.string ⟨#[]⟩)
                  have g8 := hfin.get 8 (.int .i64 0)
                  have g9 := hfin.get 9 (.int .i64 y3)
                  generalize (World.setCell (World.setCell (World.setCell (World.setCell (World.setCell (World.setCell (World.setCell (World.setCell (World.setCell (World.setCell W8 ⟨w.heap.size, 0, none⟩ (.int .i64 Tm)) ⟨w.heap.size, 1, none⟩ (.string C)) ⟨w.heap.size, 2, none⟩ (.string N)) ⟨w.heap.size, 3, none⟩ (.int .u16 ty)) ⟨w.heap.size, 4, none⟩ (.int .i64 y2)) ⟨w.heap.size, 5, none⟩ (.int .i64 0)) ⟨w.heap.size, 6, none⟩ (.string ⟨#[]⟩)) ⟨w.heap.size, 7, none⟩ (.string ⟨#[]⟩)) ⟨w.heap.size, 8, none⟩ (.int .i64 0)) ⟨w.heap.size, 9, none⟩ (.int .i64 y3)) = WF at g0 g1 g2 g3 g4 g5 g6 g7 g8 g9 ⊢
                  simp [results, Tryd.results58, go_sem, g0, g1, g2, g3, g4, g5, g6, g7, g8, g9]
                · have hbel := below_all10 HB8.out (Nat.le_refl _) (.int .i64 Tm) (.string C) (.string N) (.int .u16 ty) (.int .i64 y2) (.int .i64 0) (.string ⟨#[]⟩) (.string ⟨#[]⟩) (.int .i64 0) (.int .i64 y3)
                  exact ⟨_, rfl, ⟨_, _, _, _, _, _, _, _, _, _, _, rfl, (fun h => by cases h), fun _ => HR.out⟩, hbel⟩
              | some t =>
                rw [hd] at hr
                have hsm := decR_small hd
                obtain ⟨tk, TN, TA, tb, hsh, htt⟩ := trigA_parts t
                have hdc2 := hdc
                rw [hd] at hdc2
                have htv : trigV (some t) = .tuple #[.agg #[.int .i64 tk, .string TN, .string TA, .int .i64 tb], .bool true] := by show Value.tuple #[trigA t, .bool true] = _; rw [hsh]
                rw [htv] at hdc2
                rw [htt] at hr hsm
                simp only [toT, Array.length_toList] at hsm
                have h1 : TN.size ≤ 254 := hsm.1
                have h2 : TA.size ≤ 16 := hsm.2
                have hr : readR s.data.toList = some (toE Tm C N ty y2 tk TN TA tb y3) := hr
                have HR := Lib.hid hr
                clear hr hdc hsm hsh htt htv
                have hdc : ∀ w, LaidT w → Calls Tryd.prog 22 #[.string O] w fun e w' => e = .returned (.tuple #[.agg #[.int .i64 tk, .string TN, .string TA, .int .i64 tb], .bool true]) ∧ Below w.heap.size w w' := hdc2
                have HDC := Lib.hid hdc
                clear hdc hdc2 hd
                go_wp2_with (go_at_call 22; refine (HDC.out _ HL6.out).mono ?_; rintro e w7 ⟨rfl, hb7⟩; refine Hid.out ?_)
                refine Lib.hid ?_
                have hb8 := hb7.trans (((Below.refl w7.heap.size w7).alloc (Nat.le_refl _) (.cells #[.int .i64 tk, .string TN, .string TA, .int .i64 tb] 29)).mono hb7.size)
                have HB8 := Lib.hid (HB6.out.trans (hb8.mono HB6.out.size))
                have HC8 := Lib.hid (HC6.out.below hb8)
                have HD8 := Lib.hid (Cs.new w7 #[.int .i64 tk, .string TN, .string TA, .int .i64 tb] 29 [.int .i64 tk, .string TN, .string TA, .int .i64 tb])
                clear hb7 hb8 HB6 HC6 HL6 HDC
                go_upto_region 16 with fail
                generalize World.alloc w7 (.cells #[.int .i64 tk, .string TN, .string TA, .int .i64 tb] 29) = W8 at HB8 HC8 HD8 ⊢
                generalize w7.heap.size = P8 at HD8 ⊢
                have m0 := HD8.out.get 0 (.int .i64 tk)
                have m1 := HD8.out.get 1 (.string TN)
                have m2 := HD8.out.get 2 (.string TA)
                have m3 := HD8.out.get 3 (.int .i64 tb)
                have k0 := HC8.out.get 0 (.int .i64 0)
                have k1 := HC8.out.get 1 (.string ⟨#[]⟩)
                have k2 := HC8.out.get 2 (.string ⟨#[]⟩)
                have k3 := HC8.out.get 3 (.int .u16 0)
                have k4 := HC8.out.get 4 (.int .i64 0)
                have k5 := HC8.out.get 5 (.int .i64 0)
                have k6 := HC8.out.get 6 (.string ⟨#[]⟩)
                have k7 := HC8.out.get 7 (.string ⟨#[]⟩)
                have k8 := HC8.out.get 8 (.int .i64 0)
                have k9 := HC8.out.get 9 (.int .i64 0)
                have z0 := HC8.out.froz 0
                have z1 := HC8.out.froz 1
                have z2 := HC8.out.froz 2
                have z3 := HC8.out.froz 3
                have z4 := HC8.out.froz 4
                have z5 := HC8.out.froz 5
                have z6 := HC8.out.froz 6
                have z7 := HC8.out.froz 7
                have z8 := HC8.out.froz 8
                have z9 := HC8.out.froz 9
                go_wp2_with fail
                refine bodyPost_ret (v := .tuple #[.agg #[.int .i64 Tm, .string C, .string N, .int .u16 ty, .int .i64 y2, .int .i64 tk, .string TN, .string TA, .int .i64 tb, .int .i64 y3], .bool true]) ?_ rfl ?_
                · have hfin := Cs.all10 HC8.out (.int .i64 Tm) (.string C) (.string N) (.int .u16 ty) (.int .i64 y2) (.int .i64 tk) (.string TN) (.string TA) (.int .i64 tb) (.int .i64 y3)
                  have g0 := hfin.get 0 (.int .i64 Tm)
                  have g1 := hfin.get 1 (.string C)
                  have g2 := hfin.get 2 (.string N)
                  have g3 := hfin.get 3 (.int .u16 ty)
                  have g4 := hfin.get 4 (.int .i64 y2)
                  have g5 := hfin.get 5 (.int .i64 tk)
                  have g6 := hfin.get 6 (.string TN)
                  have g7 := hfin.get 7 (.string TA)
                  have g8 := hfin.get 8 (.int .i64 tb)
                  have g9 := hfin.get 9 (.int .i64 y3)
                  generalize (World.setCell (World.setCell (World.setCell (World.setCell (World.setCell (World.setCell (World.setCell (World.setCell (World.setCell (World.setCell W8 ⟨w.heap.size, 0, none⟩ (.int .i64 Tm)) ⟨w.heap.size, 1, none⟩ (.string C)) ⟨w.heap.size, 2, none⟩ (.string N)) ⟨w.heap.size, 3, none⟩ (.int .u16 ty)) ⟨w.heap.size, 4, none⟩ (.int .i64 y2)) ⟨w.heap.size, 5, none⟩ (.int .i64 tk)) ⟨w.heap.size, 6, none⟩ (.string TN)) ⟨w.heap.size, 7, none⟩ (.string TA)) ⟨w.heap.size, 8, none⟩ (.int .i64 tb)) ⟨w.heap.size, 9, none⟩ (.int .i64 y3)) = WF at g0 g1 g2 g3 g4 g5 g6 g7 g8 g9 ⊢
                  simp [results, Tryd.results58, go_sem, g0, g1, g2, g3, g4, g5, g6, g7, g8, g9]
                · have hbel := below_all10 HB8.out (Nat.le_refl _) (.int .i64 Tm) (.string C) (.string N) (.int .u16 ty) (.int .i64 y2) (.int .i64 tk) (.string TN) (.string TA) (.int .i64 tb) (.int .i64 y3)
                  exact ⟨_, rfl, ⟨_, _, _, _, _, _, _, _, _, _, _, rfl, (fun _ => ⟨HR.out, hC, hN, h1, h2, by omega, by omega⟩), fun h => by cases h⟩, hbel⟩
            · rw [if_pos h5] at hr
              have HRD := Lib.hid (readIs_none hr)
              have hne : (S5.toList == []) = false := str_empty S5 (by intro h; apply h5; exact List.eq_nil_of_length_eq_zero (by simpa using h))
              have hne2 := str_empty' S5 (by intro h; apply h5; exact List.eq_nil_of_length_eq_zero (by simpa using h))
              clear hr h5
              have k0 := HC6.out.get 0 (.int .i64 0)
              have k1 := HC6.out.get 1 (.string ⟨#[]⟩)
              have k2 := HC6.out.get 2 (.string ⟨#[]⟩)
              have k3 := HC6.out.get 3 (.int .u16 0)
              have k4 := HC6.out.get 4 (.int .i64 0)
              have k5 := HC6.out.get 5 (.int .i64 0)
              have k6 := HC6.out.get 6 (.string ⟨#[]⟩)
              have k7 := HC6.out.get 7 (.string ⟨#[]⟩)
              have k8 := HC6.out.get 8 (.int .i64 0)
              have k9 := HC6.out.get 9 (.int .i64 0)
              have z0 := HC6.out.froz 0
              have z1 := HC6.out.froz 1
              have z2 := HC6.out.froz 2
              have z3 := HC6.out.froz 3
              have z4 := HC6.out.froz 4
              have z5 := HC6.out.froz 5
              have z6 := HC6.out.froz 6
              have z7 := HC6.out.froz 7
              have z8 := HC6.out.froz 8
              have z9 := HC6.out.froz 9
              go_wp2_with fail
              refine bodyPost_ret (v := .tuple #[.agg #[.int .i64 0, .string ⟨#[]⟩, .string ⟨#[]⟩, .int .u16 0, .int .i64 0, .int .i64 0, .string ⟨#[]⟩, .string ⟨#[]⟩, .int .i64 0, .int .i64 0], .bool false]) ?_ rfl ?_
              · have hfin := Cs.all10 HC6.out (.int .i64 0) (.string ⟨#[]⟩) (.string ⟨#[]⟩) (.int .u16 0) (.int .i64 0) (.int .i64 0) (.string ⟨#[]⟩) (.string ⟨#[]⟩) (.int .i64 0) (.int .i64 0)
                have g0 := hfin.get 0 (.int .i64 0)
                have g1 := hfin.get 1 (.string ⟨#[]⟩)
                have g2 := hfin.get 2 (.string ⟨#[]⟩)
                have g3 := hfin.get 3 (.int .u16 0)
                have g4 := hfin.get 4 (.int .i64 0)
                have g5 := hfin.get 5 (.int .i64 0)
                have g6 := hfin.get 6 (.string ⟨#[]⟩)
                have g7 := hfin.get 7 (.string ⟨#[]⟩)
                have g8 := hfin.get 8 (.int .i64 0)
                have g9 := hfin.get 9 (.int .i64 0)
                generalize (World.setCell (World.setCell (World.setCell (World.setCell (World.setCell (World.setCell (World.setCell (World.setCell (World.setCell (World.setCell W6 ⟨w.heap.size, 0, none⟩ (.int .i64 0)) ⟨w.heap.size, 1, none⟩ (.string ⟨#[]⟩)) ⟨w.heap.size, 2, none⟩ (.string ⟨#[]⟩)) ⟨w.heap.size, 3, none⟩ (.int .u16 0)) ⟨w.heap.size, 4, none⟩ (.int .i64 0)) ⟨w.heap.size, 5, none⟩ (.int .i64 0)) ⟨w.heap.size, 6, none⟩ (.string ⟨#[]⟩)) ⟨w.heap.size, 7, none⟩ (.string ⟨#[]⟩)) ⟨w.heap.size, 8, none⟩ (.int .i64 0)) ⟨w.heap.size, 9, none⟩ (.int .i64 0)) = WF at g0 g1 g2 g3 g4 g5 g6 g7 g8 g9 ⊢
                simp [results, Tryd.results58, go_sem, g0, g1, g2, g3, g4, g5, g6, g7, g8, g9]
              · have hbel := below_all10 HB6.out (Nat.le_refl _) (.int .i64 0) (.string ⟨#[]⟩) (.string ⟨#[]⟩) (.int .u16 0) (.int .i64 0) (.int .i64 0) (.string ⟨#[]⟩) (.string ⟨#[]⟩) (.int .i64 0) (.int .i64 0)
                exact ⟨_, rfl, HRD.out, hbel⟩
end Go.Proofs.YtodpaejakgjblaaDoor
namespace Go.Proofs.YtodpaejakgjblaaDoor
open Go.RowKit
set_option linter.unusedVariables false
set_option linter.unusedSimpArgs false
set_option maxRecDepth 20000
/-- What is decoded of bytes. -/
def DecIs (l : List UInt8) (v : Value) : Prop := ∃ (T : Int) (C N : ByteArray) (ty z tk : Int) (TN TA : ByteArray) (tb ac : Int) (ok : Bool), v = .tuple #[.agg #[.int .i64 T, .string C, .string N, .int .u16 ty, .int .i64 z, .int .i64 tk, .string TN, .string TA, .int .i64 tb, .int .i64 ac], .bool ok] ∧
  (ok = true → decE l = some (toE T C N ty z tk TN TA tb ac) ∧ C.size ≤ 255 ∧ N.size ≤ 255 ∧ TN.size ≤ 254 ∧ TA.size ≤ 16 ∧ 0 ≤ ty ∧ ty < 65536) ∧
  (ok = false → decE l = none ∧ T = 0 ∧ C = ⟨#[]⟩ ∧ N = ⟨#[]⟩ ∧ ty = 0 ∧ z = 0 ∧ tk = 0 ∧ TN = ⟨#[]⟩ ∧ TA = ⟨#[]⟩ ∧ tb = 0 ∧ ac = 0)
theorem decIs_none {l : List UInt8} (h : decE l = none) : DecIs l (.tuple #[.agg #[.int .i64 0, .string ⟨#[]⟩, .string ⟨#[]⟩, .int .u16 0, .int .i64 0, .int .i64 0, .string ⟨#[]⟩, .string ⟨#[]⟩, .int .i64 0, .int .i64 0], .bool false]) :=
  ⟨0, ⟨#[]⟩, ⟨#[]⟩, 0, 0, 0, ⟨#[]⟩, ⟨#[]⟩, 0, 0, false, rfl, (fun h => by cases h), fun _ => ⟨h, rfl, rfl, rfl, rfl, rfl, rfl, rfl, rfl, rfl, rfl⟩⟩

set_option maxHeartbeats 16000000 in
theorem evdec_any (A : Option Addr) (n c : Nat) (l : List UInt8) (w : World) (hA : Sl w w.heap.size 1 A n (l.map bv)) (hA0 : A = none → n = 0) (hn : n ≤ 140737488355328) (hL : LaidT w) :
    Calls Tryd.prog 32 #[.slice A n c] w fun e w' => ∃ v, e = .returned v ∧ DecIs l v ∧ Below w.heap.size w w' := by
  obtain ⟨S, hS⟩ : ∃ S, S = baL l := ⟨_, rfl⟩
  have hSd : S.data.toList = l := by rw [hS]; simp [baL]
  have hln : l.length = n := by have := hA.1; simpa using this
  have hSs : S.size = n := by rw [hS, baL_size, hln]
  have hcs := Cs.new w #[.int .i64 0, .string ⟨#[]⟩, .string ⟨#[]⟩, .int .u16 0, .int .i64 0, .int .i64 0, .string ⟨#[]⟩, .string ⟨#[]⟩, .int .i64 0, .int .i64 0] 68 [.int .i64 0, .string ⟨#[]⟩, .string ⟨#[]⟩, .int .u16 0, .int .i64 0, .int .i64 0, .string ⟨#[]⟩, .string ⟨#[]⟩, .int .i64 0, .int .i64 0]
  have hbel0 := (Below.refl w.heap.size w).alloc (Nat.le_refl _) (.cells #[.int .i64 0, .string ⟨#[]⟩, .string ⟨#[]⟩, .int .u16 0, .int .i64 0, .int .i64 0, .string ⟨#[]⟩, .string ⟨#[]⟩, .int .i64 0, .int .i64 0] 68)
  have htx : Txt (World.alloc w (.cells #[.int .i64 0, .string ⟨#[]⟩, .string ⟨#[]⟩, .int .u16 0, .int .i64 0, .int .i64 0, .string ⟨#[]⟩, .string ⟨#[]⟩, .int .i64 0, .int .i64 0] 68)) A n l := ⟨(hA.below hbel0).more hbel0.size, hA0⟩
  have hcv := Txt.conv (P := Tryd.prog) htx 22 9 5 Tryd.underlying22 Tryd.underlying5 Tryd.underlying9
  have HCS := Lib.hid hcs
  have HB0 := Lib.hid hbel0
  have HL0 := Lib.hid (hL.below hbel0 (Nat.le_refl _))
  have HRD := Lib.hid (fun w h => evread_any S w (by omega) h)
  have HSD := Lib.hid hSd
  have HCV := Lib.hid hcv
  clear hcs hbel0 htx hcv hA hL hSd hln
  have hcv2 := HCV.out c
  have hSv : (⟨l.toArray⟩ : ByteArray) = S := hS.symm
  rw [hSv] at hcv2
  clear hSv hS HCV
  go_enter Tryd.func32, Tryd.ntmps32
  go_upto_region 1 with fail
  generalize World.alloc w (.cells #[.int .i64 0, .string ⟨#[]⟩, .string ⟨#[]⟩, .int .u16 0, .int .i64 0, .int .i64 0, .string ⟨#[]⟩, .string ⟨#[]⟩, .int .i64 0, .int .i64 0] 68) = W1 at HCS HB0 HL0 hcv2 ⊢
  go_wp2_with (go_at_call 58; refine (HRD.out _ HL0.out).mono ?_; rintro e w2 ⟨v2, rfl, hrd, hb2⟩; refine Hid.out ?_)
  refine Lib.hid ?_
  obtain ⟨T, C, N, ty, z, tk, TN, TA, tb, ac, ok, rfl, hyes, hno⟩ := hrd
  have hb3 := hb2.trans (((Below.refl w2.heap.size w2).alloc (Nat.le_refl _) (.cells #[.int .i64 T, .string C, .string N, .int .u16 ty, .int .i64 z, .int .i64 tk, .string TN, .string TA, .int .i64 tb, .int .i64 ac] 68)).mono hb2.size)
  have HB3 := Lib.hid (HB0.out.trans (hb3.mono HB0.out.size))
  have HC3 := Lib.hid (HCS.out.below hb3)
  have HL3 := Lib.hid (HL0.out.below hb3 (Nat.le_refl _))
  have HD3 := Lib.hid (Cs.new w2 #[.int .i64 T, .string C, .string N, .int .u16 ty, .int .i64 z, .int .i64 tk, .string TN, .string TA, .int .i64 tb, .int .i64 ac] 68 [.int .i64 T, .string C, .string N, .int .u16 ty, .int .i64 z, .int .i64 tk, .string TN, .string TA, .int .i64 tb, .int .i64 ac])
  clear hb2 hb3 HCS HB0 HL0 HRD hcv2
  go_upto_region 2 with fail
  generalize World.alloc w2 (.cells #[.int .i64 T, .string C, .string N, .int .u16 ty, .int .i64 z, .int .i64 tk, .string TN, .string TA, .int .i64 tb, .int .i64 ac] 68) = W3 at HB3 HC3 HD3 HL3 ⊢
  generalize w2.heap.size = P3 at HD3 ⊢
  cases ok with
  | false =>
    have hd : decE l = none := by unfold decE; rw [← HSD.out, hno rfl]
    have HDI := Lib.hid (decIs_none hd)
    clear hd hno hyes
    have k0 := HC3.out.get 0 (.int .i64 0)
    have k1 := HC3.out.get 1 (.string ⟨#[]⟩)
    have k2 := HC3.out.get 2 (.string ⟨#[]⟩)
    have k3 := HC3.out.get 3 (.int .u16 0)
    have k4 := HC3.out.get 4 (.int .i64 0)
    have k5 := HC3.out.get 5 (.int .i64 0)
    have k6 := HC3.out.get 6 (.string ⟨#[]⟩)
    have k7 := HC3.out.get 7 (.string ⟨#[]⟩)
    have k8 := HC3.out.get 8 (.int .i64 0)
    have k9 := HC3.out.get 9 (.int .i64 0)
    have z0 := HC3.out.froz 0
    have z1 := HC3.out.froz 1
    have z2 := HC3.out.froz 2
    have z3 := HC3.out.froz 3
    have z4 := HC3.out.froz 4
    have z5 := HC3.out.froz 5
    have z6 := HC3.out.froz 6
    have z7 := HC3.out.froz 7
    have z8 := HC3.out.froz 8
    have z9 := HC3.out.froz 9
    go_wp2_with fail
    refine bodyPost_ret (v := .tuple #[.agg #[.int .i64 0, .string ⟨#[]⟩, .string ⟨#[]⟩, .int .u16 0, .int .i64 0, .int .i64 0, .string ⟨#[]⟩, .string ⟨#[]⟩, .int .i64 0, .int .i64 0], .bool false]) ?_ rfl ?_
    · have hfin := Cs.all10 HC3.out (.int .i64 0) (.string ⟨#[]⟩) (.string ⟨#[]⟩) (.int .u16 0) (.int .i64 0) (.int .i64 0) (.string ⟨#[]⟩) (.string ⟨#[]⟩) (.int .i64 0) (.int .i64 0)
      have g0 := hfin.get 0 (.int .i64 0)
      have g1 := hfin.get 1 (.string ⟨#[]⟩)
      have g2 := hfin.get 2 (.string ⟨#[]⟩)
      have g3 := hfin.get 3 (.int .u16 0)
      have g4 := hfin.get 4 (.int .i64 0)
      have g5 := hfin.get 5 (.int .i64 0)
      have g6 := hfin.get 6 (.string ⟨#[]⟩)
      have g7 := hfin.get 7 (.string ⟨#[]⟩)
      have g8 := hfin.get 8 (.int .i64 0)
      have g9 := hfin.get 9 (.int .i64 0)
      generalize (World.setCell (World.setCell (World.setCell (World.setCell (World.setCell (World.setCell (World.setCell (World.setCell (World.setCell (World.setCell W3 ⟨w.heap.size, 0, none⟩ (.int .i64 0)) ⟨w.heap.size, 1, none⟩ (.string ⟨#[]⟩)) ⟨w.heap.size, 2, none⟩ (.string ⟨#[]⟩)) ⟨w.heap.size, 3, none⟩ (.int .u16 0)) ⟨w.heap.size, 4, none⟩ (.int .i64 0)) ⟨w.heap.size, 5, none⟩ (.int .i64 0)) ⟨w.heap.size, 6, none⟩ (.string ⟨#[]⟩)) ⟨w.heap.size, 7, none⟩ (.string ⟨#[]⟩)) ⟨w.heap.size, 8, none⟩ (.int .i64 0)) ⟨w.heap.size, 9, none⟩ (.int .i64 0)) = WF at g0 g1 g2 g3 g4 g5 g6 g7 g8 g9 ⊢
      simp [results, Tryd.results32, go_sem, g0, g1, g2, g3, g4, g5, g6, g7, g8, g9]
    · have hbel := below_all10 HB3.out (Nat.le_refl _) (.int .i64 0) (.string ⟨#[]⟩) (.string ⟨#[]⟩) (.int .u16 0) (.int .i64 0) (.int .i64 0) (.string ⟨#[]⟩) (.string ⟨#[]⟩) (.int .i64 0) (.int .i64 0)
      exact ⟨_, rfl, HDI.out, hbel⟩
  | true =>
    obtain ⟨hr, s1, s2, s3, s4, s5, s6⟩ := hyes rfl
    have hmay := fun w h => evmay_any T C N ty z tk TN TA tb ac w (by omega) (by omega) (by omega) (by omega) h
    rw [HSD.out] at hr
    have HMAY := Lib.hid hmay
    clear hno hyes hmay
    have m0 := HD3.out.get 0 (.int .i64 T)
    have m1 := HD3.out.get 1 (.string C)
    have m2 := HD3.out.get 2 (.string N)
    have m3 := HD3.out.get 3 (.int .u16 ty)
    have m4 := HD3.out.get 4 (.int .i64 z)
    have m5 := HD3.out.get 5 (.int .i64 tk)
    have m6 := HD3.out.get 6 (.string TN)
    have m7 := HD3.out.get 7 (.string TA)
    have m8 := HD3.out.get 8 (.int .i64 tb)
    have m9 := HD3.out.get 9 (.int .i64 ac)
    cases hm : mayE (toE T C N ty z tk TN TA tb ac) with
    | false =>
      have hd : decE l = none := by unfold decE; rw [hr]; simp only; rw [hm]; rfl
      have HDI := Lib.hid (decIs_none hd)
      rw [hm] at HMAY
      clear hd hr hm
      go_wp2_with (go_at_call 34; refine (HMAY.out _ HL3.out).mono ?_; rintro e w4 ⟨rfl, hb4⟩; refine Hid.out ?_)
      refine Lib.hid ?_
      have HB4 := Lib.hid (HB3.out.trans (hb4.mono HB3.out.size))
      have HC4 := Lib.hid (HC3.out.below hb4)
      clear hb4 HB3 HC3 HD3 m0 m1 m2 m3 m4 m5 m6 m7 m8 m9
      have k0 := HC4.out.get 0 (.int .i64 0)
      have k1 := HC4.out.get 1 (.string ⟨#[]⟩)
      have k2 := HC4.out.get 2 (.string ⟨#[]⟩)
      have k3 := HC4.out.get 3 (.int .u16 0)
      have k4 := HC4.out.get 4 (.int .i64 0)
      have k5 := HC4.out.get 5 (.int .i64 0)
      have k6 := HC4.out.get 6 (.string ⟨#[]⟩)
      have k7 := HC4.out.get 7 (.string ⟨#[]⟩)
      have k8 := HC4.out.get 8 (.int .i64 0)
      have k9 := HC4.out.get 9 (.int .i64 0)
      have z0 := HC4.out.froz 0
      have z1 := HC4.out.froz 1
      have z2 := HC4.out.froz 2
      have z3 := HC4.out.froz 3
      have z4 := HC4.out.froz 4
      have z5 := HC4.out.froz 5
      have z6 := HC4.out.froz 6
      have z7 := HC4.out.froz 7
      have z8 := HC4.out.froz 8
      have z9 := HC4.out.froz 9
      go_wp2_with fail
      refine bodyPost_ret (v := .tuple #[.agg #[.int .i64 0, .string ⟨#[]⟩, .string ⟨#[]⟩, .int .u16 0, .int .i64 0, .int .i64 0, .string ⟨#[]⟩, .string ⟨#[]⟩, .int .i64 0, .int .i64 0], .bool false]) ?_ rfl ?_
      · have hfin := Cs.all10 HC4.out (.int .i64 0) (.string ⟨#[]⟩) (.string ⟨#[]⟩) (.int .u16 0) (.int .i64 0) (.int .i64 0) (.string ⟨#[]⟩) (.string ⟨#[]⟩) (.int .i64 0) (.int .i64 0)
        have g0 := hfin.get 0 (.int .i64 0)
        have g1 := hfin.get 1 (.string ⟨#[]⟩)
        have g2 := hfin.get 2 (.string ⟨#[]⟩)
        have g3 := hfin.get 3 (.int .u16 0)
        have g4 := hfin.get 4 (.int .i64 0)
        have g5 := hfin.get 5 (.int .i64 0)
        have g6 := hfin.get 6 (.string ⟨#[]⟩)
        have g7 := hfin.get 7 (.string ⟨#[]⟩)
        have g8 := hfin.get 8 (.int .i64 0)
        have g9 := hfin.get 9 (.int .i64 0)
        generalize (World.setCell (World.setCell (World.setCell (World.setCell (World.setCell (World.setCell (World.setCell (World.setCell (World.setCell (World.setCell w4 ⟨w.heap.size, 0, none⟩ (.int .i64 0)) ⟨w.heap.size, 1, none⟩ (.string ⟨#[]⟩)) ⟨w.heap.size, 2, none⟩ (.string ⟨#[]⟩)) ⟨w.heap.size, 3, none⟩ (.int .u16 0)) ⟨w.heap.size, 4, none⟩ (.int .i64 0)) ⟨w.heap.size, 5, none⟩ (.int .i64 0)) ⟨w.heap.size, 6, none⟩ (.string ⟨#[]⟩)) ⟨w.heap.size, 7, none⟩ (.string ⟨#[]⟩)) ⟨w.heap.size, 8, none⟩ (.int .i64 0)) ⟨w.heap.size, 9, none⟩ (.int .i64 0)) = WF at g0 g1 g2 g3 g4 g5 g6 g7 g8 g9 ⊢
        simp [results, Tryd.results32, go_sem, g0, g1, g2, g3, g4, g5, g6, g7, g8, g9]
      · have hbel := below_all10 HB4.out (Nat.le_refl _) (.int .i64 0) (.string ⟨#[]⟩) (.string ⟨#[]⟩) (.int .u16 0) (.int .i64 0) (.int .i64 0) (.string ⟨#[]⟩) (.string ⟨#[]⟩) (.int .i64 0) (.int .i64 0)
        exact ⟨_, rfl, HDI.out, hbel⟩
    | true =>
      have hd : decE l = some (toE T C N ty z tk TN TA tb ac) := by unfold decE; rw [hr]; simp only; rw [if_pos hm]
      have HDE := Lib.hid hd
      rw [hm] at HMAY
      clear hd hr hm
      go_wp2_with (go_at_call 34; refine (HMAY.out _ HL3.out).mono ?_; rintro e w4 ⟨rfl, hb4⟩; refine Hid.out ?_)
      refine Lib.hid ?_
      have HB4 := Lib.hid (HB3.out.trans (hb4.mono HB3.out.size))
      have HC4 := Lib.hid (HC3.out.below hb4)
      have HD4 := Lib.hid (HD3.out.below hb4)
      clear hb4 HB3 HC3 HD3 m0 m1 m2 m3 m4 m5 m6 m7 m8 m9
      have k0 := HC4.out.get 0 (.int .i64 0)
      have k1 := HC4.out.get 1 (.string ⟨#[]⟩)
      have k2 := HC4.out.get 2 (.string ⟨#[]⟩)
      have k3 := HC4.out.get 3 (.int .u16 0)
      have k4 := HC4.out.get 4 (.int .i64 0)
      have k5 := HC4.out.get 5 (.int .i64 0)
      have k6 := HC4.out.get 6 (.string ⟨#[]⟩)
      have k7 := HC4.out.get 7 (.string ⟨#[]⟩)
      have k8 := HC4.out.get 8 (.int .i64 0)
      have k9 := HC4.out.get 9 (.int .i64 0)
      have z0 := HC4.out.froz 0
      have z1 := HC4.out.froz 1
      have z2 := HC4.out.froz 2
      have z3 := HC4.out.froz 3
      have z4 := HC4.out.froz 4
      have z5 := HC4.out.froz 5
      have z6 := HC4.out.froz 6
      have z7 := HC4.out.froz 7
      have z8 := HC4.out.froz 8
      have z9 := HC4.out.froz 9
      have m0 := HD4.out.get 0 (.int .i64 T)
      have m1 := HD4.out.get 1 (.string C)
      have m2 := HD4.out.get 2 (.string N)
      have m3 := HD4.out.get 3 (.int .u16 ty)
      have m4 := HD4.out.get 4 (.int .i64 z)
      have m5 := HD4.out.get 5 (.int .i64 tk)
      have m6 := HD4.out.get 6 (.string TN)
      have m7 := HD4.out.get 7 (.string TA)
      have m8 := HD4.out.get 8 (.int .i64 tb)
      have m9 := HD4.out.get 9 (.int .i64 ac)
      go_wp2_with fail
      refine bodyPost_ret (v := .tuple #[.agg #[.int .i64 T, .string C, .string N, .int .u16 ty, .int .i64 z, .int .i64 tk, .string TN, .string TA, .int .i64 tb, .int .i64 ac], .bool true]) ?_ rfl ?_
      · have hfin := Cs.all10 HC4.out (.int .i64 T) (.string C) (.string N) (.int .u16 ty) (.int .i64 z) (.int .i64 tk) (.string TN) (.string TA) (.int .i64 tb) (.int .i64 ac)
        have g0 := hfin.get 0 (.int .i64 T)
        have g1 := hfin.get 1 (.string C)
        have g2 := hfin.get 2 (.string N)
        have g3 := hfin.get 3 (.int .u16 ty)
        have g4 := hfin.get 4 (.int .i64 z)
        have g5 := hfin.get 5 (.int .i64 tk)
        have g6 := hfin.get 6 (.string TN)
        have g7 := hfin.get 7 (.string TA)
        have g8 := hfin.get 8 (.int .i64 tb)
        have g9 := hfin.get 9 (.int .i64 ac)
        generalize (World.setCell (World.setCell (World.setCell (World.setCell (World.setCell (World.setCell (World.setCell (World.setCell (World.setCell (World.setCell w4 ⟨w.heap.size, 0, none⟩ (.int .i64 T)) ⟨w.heap.size, 1, none⟩ (.string C)) ⟨w.heap.size, 2, none⟩ (.string N)) ⟨w.heap.size, 3, none⟩ (.int .u16 ty)) ⟨w.heap.size, 4, none⟩ (.int .i64 z)) ⟨w.heap.size, 5, none⟩ (.int .i64 tk)) ⟨w.heap.size, 6, none⟩ (.string TN)) ⟨w.heap.size, 7, none⟩ (.string TA)) ⟨w.heap.size, 8, none⟩ (.int .i64 tb)) ⟨w.heap.size, 9, none⟩ (.int .i64 ac)) = WF at g0 g1 g2 g3 g4 g5 g6 g7 g8 g9 ⊢
        simp [results, Tryd.results32, go_sem, g0, g1, g2, g3, g4, g5, g6, g7, g8, g9]
      · have hbel := below_all10 HB4.out (Nat.le_refl _) (.int .i64 T) (.string C) (.string N) (.int .u16 ty) (.int .i64 z) (.int .i64 tk) (.string TN) (.string TA) (.int .i64 tb) (.int .i64 ac)
        exact ⟨_, rfl, ⟨_, _, _, _, _, _, _, _, _, _, _, rfl, (fun _ => ⟨HDE.out, s1, s2, s3, s4, s5, s6⟩), fun h => by cases h⟩, hbel⟩
end Go.Proofs.YtodpaejakgjblaaDoor
namespace Go.Proofs.YtodpaejakgjblaaDoor
open Go.RowKit
set_option linter.unusedVariables false
set_option linter.unusedSimpArgs false
set_option maxRecDepth 20000

theorem trig_eqd (d : Nat) (k k' : Int) (n n' a a' : ByteArray) (x x' : Int) (w : World) : (Op.equalIn (d + 3) 29 (.agg #[.int .i64 k, .string n, .string a, .int .i64 x]) (.agg #[.int .i64 k', .string n', .string a', .int .i64 x'])).run Tryd.prog w = .ok (trigEq k k' n n' a a' x x') w := by
  obtain ⟨f0, f1, f2, hf, ⟨t0, t1, t2⟩, ⟨n0, n1, n2⟩, ⟨o0, o1, o2⟩, ⟨c0, c1, c2⟩⟩ := trig_fields
  have hpe := fun w => pfx_eq d a a' x x' w
  rw [run_equalIn_agg (P := Tryd.prog) w _ _ _ _ Tryd.underlying29 (by kernel_rfl), hf]
  simp [go_sem, Op.eqFields, isAgg, run_underlying t0, run_underlying t1, t0, t1, t2, n0, n1, n2, o0, o1, o2, hpe]
  unfold trigEq
  by_cases e0 : k = k' <;> by_cases e1 : n.toList = n'.toList <;> by_cases e2 : a.toList = a'.toList <;> by_cases e3 : x = x' <;> simp [e0, e1, e2, e3]
theorem ev_fields : ∃ f0 f1 f2 f3 f4 f5 f6, (Tryd.prog.fieldsOf 68).toList = [f0, f1, f2, f3, f4, f5, f6] ∧
    (Tryd.prog.underlying f0.type = some (.int .i64) ∧ Tryd.prog.underlying f1.type = some .string ∧ Tryd.prog.underlying f2.type = some .string ∧ Tryd.prog.underlying f3.type = some (.int .u16) ∧ Tryd.prog.underlying f4.type = some (.int .i64) ∧ f5.type = 29 ∧ Tryd.prog.underlying f6.type = some (.int .i64)) ∧
    (f0.name ≠ "_" ∧ f1.name ≠ "_" ∧ f2.name ≠ "_" ∧ f3.name ≠ "_" ∧ f4.name ≠ "_" ∧ f5.name ≠ "_" ∧ f6.name ≠ "_") ∧ (f0.offset = 0 ∧ f1.offset = 1 ∧ f2.offset = 2 ∧ f3.offset = 3 ∧ f4.offset = 4 ∧ f5.offset = 5 ∧ f6.offset = 9) ∧
    (Tryd.prog.cellsOf f0.type = 1 ∧ Tryd.prog.cellsOf f1.type = 1 ∧ Tryd.prog.cellsOf f2.type = 1 ∧ Tryd.prog.cellsOf f3.type = 1 ∧ Tryd.prog.cellsOf f4.type = 1 ∧ Tryd.prog.cellsOf f5.type = 4 ∧ Tryd.prog.cellsOf f6.type = 1) :=
  ⟨_, _, _, _, _, _, _, rfl, ⟨by kernel_rfl, by kernel_rfl, by kernel_rfl, by kernel_rfl, by kernel_rfl, rfl, by kernel_rfl⟩, ⟨by decide, by decide, by decide, by decide, by decide, by decide, by decide⟩, ⟨rfl, rfl, rfl, rfl, rfl, rfl, rfl⟩, ⟨by kernel_rfl, by kernel_rfl, by kernel_rfl, by kernel_rfl, by kernel_rfl, by kernel_rfl, by kernel_rfl⟩⟩
def evEq (T T' : Int) (C C' N N' : ByteArray) (ty ty' z z' : Int) (q : Bool) (ac ac' : Int) : Bool := T == T' && (C.toList == C'.toList && (N.toList == N'.toList && (ty == ty' && (z == z' && (q && ac == ac')))))
theorem ev_eq (T T' : Int) (C C' N N' : ByteArray) (ty ty' z z' : Int) (k k' : Int) (n n' a a' : ByteArray) (x x' : Int) (ac ac' : Int) (w : World) :
    (Op.equalIn 10000 68 (.agg #[.int .i64 T, .string C, .string N, .int .u16 ty, .int .i64 z, .int .i64 k, .string n, .string a, .int .i64 x, .int .i64 ac]) (.agg #[.int .i64 T', .string C', .string N', .int .u16 ty', .int .i64 z', .int .i64 k', .string n', .string a', .int .i64 x', .int .i64 ac'])).run Tryd.prog w =
      .ok (evEq T T' C C' N N' ty ty' z z' (trigEq k k' n n' a a' x x') ac ac') w := by
  obtain ⟨f0, f1, f2, f3, f4, f5, f6, hf, ⟨t0, t1, t2, t3, t4, t5, t6⟩, ⟨n0, n1, n2, n3, n4, n5, n6⟩, ⟨o0, o1, o2, o3, o4, o5, o6⟩, ⟨c0, c1, c2, c3, c4, c5, c6⟩⟩ := ev_fields
  have hte := fun w => trig_eqd 9996 k k' n n' a a' x x' w
  generalize trigEq k k' n n' a a' x x' = q at hte ⊢
  rw [run_equalIn_agg (P := Tryd.prog) w _ _ _ _ Tryd.underlying68 (by kernel_rfl), hf]
  simp [go_sem, Op.eqFields, isAgg, run_underlying t0, run_underlying t1, run_underlying t2, run_underlying t3, run_underlying t4, run_underlying t6, t0, t1, t2, t3, t4, t5, t6, n0, n1, n2, n3, n4, n5, n6, o0, o1, o2, o3, o4, o5, o6, hte]
  unfold evEq
  by_cases e0 : T = T' <;> simp [e0]
  by_cases e1 : C.toList = C'.toList <;> simp [e1]
  by_cases e2 : N.toList = N'.toList <;> simp [e2]
  by_cases e3 : ty = ty' <;> simp [e3]
  by_cases e4 : z = z' <;> simp [e4]
  cases q <;> simp
  by_cases e6 : ac = ac' <;> simp [e6]
theorem evEq_iff (T T' : Int) (C C' N N' : ByteArray) (ty ty' z z' : Int) (k k' : Int) (n n' a a' : ByteArray) (x x' : Int) (ac ac' : Int) : evEq T T' C C' N N' ty ty' z z' (trigEq k k' n n' a a' x x') ac ac' = decide (toE T C N ty z k n a x ac = toE T' C' N' ty' z' k' n' a' x' ac') := by
  unfold evEq
  rw [trigEq_iff, Bool.eq_iff_iff]
  simp [toE, ByteArray.toList_eq]
theorem ev_eql (T T' : Int) (C C' N N' : ByteArray) (ty ty' z z' : Int) (k k' : Int) (n n' a a' : ByteArray) (x x' : Int) (ac ac' : Int) (w : World) :
    (binOp .eql 68 (.agg #[.int .i64 T, .string C, .string N, .int .u16 ty, .int .i64 z, .int .i64 k, .string n, .string a, .int .i64 x, .int .i64 ac]) (.agg #[.int .i64 T', .string C', .string N', .int .u16 ty', .int .i64 z', .int .i64 k', .string n', .string a', .int .i64 x', .int .i64 ac'])).run Tryd.prog w =
      .ok (.bool (decide (toE T C N ty z k n a x ac = toE T' C' N' ty' z' k' n' a' x' ac'))) w := by
  rw [run_eql_struct, ev_eq, evEq_iff]; rfl
theorem ev_neq (T T' : Int) (C C' N N' : ByteArray) (ty ty' z z' : Int) (k k' : Int) (n n' a a' : ByteArray) (x x' : Int) (ac ac' : Int) (w : World) :
    (binOp .neq 68 (.agg #[.int .i64 T, .string C, .string N, .int .u16 ty, .int .i64 z, .int .i64 k, .string n, .string a, .int .i64 x, .int .i64 ac]) (.agg #[.int .i64 T', .string C', .string N', .int .u16 ty', .int .i64 z', .int .i64 k', .string n', .string a', .int .i64 x', .int .i64 ac'])).run Tryd.prog w =
      .ok (.bool (!decide (toE T C N ty z k n a x ac = toE T' C' N' ty' z' k' n' a' x' ac'))) w := by
  rw [run_neq_struct, ev_eq, evEq_iff]; rfl
end Go.Proofs.YtodpaejakgjblaaDoor
namespace Go.Proofs.YtodpaejakgjblaaDoor
open Go.RowKit
set_option linter.unusedVariables false
/-- The world goes on: nothing that was there turns but block g. -/
def GoesBut (g : Nat) (w w' : World) : Prop := w.heap.size ≤ w'.heap.size ∧ ∀ k, k < w.heap.size → k ≠ g → w'.heap[k]? = w.heap[k]?
theorem GoesBut.refl (g : Nat) (w : World) : GoesBut g w w := ⟨Nat.le_refl _, fun _ _ _ => rfl⟩
theorem GoesBut.alloc (g : Nat) (w : World) (o : Obj) : GoesBut g w (w.alloc o) := ⟨by simp, fun k hk _ => Below.heap_alloc w o k hk⟩
theorem GoesBut.set (g j : Nat) (w : World) (u : Value) : GoesBut g w (w.setCell ⟨g, j, none⟩ u) := ⟨by simp, fun k _ hk => Below.heap_setCell w _ u k hk⟩
theorem GoesBut.below {g : Nat} {w w' : World} (h : Below w.heap.size w w') : GoesBut g w w' := ⟨h.size, fun k hk _ => h.block k hk⟩
theorem GoesBut.cell {g : Nat} {w w' : World} (h : GoesBut g w w') {b j : Nat} (hb : b < w.heap.size) (hg : b ≠ g) : w'.cell? ⟨b, j, none⟩ = w.cell? ⟨b, j, none⟩ := World.cell?_of_block (w := w) (h.2 b hb hg)
def AllStayX (Ext : World → World → Prop) : List (Value → World → Prop) → Prop
  | [] => True
  | p :: ps => (∀ v w w', p v w → Ext w w' → p v w') ∧ AllStayX Ext ps
theorem AllStayX.mem {Ext : World → World → Prop} : ∀ {l : List (Value → World → Prop)}, AllStayX Ext l → ∀ p ∈ l, ∀ v w w', p v w → Ext w w' → p v w'
  | q :: l, h, p, hp => by
    rcases List.mem_cons.1 hp with rfl | hp
    · exact h.1
    · exact AllStayX.mem h.2 p hp
theorem isV_stayX (Ext : World → World → Prop) (u : Value) : ∀ v w w', isV u v w → Ext w w' → isV u v w' := fun _ _ _ h _ => h
section
variable {P : Program} {ops : Array Oper} {Q : Exit → Act → World → Prop}
theorem wp_region_ext {id : Nat} {base : Act} {w0 : World} (hm : P.follows .mixedOrders = true) {FF : (Nat → Value) → Act} (hFF : ∀ x, putsF x 0 (ops.toList.map (·.dst)) base = FF x) (R : World → Prop) (Ext : World → World → Prop) (Ws : List (Value → World → Prop))
    (hn : noTwice (ops.toList.map (·.dst)) = true) (hg : guardsIn ops base.tmps.size = true) (hwf : wellFormed ops = true) (hlen : Ws.length = ops.size) (stays : AllStayX Ext Ws) (refl : ∀ w, Ext w w) (start : R w0.drew)
    (steps : OpStepsG P ops Q Ws R Ext FF 0 ops.toList)
    (fin : ∀ (x : Nat → Value) (w : World), R w → AllWords Ws x w 0 Ws → Q .normal (FF x) w) :
    (Code.region id ops true).wp P Q base w0 :=
  wp_region_words hm Ws R Ext hn hwf hlen stays.mem refl start (OpStepsG.steps hn hg hFF ops.toList 0 (fun _ h => h) steps) (fun x w hr hw => by rw [hFF x]; exact fin x w hr hw)
end
theorem next_of {A a' : Act} {d : Option Tmp} {p : Value → World → Prop} {R : World → Prop} {Ext : World → World → Prop} {w w' : World} (v : Value) (ha : a' = A.put d v) (hp : p v w') (hR : R w') (he : Ext w w') : Next A d p R Ext w a' w' := ⟨v, ha, hp, hR, he⟩
end Go.Proofs.YtodpaejakgjblaaDoor
namespace Go.Proofs.YtodpaejakgjblaaDoor
set_option linter.unusedVariables false
section
variable {P : Program} {ops : Array Oper} {Q : Exit → Act → World → Prop}
/-- A region that draws its order, by one word on all that has been done: which operations, what their slots hold, and the world. -/
theorem wp_region_joint {id : Nat} {base : Act} {w0 : World} (hm : P.follows .mixedOrders = true) (J : (Nat → Bool) → (Nat → Value) → World → Prop)
    (hn : noTwice (ops.toList.map (·.dst)) = true) (hwf : wellFormed ops = true)
    (start : ∀ x, J (fun _ => false) x w0.drew)
    (steps : ∀ i (hi : i < ops.size) (d : Nat → Bool) (x : Nat → Value) (w : World), J d x w → d i = false → (∀ e ∈ (ops[i]).after.toList, Region.binds .any e = true → d e.on = true) →
      if Region.wanted ops[i] (yielded ops (putsF x 0 (ops.toList.map (·.dst)) base).tmps) = true
      then Oper.wp P ops[i] (putsF x 0 (ops.toList.map (·.dst)) base) w (fun a' w' => ∃ v, a' = (putsF x 0 (ops.toList.map (·.dst)) base).put (ops[i]).dst v ∧ J (fun j => if j = i then true else d j) (fun j => if j = i then v else x j) w') Q
      else J (fun j => if j = i then true else d j) (fun j => if j = i then undef else x j) w)
    (fin : ∀ (d : Nat → Bool) (x : Nat → Value) (w : World), (∀ i, i < ops.size → d i = true) → J d x w → Q .normal (putsF x 0 (ops.toList.map (·.dst)) base) w) :
    (Code.region id ops true).wp P Q base w0 := by
  -- if nothing is ready all has come up
  have hall : ∀ listed : Array Bool, listed.size = ops.size → Region.ready .any ops listed = [] → ∀ i, i < ops.size → listed.getD i false = true := by
    intro listed hs hr i
    induction i using Nat.strongRecOn with
    | _ i ih =>
      intro hi
      cases hli : listed.getD i false with
      | true => rfl
      | false =>
        exfalso
        have hmem : i ∈ Region.ready .any ops listed := by
          unfold Region.ready
          rw [List.mem_filter]
          refine ⟨by simpa using hi, ?_⟩
          have hd : listed.getD i true = false := by
            simp [Array.getD, hs, hi] at hli ⊢; exact hli
          rw [hd]
          simp only [Bool.not_false, Bool.true_and, Array.getElem?_eq_getElem hi, Option.map_some, Option.getD_some]
          rw [Array.all_eq_true']
          intro e he
          by_cases hb : Region.binds .any e = true
          · have hlt : e.on < i := by
              unfold wellFormed at hwf
              rw [List.all_eq_true] at hwf
              have := hwf (ops[i], i) (by rw [List.mem_zipIdx_iff_getElem?]; simp [hi])
              simp only [Array.all_eq_true'] at this
              have := this e he
              simpa [hb] using this
            simp [hb, ih e.on hlt (by omega)]
          · simp [hb]
        rw [hr] at hmem
        cases hmem
  have main : ∀ (fuel : Nat) (listed : Array Bool) (x : Nat → Value) (w : World), listed.size = ops.size → (List.range ops.size).countP (fun i => !listed.getD i false) ≤ fuel →
      J (fun i => listed.getD i false) x w → wpAny P .any ops Q fuel listed (putsF x 0 (ops.toList.map (·.dst)) base) w := by
    intro fuel
    have hfin : ∀ (listed : Array Bool) (x : Nat → Value) (w : World), listed.size = ops.size → J (fun i => listed.getD i false) x w → Region.ready .any ops listed = [] → Q .normal (putsF x 0 (ops.toList.map (·.dst)) base) w := by
      intro listed x w hs hJ hr
      exact fin _ x w (fun i hi => hall listed hs hr i hi) hJ
    induction fuel with
    | zero =>
      intro listed x w hs hc hJ
      have hr : Region.ready .any ops listed = [] := by
        unfold Region.ready
        rw [List.filter_eq_nil_iff]
        intro i hi
        have h0 := Nat.le_zero.1 hc
        rw [List.countP_eq_zero] at h0
        have := h0 i hi
        have hi' : i < ops.size := by simpa using hi
        simp [Array.getD, hs, hi'] at this ⊢
        simp [this]
      exact ⟨hr, hfin listed x w hs hJ hr⟩
    | succ fuel ih =>
      intro listed x w hs hc hJ
      refine ⟨hfin listed x w hs hJ, fun i hi => ?_⟩
      unfold Region.ready at hi
      rw [List.mem_filter] at hi
      obtain ⟨hir, hi2⟩ := hi
      have hio : i < ops.size := by simpa using hir
      simp only [Bool.and_eq_true, Bool.not_eq_true', Array.getElem?_eq_getElem hio, Option.map_some, Option.getD_some] at hi2
      obtain ⟨hli, haft⟩ := hi2
      have hli' : listed[i]'(by omega) = false := by simpa [Array.getD, hs, hio] using hli
      have hop := steps i hio (fun i => listed.getD i false) x w hJ (by simp [Array.getD, hs, hio, hli']) (fun e he hb => by
        rw [Array.all_eq_true'] at haft
        have := haft e (by simpa using he)
        simpa [hb] using this)
      have hds : (ops.toList.map (·.dst))[i]? = some (ops[i]).dst := by simp [hio]
      have next : ∀ v w', J (fun j => if j = i then true else listed.getD j false) (fun j => if j = i then v else x j) w' → wpAny P .any ops Q fuel (listed.setIfInBounds i true) ((putsF x 0 (ops.toList.map (·.dst)) base).put (ops[i]).dst v) w' := by
        intro v w' hJ'
        have hset := putsF_set x (ops.toList.map (·.dst)) 0 i base (ops[i]).dst v hn hds
        rw [Nat.zero_add] at hset
        rw [← hset]
        have hJ2 : J (fun j => (listed.setIfInBounds i true).getD j false) (fun j => if j = i then v else x j) w' := by
          have : (fun j => (listed.setIfInBounds i true).getD j false) = (fun j => if j = i then true else listed.getD j false) := by
            funext j; exact getD_set listed i j (by omega)
          rw [this]; exact hJ'
        refine ih _ _ w' (by simpa using hs) ?_ hJ2
        have hlt : (List.range ops.size).countP (fun j => !(listed.setIfInBounds i true).getD j false) < (List.range ops.size).countP (fun j => !listed.getD j false) := by
          have hsub : ∀ (l : List Nat), (∀ j ∈ l, j < ops.size) → l.Nodup → i ∈ l → l.countP (fun j => !(listed.setIfInBounds i true).getD j false) < l.countP (fun j => !listed.getD j false) := by
            intro l
            induction l with
            | nil => intro _ _ h; cases h
            | cons y l ihl =>
              intro hlt' hnd hmem
              have hy : y < ops.size := hlt' y (by simp)
              have heq : ∀ j, j < ops.size → (listed.setIfInBounds i true).getD j false = if j = i then true else listed.getD j false := fun j _ => getD_set listed i j (by omega)
              by_cases hyi : y = i
              · subst hyi
                have hsame : l.countP (fun j => !(listed.setIfInBounds y true).getD j false) = l.countP (fun j => !listed.getD j false) := by
                  apply List.countP_congr
                  intro j hj
                  have hne : j ≠ y := fun e => by subst e; exact (List.nodup_cons.1 hnd).1 hj
                  rw [heq j (hlt' j (by simp [hj])), if_neg hne]
                rw [List.countP_cons, List.countP_cons, hsame, heq y hy, if_pos rfl]
                have : listed.getD y false = false := by simp [Array.getD, hs, hy, hli']
                simp [this]
              · have hm' : i ∈ l := by
                  rcases List.mem_cons.1 hmem with h | h
                  · exact absurd h.symm hyi
                  · exact h
                have := ihl (fun j hj => hlt' j (by simp [hj])) (List.nodup_cons.1 hnd).2 hm'
                rw [List.countP_cons, List.countP_cons, heq y hy, if_neg hyi]
                omega
          exact hsub _ (fun j hj => by simpa using hj) List.nodup_range (by simpa using hio)
        omega
      unfold wpOp
      simp only [Array.getElem?_eq_getElem hio]
      split
      · rename_i hw
        rw [if_pos hw] at hop
        exact .inl (Oper.wp_mono (fun a' w' ⟨v, e, hv⟩ => by rw [e]; exact next v w' hv) hop)
      · rename_i hw
        rw [if_neg hw] at hop
        exact next undef w hop
  refine wp_region_any hm ?_
  have h0 := putsF_held (ops.toList.map (·.dst)) 0 base (held base (ops.toList.map (·.dst))) (fun i => by simp) hn
  rw [← h0]
  refine main ops.size _ _ _ (by simp) ?_ ?_
  · refine Nat.le_trans (List.countP_le_length ..) (by simp)
  · have : (fun i => (Array.replicate ops.size false).getD i false) = fun _ => false := by
      funext i
      simp only [Array.getD, Array.size_replicate]
      split
      · simp
      · rfl
    rw [this]; exact start _
end
end Go.Proofs.YtodpaejakgjblaaDoor
namespace Go.Proofs.YtodpaejakgjblaaDoor
open Go.RowKit
set_option linter.unusedVariables false
/-- Each operation that is neither K nor late is a source of one further on that is not late, or of K. -/
def ancOk (ops : Array Oper) (K : Nat) (late : List Nat) : Bool :=
  (List.range ops.size).all fun i => i == K || late.contains i || (List.range (K + 1)).any fun j => decide (i < j) && !late.contains j && (match ops[j]? with | some o => o.after.toList.any fun e => e.on == i && Region.binds .any e | none => false)
def AllWordsIf (c : Nat → Bool) (Ws : List (Value → World → Prop)) (x : Nat → Value) (w : World) : Nat → List (Value → World → Prop) → Prop
  | _, [] => True
  | i, p :: ps => (c i = true → p (x i) w) ∧ AllWordsIf c Ws x w (i + 1) ps
theorem allWordsIf_of {c : Nat → Bool} {Ws : List (Value → World → Prop)} {x : Nat → Value} {w : World} : ∀ (ps : List (Value → World → Prop)) (k : Nat), (∀ j, j < ps.length → ps[j]? = Ws[k + j]?) → (∀ i, i < Ws.length → c i = true → wordOf Ws i (x i) w) → AllWordsIf c Ws x w k ps
  | [], _, _, _ => trivial
  | p :: ps, k, h, hw => by
    refine ⟨fun hc => ?_, allWordsIf_of ps (k + 1) (fun j hj => ?_) hw⟩
    · have h0 := h 0 (by simp)
      simp at h0
      have hk : k < Ws.length := by
        rcases Nat.lt_or_ge k Ws.length with h1 | h1
        · exact h1
        · rw [List.getElem?_eq_none h1] at h0; cases h0
      have := hw k hk hc
      unfold wordOf at this
      rw [← h0] at this
      exact this
    · have := h (j + 1) (by simpa using hj)
      rw [show k + 1 + j = k + (j + 1) by omega, ← this]
      simp
section
variable {P : Program} {ops : Array Oper} {Q : Exit → Act → World → Prop}
/-- As OpStepsG, but those that are skipped. -/
def OpStepsB (P : Program) (ops : Array Oper) (Q : Exit → Act → World → Prop) (Ws : List (Value → World → Prop)) (R : World → Prop) (Ext : World → World → Prop) (FF : (Nat → Value) → Act) (skip : Nat → Bool) : Nat → List Oper → Prop
  | _, [] => True
  | i, o :: os => (skip i = false → OpStepG P ops Q Ws R Ext FF i o) ∧ OpStepsB P ops Q Ws R Ext FF skip (i + 1) os
theorem OpStepsB.get {Ws : List (Value → World → Prop)} {R : World → Prop} {Ext : World → World → Prop} {FF : (Nat → Value) → Act} {skip : Nat → Bool} : ∀ {l : List Oper} {k : Nat}, OpStepsB P ops Q Ws R Ext FF skip k l → ∀ i o, l[i]? = some o → skip (k + i) = false → OpStepG P ops Q Ws R Ext FF (k + i) o
  | [], _, _, i, o, h, _ => by simp at h
  | p :: l, k, hs, 0, o, h, hk => by simp at h; subst h; exact hs.1 hk
  | p :: l, k, hs, i + 1, o, h, hk => by
    have := OpStepsB.get hs.2 i o (by simpa using h) (by rwa [show k + 1 + i = k + (i + 1) by omega])
    rwa [show k + 1 + i = k + (i + 1) by omega] at this
theorem OpStepG.one {Ws : List (Value → World → Prop)} {R : World → Prop} {Ext : World → World → Prop} {base : Act} {FF : (Nat → Value) → Act} (hn : noTwice (ops.toList.map (·.dst)) = true) (hg : guardsIn ops base.tmps.size = true)
    (hFF : ∀ x, putsF x 0 (ops.toList.map (·.dst)) base = FF x) {i : Nat} {o : Oper} (ho : o ∈ ops.toList) (h : OpStepG P ops Q Ws R Ext FF i o) : OpStep P ops Q Ws R Ext base i o :=
  (OpStepsG.steps hn hg hFF [o] i (fun q hq => by simp at hq; subst hq; exact ho) ⟨h, trivial⟩).1
theorem wp_region_store {id : Nat} {base : Act} {w0 : World} (hm : P.follows .mixedOrders = true) {FF : (Nat → Value) → Act} (hFF : ∀ x, putsF x 0 (ops.toList.map (·.dst)) base = FF x) (R1 R2 : World → Prop) (Ext : World → World → Prop) (Ws : List (Value → World → Prop))
    (K : Nat) (late : List Nat) (hn : noTwice (ops.toList.map (·.dst)) = true) (hg : guardsIn ops base.tmps.size = true) (hwf : wellFormed ops = true) (hlen : Ws.length = ops.size) (hanc : ancOk ops K late = true) (hK : (ops[K]?).map (·.guard) = some none)
    (stays : AllStayX Ext Ws) (refl : ∀ w, Ext w w) (start : R1 w0.drew)
    (steps : OpStepsB P ops Q Ws R1 Ext FF (fun i => i == K) 0 ops.toList)
    (steps2 : OpStepsB P ops Q Ws R2 Ext FF (fun i => !late.contains i) 0 ops.toList)
    (store : ∀ (x : Nat → Value) (w : World), R1 w → AllWordsIf (fun i => !(i == K || late.contains i)) Ws x w 0 Ws → ∀ o, ops[K]? = some o → Oper.wp P o (FF x) w (Next (FF x) o.dst (wordOf Ws K) R2 Ext w) Q)
    (fin : ∀ (x : Nat → Value) (w : World), R2 w → AllWords Ws x w 0 Ws → Q .normal (FF x) w) :
    (Code.region id ops true).wp P Q base w0 := by
  have hanc' : ∀ i, i < ops.size → i = K ∨ i ∈ late ∨ ∃ j o, i < j ∧ j ≤ K ∧ j ∉ late ∧ ops[j]? = some o ∧ ∃ e ∈ o.after.toList, e.on = i ∧ Region.binds .any e = true := by
    intro i hi
    unfold ancOk at hanc
    rw [List.all_eq_true] at hanc
    have := hanc i (by simpa using hi)
    simp only [Bool.or_eq_true, beq_iff_eq, List.any_eq_true, List.mem_range, Bool.and_eq_true, decide_eq_true_eq, Bool.not_eq_true'] at this
    rcases this with (h | h) | ⟨j, hj, ⟨h1, h2⟩, h3⟩
    · exact .inl h
    · exact .inr (.inl (by simpa using h))
    · right; right
      cases ho : ops[j]? with
      | none => rw [ho] at h3; simp at h3
      | some o =>
        rw [ho] at h3
        simp only [List.any_eq_true, Bool.and_eq_true, beq_iff_eq] at h3
        exact ⟨j, o, h1, by omega, by simpa using h2, ho, h3⟩
  have hword : ∀ (i : Nat), i < ops.size → ∀ v w w', wordOf Ws i v w → Ext w w' → wordOf Ws i v w' := by
    intro i hi v w w' hw he
    unfold wordOf at hw ⊢
    cases hp : Ws[i]? with
    | none => trivial
    | some p =>
      rw [hp] at hw
      exact stays.mem p (List.mem_of_getElem? hp) _ _ _ hw he
  refine wp_region_joint hm (fun d x w => (∀ i, i < ops.size → d i = true → wordOf Ws i (x i) w) ∧ (∀ i o, ops[i]? = some o → d i = true → ∀ e ∈ o.after.toList, Region.binds .any e = true → d e.on = true) ∧ (d K = false → R1 w) ∧ (d K = true → R2 w)) hn hwf ?_ ?_ ?_
  · exact fun x => ⟨by simp, by simp, fun _ => start, by simp⟩
  · rintro i hi d x w ⟨hw, hc, h1, h2⟩ hd hdeps
    have hoi : ops[i]? = some ops[i] := Array.getElem?_eq_getElem hi
    have hmem : ops[i] ∈ ops.toList := by simp
    have hD : Deps (wordOf Ws) x w (ops[i]).after.toList := Deps.of (fun e he hb => by
      have hdon := hdeps e he hb
      have hlt : e.on < i := by
        unfold wellFormed at hwf
        rw [List.all_eq_true] at hwf
        have := hwf (ops[i], i) (by rw [List.mem_zipIdx_iff_getElem?]; simp [hi])
        simp only [Array.all_eq_true'] at this
        have := this e (by simpa using he)
        simpa [hb] using this
      exact hw _ (by omega) hdon)
    have hcl : ∀ j o, ops[j]? = some o → (if j = i then true else d j) = true → ∀ e ∈ o.after.toList, Region.binds .any e = true → (if e.on = i then true else d e.on) = true := by
      intro j o hjo hdj e he hb
      by_cases hei : e.on = i
      · simp [hei]
      · rw [if_neg hei]
        by_cases hji : j = i
        · subst hji
          rw [hoi] at hjo
          obtain rfl := Option.some.inj hjo
          exact hdeps e he hb
        · rw [if_neg hji] at hdj
          exact hc j o hjo hdj e he hb
    have put : ∀ v w', wordOf Ws i v w' → Ext w w' → ∀ j, j < ops.size → (if j = i then true else d j) = true → wordOf Ws j (if j = i then v else x j) w' := by
      intro v w' hv he j hj hdj
      by_cases hji : j = i
      · subst hji; simpa using hv
      · rw [if_neg hji] at hdj ⊢
        exact hword j hj _ _ _ (hw j hj hdj) he
    by_cases hiK : i = K
    · subst hiK
      have hall : ∀ k j, j + k = i → j ∉ late → d j = true ∨ j = i := by
        intro k
        induction k using Nat.strongRecOn with
        | _ k ih =>
          intro j hjk hjl
          by_cases hji : j = i
          · exact .inr hji
          · left
            rcases hanc' j (by omega) with h | h | ⟨q, o, q1, q2, q3, q4, e, e1, e2, e3⟩
            · exact absurd h hji
            · exact absurd h hjl
            · rcases ih (i - q) (by omega) q (by omega) q3 with h | h
              · rw [← e2]; exact hc q o q4 h e e1 e3
              · subst h
                rw [hoi] at q4
                obtain rfl := Option.some.inj q4
                rw [← e2]; exact hdeps e e1 e3
      have hst := store x w (h1 hd) (allWordsIf_of Ws 0 (fun j _ => by simp) (fun j hj hcj => by
        simp only [Bool.not_eq_true', Bool.or_eq_false_iff, beq_eq_false_iff_ne] at hcj
        obtain ⟨c1, c2⟩ := hcj
        have hjl : j ∉ late := by simpa using c2
        rcases hanc' j (by omega) with h | h | ⟨q, o, q1, q2, q3, q4, e, e1, e2, e3⟩
        · exact absurd h c1
        · exact absurd h hjl
        · rcases hall (i - j) j (by omega) hjl with h | h
          · exact hw j (by omega) h
          · exact absurd h c1)) _ hoi
      have hgn : (ops[i]).guard = none := by rw [hoi] at hK; simpa using hK
      have hwt : Region.wanted ops[i] (yielded ops (putsF x 0 (ops.toList.map (·.dst)) base).tmps) = true := by unfold Region.wanted; rw [hgn]
      rw [if_pos hwt]
      rw [hFF x]
      refine Oper.wp_mono ?_ hst
      rintro a' w' ⟨v, rfl, hv, hR, he⟩
      exact ⟨v, rfl, put v w' hv he, hcl, by simp, fun _ => hR⟩
    · rcases (Bool.eq_false_or_eq_true (d K)).symm with hdK | hdK
      ·
        have hs := OpStepG.one hn hg hFF hmem (OpStepsB.get steps i ops[i] (by simp [hi]) (by simp [hiK]))
        rw [Nat.zero_add] at hs
        have := hs x w (h1 hdK) hD
        split
        · rename_i hwt
          rw [if_pos hwt] at this
          refine Oper.wp_mono ?_ this
          rintro a' w' ⟨v, rfl, hv, hR, he⟩
          refine ⟨v, rfl, put v w' hv he, hcl, fun _ => hR, fun h => ?_⟩
          have hKi : ¬ K = i := fun e => hiK e.symm
          simp [hKi, hdK] at h
        · rename_i hwt
          rw [if_neg hwt] at this
          refine ⟨put undef w this (refl w), hcl, fun _ => h1 hdK, fun h => ?_⟩
          have hKi : ¬ K = i := fun e => hiK e.symm
          simp [hKi, hdK] at h
      ·
        have hKi : ¬ K = i := fun e => hiK e.symm
        have hil : i ∈ late := by
          rcases Nat.lt_or_ge K ops.size with hKs | hKs
          · have hall : ∀ k j, j + k = K → j ∉ late → d j = true := by
              intro k
              induction k using Nat.strongRecOn with
              | _ k ih =>
                intro j hjk hjl
                by_cases hji : j = K
                · subst hji; exact hdK
                · rcases hanc' j (by omega) with h | h | ⟨q, o, q1, q2, q3, q4, e, e1, e2, e3⟩
                  · exact absurd h hji
                  · exact absurd h hjl
                  · have h := ih (K - q) (by omega) q (by omega) q3
                    rw [← e2]; exact hc q o q4 h e e1 e3
            by_cases hil : i ∈ late
            · exact hil
            · exfalso
              rcases hanc' i hi with h | h | ⟨q, o, q1, q2, q3, q4, e, e1, e2, e3⟩
              · exact hiK h
              · exact hil h
              · have := hall (K - i) i (by omega) hil
                rw [hd] at this; cases this
          · rw [Array.getElem?_eq_none hKs] at hK; cases hK
        have hs := OpStepG.one hn hg hFF hmem (OpStepsB.get steps2 i ops[i] (by simp [hi]) (by simp [hil]))
        rw [Nat.zero_add] at hs
        have := hs x w (h2 hdK) hD
        split
        · rename_i hwt
          rw [if_pos hwt] at this
          refine Oper.wp_mono ?_ this
          rintro a' w' ⟨v, rfl, hv, hR, he⟩
          refine ⟨v, rfl, put v w' hv he, hcl, fun h => ?_, fun _ => hR⟩
          simp [hKi, hdK] at h
        · rename_i hwt
          rw [if_neg hwt] at this
          refine ⟨put undef w this (refl w), hcl, fun h => ?_, fun _ => h2 hdK⟩
          simp [hKi, hdK] at h
  · rintro d x w hall ⟨hw, hc, h1, h2⟩
    have hKs : K < ops.size := by
      rcases Nat.lt_or_ge K ops.size with h | h
      · exact h
      · rw [Array.getElem?_eq_none h] at hK; cases hK
    rw [hFF x]
    exact fin x w (h2 (hall K hKs)) (allWords_of Ws 0 (fun j _ => by simp) (fun j hj => hw j (by omega) (hall j (by omega))))
end
theorem GoesBut.then_set {g : Nat} {w w' : World} (h : GoesBut g w w') (j : Nat) (u : Value) : GoesBut g w (w'.setCell ⟨g, j, none⟩ u) := ⟨by simpa using h.1, fun k hk hne => (Below.heap_setCell w' _ u k hne).trans (h.2 k hk hne)⟩
theorem GoesBut.trans {g : Nat} {w w' w2 : World} (h : GoesBut g w w') (h' : GoesBut g w' w2) : GoesBut g w w2 := ⟨Nat.le_trans h.1 h'.1, fun k hk hne => (h'.2 k (Nat.lt_of_lt_of_le hk h.1) hne).trans (h.2 k hk hne)⟩
/-- From skip to step, written out. -/
theorem skipped {p : Prop} {b : Bool} (hb : b = true) : b = false → p := fun h => by rw [hb] at h; cases h
end Go.Proofs.YtodpaejakgjblaaDoor
namespace Go.Proofs.YtodpaejakgjblaaDoor
open Go.RowKit
set_option linter.unusedVariables false
/-- What is said of a slot, by what is done. -/
abbrev WordX := (Nat → Bool) → Value → World → Prop
def wordX (Ws : List WordX) (d : Nat → Bool) (i : Nat) (v : Value) (w : World) : Prop := match Ws[i]? with | some p => p d v w | none => True
def setD (d : Nat → Bool) (i : Nat) : Nat → Bool := fun j => if j = i then true else d j
def leD (d d' : Nat → Bool) : Prop := ∀ j, d j = true → d' j = true
theorem setD_le (d : Nat → Bool) (i : Nat) : leD d (setD d i) := fun j h => by unfold setD; split <;> simp_all
theorem setD_self (d : Nat → Bool) (i : Nat) : setD d i i = true := by simp [setD]
theorem setD_ne (d : Nat → Bool) {i j : Nat} (h : j ≠ i) : setD d i j = d j := by simp [setD, h]
def StaysX (p : WordX) : Prop := ∀ d d' v w w', leD d d' → Goes w w' → p d v w → p d' v w'
def AllStaysX : List WordX → Prop
  | [] => True
  | p :: ps => StaysX p ∧ AllStaysX ps
theorem AllStaysX.mem : ∀ {l : List WordX}, AllStaysX l → ∀ p ∈ l, StaysX p
  | [], _, p, hp => by cases hp
  | q :: l, h, p, hp => by
    rcases List.mem_cons.1 hp with rfl | hp
    · exact h.1
    · exact AllStaysX.mem h.2 p hp
/-- What is said of all slots that are done. -/
def DoneX (d : Nat → Bool) (x : Nat → Value) (w : World) : Nat → List WordX → Prop
  | _, [] => True
  | i, p :: ps => (d i = true → p d (x i) w) ∧ DoneX d x w (i + 1) ps
/-- What was said holds still, behind operation K. -/
def KeepX (d : Nat → Bool) (K : Nat) (x : Nat → Value) (w w' : World) : Nat → List WordX → Prop
  | _, [] => True
  | i, p :: ps => (i ≠ K → d i = true → p d (x i) w → p (setD d K) (x i) w') ∧ KeepX d K x w w' (i + 1) ps
def AllX (x : Nat → Value) (w : World) : Nat → List WordX → Prop
  | _, [] => True
  | i, p :: ps => p (fun _ => true) (x i) w ∧ AllX x w (i + 1) ps
theorem doneX_of {Ws : List WordX} {d : Nat → Bool} {x : Nat → Value} {w : World} : ∀ (ps : List WordX) (k : Nat), (∀ j, j < ps.length → ps[j]? = Ws[k + j]?) → (∀ i, i < Ws.length → d i = true → wordX Ws d i (x i) w) → DoneX d x w k ps
  | [], _, _, _ => trivial
  | p :: ps, k, h, hw => by
    refine ⟨fun hd => ?_, doneX_of ps (k + 1) (fun j hj => ?_) hw⟩
    · have h0 := h 0 (by simp)
      simp at h0
      have hk : k < Ws.length := by
        rcases Nat.lt_or_ge k Ws.length with h1 | h1
        · exact h1
        · rw [List.getElem?_eq_none h1] at h0; cases h0
      have := hw k hk hd
      unfold wordX at this
      rw [← h0] at this
      exact this
    · have := h (j + 1) (by simpa using hj)
      rw [show k + 1 + j = k + (j + 1) by omega, ← this]
      simp
theorem allX_of {Ws : List WordX} {d : Nat → Bool} {x : Nat → Value} {w : World} (stays : AllStaysX Ws) : ∀ (ps : List WordX) (k : Nat), (∀ j, j < ps.length → ps[j]? = Ws[k + j]?) → (∀ i, i < Ws.length → wordX Ws d i (x i) w) → AllX x w k ps
  | [], _, _, _ => trivial
  | p :: ps, k, h, hw => by
    refine ⟨?_, allX_of stays ps (k + 1) (fun j hj => ?_) hw⟩
    · have h0 := h 0 (by simp)
      simp at h0
      have hk : k < Ws.length := by
        rcases Nat.lt_or_ge k Ws.length with h1 | h1
        · exact h1
        · rw [List.getElem?_eq_none h1] at h0; cases h0
      have := hw k hk
      unfold wordX at this
      rw [← h0] at this
      exact stays.mem p (List.mem_of_getElem? h0.symm) d _ _ w w (fun _ _ => rfl) (Below.refl _ _) this
    · have := h (j + 1) (by simpa using hj)
      rw [show k + 1 + j = k + (j + 1) by omega, ← this]
      simp
theorem KeepX.get {Ws : List WordX} {d : Nat → Bool} {K : Nat} {x : Nat → Value} {w w' : World} : ∀ {ps : List WordX} {k : Nat}, KeepX d K x w w' k ps → ∀ j p, ps[j]? = some p → k + j ≠ K → d (k + j) = true → p d (x (k + j)) w → p (setD d K) (x (k + j)) w'
  | [], _, _, j, p, hp => by simp at hp
  | q :: ps, k, h, 0, p, hp => by simp at hp; subst hp; exact h.1
  | q :: ps, k, h, j + 1, p, hp => by
    have := KeepX.get (Ws := Ws) h.2 j p (by simpa using hp)
    rwa [show k + 1 + j = k + (j + 1) by omega] at this
section
variable {P : Program} {ops : Array Oper} {Q : Exit → Act → World → Prop}
/-- What is there, of those done that an operation waits for. -/
def SrcX (ops : Array Oper) (d : Nat → Bool) (o : Oper) : Prop := ∀ e ∈ o.after.toList, Region.binds .any e = true → d e.on = true
/-- Whatever an operation that is done waited for is done. -/
def ClosedX (ops : Array Oper) (d : Nat → Bool) : Prop := ∀ j o, ops[j]? = some o → d j = true → SrcX ops d o
/-- Operation i is waited for by operation j, through others; within so many steps. -/
def reachX (ops : Array Oper) : Nat → Nat → Nat → Bool
  | 0, i, j => i == j
  | n + 1, i, j => i == j || (match ops[j]? with | some o => o.after.toList.any fun e => Region.binds .any e && reachX ops n i e.on | none => false)
theorem ClosedX.reach {ops : Array Oper} {d : Nat → Bool} (h : ClosedX ops d) : ∀ (n i j : Nat), reachX ops n i j = true → d j = true → d i = true
  | 0, i, j, hr, hj => by simp [reachX] at hr; subst hr; exact hj
  | n + 1, i, j, hr, hj => by
    unfold reachX at hr
    rw [Bool.or_eq_true] at hr
    rcases hr with hr | hr
    · simp at hr; subst hr; exact hj
    · cases ho : ops[j]? with
      | none => rw [ho] at hr; simp at hr
      | some o =>
        rw [ho] at hr
        simp only [List.any_eq_true, Bool.and_eq_true] at hr
        obtain ⟨e, he, hb, hr⟩ := hr
        exact ClosedX.reach h n i e.on hr (h j o ho hj e he hb)
theorem SrcX.reach {ops : Array Oper} {d : Nat → Bool} (h : ClosedX ops d) {K : Nat} {o : Oper} (hs : SrcX ops d o) (ho : ops[K]? = some o) (n i : Nat) (hi : i ≠ K) (hr : reachX ops (n + 1) i K = true) : d i = true := by
  unfold reachX at hr
  rw [Bool.or_eq_true] at hr
  rcases hr with hr | hr
  · simp at hr; exact absurd hr hi
  · rw [ho] at hr
    simp only [List.any_eq_true, Bool.and_eq_true] at hr
    obtain ⟨e, he, hb, hr⟩ := hr
    exact h.reach n i e.on hr (hs e he hb)
def NextX (A : Act) (dst : Option Tmp) (Ws : List WordX) (d : Nat → Bool) (i : Nat) (R : World → Prop) (w : World) (a' : Act) (w' : World) : Prop := ∃ v, a' = A.put dst v ∧ wordX Ws (setD d i) i v w' ∧ R w' ∧ Goes w w'
def NextK (A : Act) (dst : Option Tmp) (Ws : List WordX) (d : Nat → Bool) (i : Nat) (x : Nat → Value) (R : World → Prop) (w : World) (a' : Act) (w' : World) : Prop := ∃ v, a' = A.put dst v ∧ wordX Ws (setD d i) i v w' ∧ R w' ∧ KeepX d i x w w' 0 Ws
/-- An operation behind which all that was said holds still of itself. -/
def OpStepX (P : Program) (ops : Array Oper) (Q : Exit → Act → World → Prop) (Ws : List WordX) (R : World → Prop) (FF : (Nat → Value) → Act) (i : Nat) (o : Oper) : Prop :=
  ∀ (d : Nat → Bool) (x : Nat → Value) (w : World), R w → d i = false → SrcX ops d o → Deps (wordX Ws d) x w o.after.toList →
    (wantedX o x = true → Oper.wp P o (FF x) w (NextX (FF x) o.dst Ws d i R w) Q) ∧ (wantedX o x = false → wordX Ws (setD d i) i undef w)
/-- An operation of which all that was said must be shown again. -/
def OpSpecX (P : Program) (ops : Array Oper) (Q : Exit → Act → World → Prop) (Ws : List WordX) (R : World → Prop) (FF : (Nat → Value) → Act) (i : Nat) (o : Oper) : Prop :=
  ∀ (d : Nat → Bool) (x : Nat → Value) (w : World), R w → d i = false → ClosedX ops d → SrcX ops d o → DoneX d x w 0 Ws →
    (wantedX o x = true → Oper.wp P o (FF x) w (NextK (FF x) o.dst Ws d i x R w) Q) ∧ (wantedX o x = false → wordX Ws (setD d i) i undef w)
def OpStepsX (P : Program) (ops : Array Oper) (Q : Exit → Act → World → Prop) (Ws : List WordX) (R : World → Prop) (FF : (Nat → Value) → Act) (sp : List Nat) : Nat → List Oper → Prop
  | _, [] => True
  | i, o :: os => (sp.contains i = false → OpStepX P ops Q Ws R FF i o) ∧ OpStepsX P ops Q Ws R FF sp (i + 1) os
def OpSpecsX (P : Program) (ops : Array Oper) (Q : Exit → Act → World → Prop) (Ws : List WordX) (R : World → Prop) (FF : (Nat → Value) → Act) (sp : List Nat) : Nat → List Oper → Prop
  | _, [] => True
  | i, o :: os => (sp.contains i = true → OpSpecX P ops Q Ws R FF i o) ∧ OpSpecsX P ops Q Ws R FF sp (i + 1) os
theorem OpStepsX.get {Ws : List WordX} {R : World → Prop} {FF : (Nat → Value) → Act} {sp : List Nat} : ∀ {l : List Oper} {k : Nat}, OpStepsX P ops Q Ws R FF sp k l → ∀ i o, l[i]? = some o → sp.contains (k + i) = false → OpStepX P ops Q Ws R FF (k + i) o
  | [], _, _, i, o, h, _ => by simp at h
  | p :: l, k, hs, 0, o, h, hk => by simp at h; subst h; exact hs.1 hk
  | p :: l, k, hs, i + 1, o, h, hk => by
    have := OpStepsX.get hs.2 i o (by simpa using h) (by rwa [show k + 1 + i = k + (i + 1) by omega])
    rwa [show k + 1 + i = k + (i + 1) by omega] at this
theorem OpSpecsX.get {Ws : List WordX} {R : World → Prop} {FF : (Nat → Value) → Act} {sp : List Nat} : ∀ {l : List Oper} {k : Nat}, OpSpecsX P ops Q Ws R FF sp k l → ∀ i o, l[i]? = some o → sp.contains (k + i) = true → OpSpecX P ops Q Ws R FF (k + i) o
  | [], _, _, i, o, h, _ => by simp at h
  | p :: l, k, hs, 0, o, h, hk => by simp at h; subst h; exact hs.1 hk
  | p :: l, k, hs, i + 1, o, h, hk => by
    have := OpSpecsX.get hs.2 i o (by simpa using h) (by rwa [show k + 1 + i = k + (i + 1) by omega])
    rwa [show k + 1 + i = k + (i + 1) by omega] at this
theorem wp_region_exp {id : Nat} {base : Act} {w0 : World} (hm : P.follows .mixedOrders = true) {FF : (Nat → Value) → Act} (hFF : ∀ x, putsF x 0 (ops.toList.map (·.dst)) base = FF x) (R : World → Prop) (Ws : List WordX) (sp : List Nat)
    (hn : noTwice (ops.toList.map (·.dst)) = true) (hg : guardsIn ops base.tmps.size = true) (hwf : wellFormed ops = true) (hlen : Ws.length = ops.size)
    (stays : AllStaysX Ws) (start : R w0.drew)
    (steps : OpStepsX P ops Q Ws R FF sp 0 ops.toList) (specs : OpSpecsX P ops Q Ws R FF sp 0 ops.toList)
    (fin : ∀ (x : Nat → Value) (w : World), R w → AllX x w 0 Ws → Q .normal (FF x) w) :
    (Code.region id ops true).wp P Q base w0 := by
  have hword : ∀ (i : Nat) d d' v w w', wordX Ws d i v w → leD d d' → Goes w w' → wordX Ws d' i v w' := by
    intro i d d' v w w' hw hd he
    unfold wordX at hw ⊢
    cases hp : Ws[i]? with
    | none => trivial
    | some p =>
      rw [hp] at hw
      exact stays.mem p (List.mem_of_getElem? hp) _ _ _ _ _ hd he hw
  refine wp_region_joint hm (fun d x w => R w ∧ (∀ i, i < ops.size → d i = true → wordX Ws d i (x i) w) ∧ ClosedX ops d) hn hwf ?_ ?_ ?_
  · exact fun x => ⟨start, by simp, fun j o _ h => by cases h⟩
  · rintro i hi d x w ⟨hR, hw, hcl⟩ hd hdeps
    have hoi : ops[i]? = some ops[i] := Array.getElem?_eq_getElem hi
    have hmem : ops[i] ∈ ops.toList := by simp
    have hlt : ∀ e ∈ (ops[i]).after.toList, Region.binds .any e = true → e.on < ops.size := by
      intro e he hb
      unfold wellFormed at hwf
      rw [List.all_eq_true] at hwf
      have := hwf (ops[i], i) (by rw [List.mem_zipIdx_iff_getElem?]; simp [hi])
      simp only [Array.all_eq_true'] at this
      have := this e (by simpa using he)
      have : e.on < i := by simpa [hb] using this
      omega
    have hwant : Region.wanted ops[i] (yielded ops (putsF x 0 (ops.toList.map (·.dst)) base).tmps) = wantedX ops[i] x := wanted_eq hn hg ops[i] hmem x
    have hset : (fun j => if j = i then true else d j) = setD d i := rfl
    have put : ∀ v w', wordX Ws (setD d i) i v w' → (∀ j, j < ops.size → j ≠ i → d j = true → wordX Ws (setD d i) j (x j) w') → ∀ j, j < ops.size → setD d i j = true → wordX Ws (setD d i) j (if j = i then v else x j) w' := by
      intro v w' hv ho j hj hdj
      by_cases hji : j = i
      · subst hji; simpa using hv
      · rw [setD_ne d hji] at hdj
        rw [if_neg hji]
        exact ho j hj hji hdj
    have hcl2 : ClosedX ops (setD d i) := by
      intro j o hj hdj e he hb
      by_cases hji : j = i
      · subst hji
        rw [hoi] at hj
        obtain rfl := Option.some.inj hj
        exact setD_le d _ _ (hdeps e he hb)
      · rw [setD_ne d hji] at hdj
        exact setD_le d _ _ (hcl j o hj hdj e he hb)
    rw [hwant, hFF x, hset]
    cases hsp : sp.contains i with
    | false =>
      have hs := OpStepsX.get steps i ops[i] (by simp [hi]) (by rw [Nat.zero_add]; exact hsp)
      rw [Nat.zero_add] at hs
      have hs := hs d x w hR hd hdeps (Deps.of (fun e he hb => hw _ (hlt e he hb) (hdeps e he hb)))
      split
      · rename_i hwt
        refine Oper.wp_mono ?_ (hs.1 hwt)
        rintro a' w' ⟨v, rfl, hv, hR', he⟩
        exact ⟨v, rfl, hR', put v w' hv (fun j hj hji hdj => hword j d _ _ w w' (hw j hj hdj) (setD_le d i) he), hcl2⟩
      · rename_i hwt
        exact ⟨hR, put undef w (hs.2 (by simpa using hwt)) (fun j hj hji hdj => hword j d _ _ w w (hw j hj hdj) (setD_le d i) (Below.refl _ _)), hcl2⟩
    | true =>
      have hs := OpSpecsX.get specs i ops[i] (by simp [hi]) (by rw [Nat.zero_add]; exact hsp)
      rw [Nat.zero_add] at hs
      have hs := hs d x w hR hd hcl hdeps (doneX_of Ws 0 (fun j _ => by simp) (fun j hj hdj => hw j (by omega) hdj))
      split
      · rename_i hwt
        refine Oper.wp_mono ?_ (hs.1 hwt)
        rintro a' w' ⟨v, rfl, hv, hR', he⟩
        refine ⟨v, rfl, hR', put v w' hv (fun j hj hji hdj => ?_), hcl2⟩
        have h0 := hw j hj hdj
        unfold wordX at h0 ⊢
        cases hp : Ws[j]? with
        | none => trivial
        | some p =>
          rw [hp] at h0
          have := he.get (Ws := Ws) j p hp
          rw [Nat.zero_add] at this
          exact this hji hdj h0
      · rename_i hwt
        exact ⟨hR, put undef w (hs.2 (by simpa using hwt)) (fun j hj hji hdj => hword j d _ _ w w (hw j hj hdj) (setD_le d i) (Below.refl _ _)), hcl2⟩
  · rintro d x w hall ⟨hR, hw, -⟩
    rw [hFF x]
    exact fin x w hR (allX_of (d := d) stays Ws 0 (fun j _ => by simp) (fun j hj => hw j (by omega) (hall j (by omega))))
end
/-- A word that never ends. -/
def always (p : Value → World → Prop) : WordX := fun _ v w => p v w
/-- A word that ends when operation k is done. -/
def until_ (k : Nat) (p : Value → World → Prop) : WordX := fun d v w => d k = false → p v w
theorem always_stays {p : Value → World → Prop} (h : ∀ v w w', p v w → Goes w w' → p v w') : StaysX (always p) := fun _ _ v w w' _ he hp => h v w w' hp he
theorem until_stays {k : Nat} {p : Value → World → Prop} (h : ∀ v w w', p v w → Goes w w' → p v w') : StaysX (until_ k p) := fun d d' v w w' hd he hp hk => h v w w' (hp (by
  cases e : d k with
  | false => rfl
  | true => have := hd k e; rw [hk] at this; cases this)) he
theorem unskipped {p : Prop} {b : Bool} (hb : b = false) : b = true → p := fun h => by rw [hb] at h; cases h
def isX (u : Value) : WordX := fun _ v _ => v = u
theorem isX_stays (u : Value) : StaysX (isX u) := fun _ _ v w w' _ _ h => h
theorem nextX {A a' : Act} {dst : Option Tmp} {Ws : List WordX} {d : Nat → Bool} {i : Nat} {R : World → Prop} {w w' : World} (v : Value) (ha : a' = A.put dst v) (hp : wordX Ws (setD d i) i v w') (hR : R w') (he : Goes w w') : NextX A dst Ws d i R w a' w' := ⟨v, ha, hp, hR, he⟩
theorem nextK {A a' : Act} {dst : Option Tmp} {Ws : List WordX} {d : Nat → Bool} {i : Nat} {x : Nat → Value} {R : World → Prop} {w w' : World} (v : Value) (ha : a' = A.put dst v) (hp : wordX Ws (setD d i) i v w') (hR : R w') (he : KeepX d i x w w' 0 Ws) : NextK A dst Ws d i x R w a' w' := ⟨v, ha, hp, hR, he⟩
end Go.Proofs.YtodpaejakgjblaaDoor
