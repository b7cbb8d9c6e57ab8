/- Texts that walks stand on, one behind the other. -/
import Derived.Test.YtkdknfedieeenaaGreatDoorMgSE
import Derived.Test.YtkdknfedieeenaaGreatDoorMgSD
import Derived.Test.YtkdknfedieeenaaGreatDoorView
namespace Go.Proofs.YtkdknfedieeenaaGreatDoor
open Go.RowKit
set_option linter.unusedVariables false
set_option linter.unusedSimpArgs false
set_option maxRecDepth 20000
abbrev m5 : ByteArray → Option Int := upd (fun _ => none) (wordT 2 ⟨#[]⟩) (some 5)
theorem m5_other {k : Int} {n : ByteArray} (hk : 0 ≤ k ∧ k < 256) (h : k ≠ 2 ∨ n ≠ ⟨#[]⟩) : m5 (wordT k n) = none := by
  unfold m5
  rw [upd_other]
  intro e
  obtain ⟨e1, e2⟩ := wordT_inj hk (by omega) e
  rcases h with h | h
  · exact h e1
  · exact h e2
theorem wild_root : ∀ (ls : List (List UInt8)) (f : Nat), OkLs ls → (wire ls).length + 1 ≤ f → wildO m5 2 f (some (wire ls)) = some (5, [])
  | [], 0, _, h => by omega
  | [], f + 1, _, _ => by
    unfold wildO
    have : m5 (wordT 2 (baL (wire []))) = some 5 := upd_same _ _ _
    rw [this]; rfl
  | l :: ls, 0, _, h => by omega
  | l :: ls, f + 1, hok, h => by
    have hl := hok.labels
    have hw : wire (l :: ls) ≠ [] := by simp [wire]
    unfold wildO
    rw [m5_other (by omega) (.inr (fun e => hw (by have := congrArg (fun b : ByteArray => b.data.toList) e; simpa [baL] using this)))]
    have hp : parentOf (baL (wire (l :: ls))) = some (wire ls) := by
      have hlb : labelsOf (baL (wire (l :: ls))) = some (l :: ls) := hl
      unfold parentOf
      rw [hlb]
    rw [hp]
    refine wild_root ls f hok.tail ?_
    have : (wire ls).length < (wire (l :: ls)).length := by simp [wire]; omega
    omega
theorem name_root {X : List (List UInt8)} (hX : OkLs X) (hne : X ≠ []) : nameV m5 1 2 (baL (wire X)) = (5, 2, ⟨#[]⟩, true) := by
  unfold nameV
  rw [m5_other (by omega) (.inl (by omega))]
  obtain ⟨l, ls, rfl⟩ : ∃ l ls, X = l :: ls := by
    cases X with
    | nil => exact absurd rfl hne
    | cons l ls => exact ⟨l, ls, rfl⟩
  have hp : parentOf (baL (wire (l :: ls))) = some (wire ls) := by
    have hlb : labelsOf (baL (wire (l :: ls))) = some (l :: ls) := hX.labels
    unfold parentOf
    rw [hlb]
  rw [hp]
  have hw := wild_root ls ((baL (wire (l :: ls))).size + 1) hX.tail (by
    rw [baL_sz]
    have : (wire ls).length ≤ (wire (l :: ls)).length := by simp [wire]; omega
    omega)
  rw [hw]; rfl
theorem name_none : nameV m5 1 2 ⟨#[]⟩ = (0, 0, ⟨#[]⟩, false) := by decide +kernel
theorem enc_root : ∃ z, encR (toT 2 ⟨#[]⟩ ⟨#[]⟩ 0) = some z := by
  have h := (good_name (k := 2) (X := []) ⟨by simp, by decide⟩ (.inr (.inl rfl)) (by intro h; omega)).enc
  exact ⟨_, h⟩
theorem enc_pfx0 {a : List UInt8} (h : isAddr a.length = true) : ∃ z, encR (toT 3 ⟨#[]⟩ (baL (cutL a 0)) 0) = some z := by
  have hm : mayP (cutL a 0) 0 = true := by
    unfold mayP
    rw [Bool.and_eq_true]
    refine ⟨?_, ?_⟩
    · unfold isCut
      rw [cutL_length, h]
      simp
      omega
    · show (cutL (cutL a 0) 0 == cutL a 0) = true
      rw [cutL_cutL a 0 (by omega)]; simp
  exact ⟨_, (good_pfx hm (.inr (.inl rfl))).enc⟩
noncomputable def s5 : IxS := putI emptyI (toT 2 ⟨#[]⟩ ⟨#[]⟩ 0) 5
noncomputable def s6 (a : List UInt8) : IxS := putI s5 (toT 3 ⟨#[]⟩ (baL (cutL a 0)) 0) 6
theorem s5_is : s5 = { emptyI with M := m5, lv := 1 } := by
  obtain ⟨z, h⟩ := enc_root
  unfold s5
  rw [putI_nam h rfl]; rfl
theorem put5 : putB emptyI (toT 2 ⟨#[]⟩ ⟨#[]⟩ 0) = true := by
  obtain ⟨z, h⟩ := enc_root
  rw [putB_nam h rfl]; rfl
theorem pfx0_not {a : List UInt8} (h : isAddr a.length = true) : namB (toT 3 ⟨#[]⟩ (baL (cutL a 0)) 0) = false := by
  rw [Bool.eq_false_iff]
  intro e
  have h1 := ((namB_iff _).1 e).1
  have h2 : (cutL a 0).length = 0 := by
    have := congrArg List.length h1
    simpa [toT, baL] using this
  rw [cutL_length] at h2
  have := isAddr_pos h
  omega
theorem key0 (a : List UInt8) : keyP (toT 3 ⟨#[]⟩ (baL (cutL a 0)) 0) = [] := by unfold keyP toT; simp [signs]
theorem fam0 (a : List UInt8) : famP (toT 3 ⟨#[]⟩ (baL (cutL a 0)) 0) = (3, (a.length : Int)) := by
  have : (baL (cutL a 0)).data.toList.length = a.length := by rw [show (baL (cutL a 0)).data.toList = cutL a 0 from rfl, cutL_length]
  unfold famP toT
  rw [this]
theorem put6 {a : List UInt8} (h : isAddr a.length = true) : putB s5 (toT 3 ⟨#[]⟩ (baL (cutL a 0)) 0) = true := by
  obtain ⟨z, he⟩ := enc_pfx0 h
  rw [putB_some he]
  unfold IxS.val
  rw [pfx0_not h, if_neg (by simp), s5_is]
  show (getR (emptyI.G (famP (toT 3 ⟨#[]⟩ (baL (cutL a 0)) 0))) (keyP (toT 3 ⟨#[]⟩ (baL (cutL a 0)) 0))).isNone = true
  rw [emptyI_get]; rfl
theorem s6_is {a : List UInt8} (h : isAddr a.length = true) : (s6 a).M = m5 ∧ (s6 a).G = fun f => if f = (3, (a.length : Int)) then leafR [] 6 else .nil := by
  obtain ⟨z, he⟩ := enc_pfx0 h
  unfold s6
  rw [putI_some he]
  unfold IxS.put
  rw [pfx0_not h, if_neg (by simp), s5_is, key0, fam0]
  exact ⟨rfl, rfl⟩
theorem addr_zero {a : List UInt8} (h : isAddr a.length = true) : adrV (s6 a).G 3 (baL a) = (6, 3, baL (cutL a 0), 0, true) := by
  have hs : (baL a).size = a.length := baL_sz a
  unfold adrV
  rw [(s6_is h).2, hs]
  simp only [if_true]
  have : longR (leafR [] 6) (signs (bitsL (baL a).data.toList)) none = some (0, 6) := by
    unfold leafR longR
    simp only [List.nil_prefix, if_true]
    split
    · rfl
    · rfl
  rw [this]
  rfl
theorem addr_other {a b : List UInt8} (h : isAddr a.length = true) (hb : b.length ≠ a.length) : adrV (s6 a).G 3 (baL b) = (0, 0, ⟨#[]⟩, 0, false) := by
  have hs : (baL b).size = b.length := baL_sz b
  unfold adrV
  rw [(s6_is h).2, hs]
  simp only
  rw [if_neg (by intro e; simp only [Prod.mk.injEq] at e; omega)]
  rfl
/-- A box beside an index is kept. -/
theorem IXn.keep1 {W w w' : World} {B b most g : Nat} {own : List Nat} {S : IxS} {cs : List Value} (h : IXn W B b own S most w w') (hc : Cs w g cs) (hg : g ∉ own) : ∃ own', IXs W B b own' S most w' ∧ Cs w' g cs ∧ g ∉ own' := by
  obtain ⟨own', h1, h2, h3⟩ := h
  refine ⟨own', h1, h2.cs hc hg, fun e => ?_⟩
  rcases h3 g e with h4 | h4
  · exact hg h4
  · have := hc.lt; omega
end Go.Proofs.YtkdknfedieeenaaGreatDoor
namespace Go.Proofs.YtkdknfedieeenaaGreatDoor
open Go.RowKit
set_option linter.unusedVariables false
set_option linter.unusedSimpArgs false
set_option maxRecDepth 20000
theorem trig_one (zs : List Int) : ∃ X, OkLs X ∧ X ≠ [] ∧ trigD 1 zs false 0 = ⟨1, wire X, [], 0⟩ := by
  have hf : FewX (namD 1 zs) := by
    unfold namD
    split
    · exact ⟨by decide, by decide⟩
    · exact fewK_ok zs _
  have hne : namD 1 zs ≠ [] := by
    unfold namD
    split
    · simp
    · rename_i h; exact fun e => h ⟨e, .inl rfl⟩
  refine ⟨namD 1 zs, hf.ok, hne, ?_⟩
  unfold trigD
  rw [if_neg (by omega), show (1 : Int) % 7 = 1 from rfl, hf.ok.make]
  rfl
theorem isAddr_D (six : Bool) (l : List UInt8) : isAddr (addrD six l).length = true := by rw [addrD_len]; cases six <;> rfl
set_option maxHeartbeats 32000000 in
theorem indexAll_walk (w : World) (hL : LaidT w) (A : Option Addr) (n c : Nat) (zs : List Int) (S0 : SlView w A n c (zs.map (Value.int .u8))) (hl0 : zs.length = n) (hz0 : ∀ z ∈ zs, (Lit.int .u8 z).wf = true) (hc0 : c ≤ 140737488351232) (six : Bool)
    (D : Option Addr) (m d : Nat) (ys : List Int) (S2 : SlView w D m d (ys.map (Value.int .u8))) (hl2 : ys.length = m) (hz2 : ∀ z ∈ ys, (Lit.int .u8 z).wf = true) (hc2 : d ≤ 140737488351232) :
    Calls Tryz.prog 9 #[.slice A n c, .bool six, .slice D m d] w fun e w' => e = .returned (.bool true) ∧ Below w.heap.size w w' := by
  obtain ⟨ml, hml⟩ : ∃ l : List UInt8, ys.map (Value.int .u8) = l.map bv := bytes_of ys hz2
  obtain ⟨X, hX1, hX2, hX3⟩ := trig_one zs
  have haw := awake17_any w hL
  have htr : ∀ wx, Below w.heap.size w wx → Calls Tryz.prog 30 #[.int .u8 1, .slice A n c, .bool false, .int .u8 0] wx fun e w' => e = .returned (.agg #[.int .i64 1, .string (baL (wire X)), .string ⟨#[]⟩, .int .i64 0]) ∧ Below wx.heap.size wx w' := by
    intro wx hb
    refine (trigD_any 1 (by omega) A n c zs false 0 (by omega) wx ((S0.sl.below hb).more hb.size) (fun z h => by have := bounds_u8 (hz0 z h); omega) (by have := S0.le; omega)).mono ?_
    rintro e w' ⟨t, rfl, ht, hb'⟩
    rw [ht.eq, hX3]
    exact ⟨rfl, hb'⟩
  have had : ∀ q wx, Below w.heap.size w wx → Calls Tryz.prog 31 #[.bool q, .slice D m d] wx fun e w' => e = .returned (.string (baL (addrD q ml))) ∧ Below wx.heap.size wx w' := by
    intro q wx hb
    have h2 := (S2.sl.below hb).more hb.size
    rw [hml] at h2
    exact addrD_any q D m d ml wx h2 (by have := S2.le; omega)
  obtain ⟨a, ha⟩ : ∃ a, a = baL (addrD six ml) := ⟨_, rfl⟩
  obtain ⟨o, ho⟩ : ∃ o, o = baL (addrD (!six) ml) := ⟨_, rfl⟩
  obtain ⟨PC, hPC⟩ : ∃ PC, PC = baL (cutL (addrD six ml) 0) := ⟨_, rfl⟩
  obtain ⟨NM, hNM⟩ : ∃ NM, NM = baL (wire X) := ⟨_, rfl⟩
  have hia := isAddr_D six ml
  have hal := addrD_len six ml
  have hol := addrD_len (!six) ml
  have had1 := had six
  have had2 := had (!six)
  rw [← ha] at had1
  rw [← ho] at had2
  rw [← hNM] at htr
  have has : a.size = 4 ∨ a.size = 16 := by rw [ha, baL_sz, hal]; cases six <;> simp [addrN]
  have has2 : a.size ≤ 140737488355328 := by omega
  have hos2 : o.size ≤ 140737488355328 := by rw [ho, baL_sz, hol]; cases six <;> simp [addrN]
  have hps2 : PC.size ≤ 140737488355328 := by rw [hPC, baL_sz, cutL_length, hal]; cases six <;> simp [addrN]
  have hns2 : NM.size ≤ 140737488355328 := by rw [hNM, baL_sz]; have := hX1.2; omega
  have hcut := fun wx => cut_addr a 0 wx has (Nat.zero_le _)
  rw [show baL (cutL a.data.toList 0) = PC by rw [hPC, ha]; rfl] at hcut
  have hN1 : nameV (s6 (addrD six ml)).M 1 2 NM = (5, 2, ⟨#[]⟩, true) := by rw [(s6_is hia).1, hNM]; exact name_root hX1 hX2
  have hN2 : nameV (s6 (addrD six ml)).M 1 2 ⟨#[]⟩ = (0, 0, ⟨#[]⟩, false) := by rw [(s6_is hia).1]; exact name_none
  have hA1 : adrV (s6 (addrD six ml)).G 3 a = (6, 3, PC, 0, true) := by rw [ha, hPC]; exact addr_zero hia
  have hA2 : adrV (s6 (addrD six ml)).G 3 o = (0, 0, ⟨#[]⟩, 0, false) := by rw [ho]; exact addr_other hia (by rw [hal, hol]; cases six <;> simp [addrN])
  have hp6 : ∀ W b own wx, IXs W W.heap.size b own s5 1 wx → LaidT wx → Calls Tryz.prog 28 #[.pointer (some ⟨b, 0, none⟩), .agg #[.int .i64 3, .string ⟨#[]⟩, .string PC, .int .i64 0], .int .i64 6] wx fun e w' => e = .returned (.bool true) ∧ IXn W W.heap.size b own (s6 (addrD six ml)) 2 wx w' := by
    intro W b own wx h hl
    refine (put_index h (by omega) 3 ⟨#[]⟩ PC 0 6 (by decide) hps2 hl).mono ?_
    rintro e w' ⟨rfl, h'⟩
    rw [hPC, put6 hia]
    rw [hPC] at h'
    exact ⟨rfl, h'⟩
  have hp5 : ∀ W b own wx, IXs W W.heap.size b own emptyI 0 wx → LaidT wx → Calls Tryz.prog 28 #[.pointer (some ⟨b, 0, none⟩), .agg #[.int .i64 2, .string ⟨#[]⟩, .string ⟨#[]⟩, .int .i64 0], .int .i64 5] wx fun e w' => e = .returned (.bool true) ∧ IXn W W.heap.size b own s5 1 wx w' := by
    intro W b own wx h hl
    refine (put_index h (by omega) 2 ⟨#[]⟩ ⟨#[]⟩ 0 5 (by decide) (by decide) hl).mono ?_
    rintro e w' ⟨rfl, h'⟩
    rw [put5]
    exact ⟨rfl, h'⟩
  obtain ⟨SX, hSX⟩ : ∃ SX, SX = s6 (addrD six ml) := ⟨_, rfl⟩
  rw [← hSX] at hN1 hN2 hA1 hA2 hp6
  have hq1 := fun w => trig_eql 2 2 ⟨#[]⟩ ⟨#[]⟩ ⟨#[]⟩ ⟨#[]⟩ 0 0 w
  simp only [trigEq_iff, decide_true] at hq1
  have hq2 := fun w => pfx_eql PC PC 0 0 w
  rw [show (PC.toList == PC.toList && (0 : Int) == 0) = true by simp] at hq2
  have hfd : ∀ w, (Instr.field 46 (.agg #[.int .i64 1, .string NM, .string ⟨#[]⟩, .int .i64 0]) 1).run Tryz.prog w = .ok (.string NM) w := fun w => by kernel_rfl
  have HAW := Lib.hid haw
  have HTR := Lib.hid htr
  have HAD1 := Lib.hid had1
  have HAD2 := Lib.hid had2
  have HCUT := Lib.hid hcut
  have HN := Lib.hid (And.intro hN1 hN2)
  have HA := Lib.hid (And.intro hA1 hA2)
  have HP5 := Lib.hid hp5
  have HP6 := Lib.hid hp6
  have HQ := Lib.hid (And.intro hq1 hq2)
  have HL := Lib.hid hL
  have HSZ := Lib.hid (And.intro has2 (And.intro hos2 hns2))
  clear haw htr had had1 had2 hcut hN1 hN2 hA1 hA2 hp5 hp6 hq1 hq2 hL has has2 hos2 hps2 hns2 hia hal hol ha ho hPC hNM hX1 hX2 hX3 hml S0 S2 hl0 hl2 hz0 hz2 hc0 hc2 hSX
  go_enter Tryz.func9, Tryz.ntmps9
  go_wp2_with (go_at_call 24; refine HAW.out.mono ?_; rintro e w1 ⟨rfl, hb1⟩; refine Hid.out ?_)
  refine Lib.hid ?_
  have HB1 := Lib.hid hb1
  have HL1 := Lib.hid (HL.out.below hb1 (Nat.le_refl _))
  clear hb1 HAW HL
  have hI2 : IXs w1 w1.heap.size w1.heap.size [w1.heap.size] emptyI 0 (w1.alloc (.cells #[.slice none 0 0, .int .i64 0, .int .i64 0, .map none] 129)) := IXs.start (Below.refl _ _) (Nat.le_refl _)
  obtain ⟨b, hb⟩ : ∃ b, b = w1.heap.size := ⟨_, rfl⟩
  have hof := index_of w1
  obtain ⟨W2, hW2⟩ : ∃ W2, W2 = w1.alloc (.cells #[.slice none 0 0, .int .i64 0, .int .i64 0, .map none] 129) := ⟨_, rfl⟩
  rw [← hW2, ← hb] at hof
  have HI2 : Hid (IXs w1 w1.heap.size b [b] emptyI 0 W2) := Lib.hid (by rw [hb, hW2]; exact hI2)
  have HOF := Lib.hid hof
  have hbel : ∀ wx : World, Below w1.heap.size w1 wx → Below w.heap.size w wx := fun wx h => HB1.out.trans (h.mono HB1.out.size)
  have HBW := Lib.hid hbel
  clear hI2 hof hW2 hb hbel
  go_wp2_with (go_at_call 25; refine HOF.out.mono ?_; rintro e w2 ⟨rfl, rfl⟩; refine Hid.out ?_)
  refine Lib.hid ?_
  clear HOF
  go_wp2_with (go_at_call 30; refine (HTR.out _ (HBW.out _ HI2.out.bel)).mono ?_; rintro e w3 ⟨rfl, hb3⟩; refine Hid.out ?_)
  refine Lib.hid ?_
  have HI3 := Lib.hid (HI2.out.below hb3)
  clear hb3 HI2 HTR
  go_wp2_with (go_at_call 31; refine (HAD1.out _ (HBW.out _ HI3.out.bel)).mono ?_; rintro e w4 ⟨rfl, hb4⟩; refine Hid.out ?_)
  refine Lib.hid ?_
  have HI4 := Lib.hid (HI3.out.below hb4)
  clear hb4 HI3 HAD1
  go_wp2_with (go_at_call 38; refine (HCUT.out _).mono ?_; rintro e w5 ⟨rfl, hb5⟩; refine Hid.out ?_)
  refine Lib.hid ?_
  have HI5 := Lib.hid (HI4.out.below hb5)
  clear hb5 HI4 HCUT
  obtain ⟨g, hg⟩ : ∃ g, g = w5.heap.size := ⟨_, rfl⟩
  obtain ⟨W6, hW6⟩ : ∃ W6, W6 = w5.alloc (.cells #[.string PC, .int .i64 0] 44) := ⟨_, rfl⟩
  have hgb : g ∉ [b] := fun e => by have := HI5.out.lt g e; omega
  have hc6 : Cs W6 g [.string PC, .int .i64 0] := by rw [hW6, hg]; exact Cs.new w5 _ _ _
  have HI6 := Lib.hid (show IXs w1 w1.heap.size b [b] emptyI 0 W6 from HI5.out.below (by rw [hW6]; exact (Below.refl _ _).alloc (Nat.le_refl _) _))
  have HP5' := Lib.hid (HP5.out _ _ _ _ HI6.out (HL1.out.below HI6.out.bel (Nat.le_refl _)))
  have HC6 := Lib.hid hc6
  have HGB := Lib.hid hgb
  have HW6 := Lib.hid hW6
  have HG := Lib.hid hg
  clear hgb hc6 HI5 HP5 hW6 hg
  go_wp2_with (go_at_call 28; rw [← HW6.out]; refine HP5'.out.mono ?_; rintro e w7 ⟨rfl, hI7⟩; refine Hid.out ?_)
  refine Lib.hid ?_
  obtain ⟨own7, hI7, hc7, hg7⟩ := hI7.keep1 HC6.out HGB.out
  have y0 := hc7.get 0 (.string PC)
  have y1 := hc7.get 1 (.int .i64 0)
  have HP6' := Lib.hid (HP6.out _ _ _ _ hI7 (HL1.out.below hI7.bel (Nat.le_refl _)))
  have HC7 := Lib.hid hc7
  have HG7 := Lib.hid hg7
  rw [← HG.out]
  clear hI7 hc7 hg7 HI6 HP5' HC6 HGB HW6 HP6
  go_wp2_with (go_at_call 28; refine HP6'.out.mono ?_; rintro e w8 ⟨rfl, hI8⟩; refine Hid.out ?_)
  refine Lib.hid ?_
  obtain ⟨own8, hI8, hc8, hg8⟩ := hI8.keep1 HC7.out HG7.out
  have HI8 := Lib.hid hI8
  have HC8 := Lib.hid hc8
  clear hI8 hc8 hg8 HP6' HC7 HG7 y0 y1 HG
  have hn1 := name_index HI8.out (by omega) 1 2 NM HSZ.out.2.2
  rw [HN.out.1, show tripV (5, 2, ⟨#[]⟩, true) = .tuple #[.int .i64 5, .agg #[.int .i64 2, .string ⟨#[]⟩, .string ⟨#[]⟩, .int .i64 0], .bool true] from rfl] at hn1
  have HN1 := Lib.hid hn1
  clear hn1
  go_wp2_with (go_at_call 32; refine HN1.out.mono ?_; rintro e w9 ⟨rfl, hb9⟩; refine Hid.out ?_)
  refine Lib.hid ?_
  have HI9 := Lib.hid (HI8.out.below hb9)
  have HC9 := Lib.hid (HC8.out.below hb9)
  clear hb9 HN1 HI8 HC8
  obtain ⟨g2, hg2⟩ : ∃ g, g = w9.heap.size := ⟨_, rfl⟩
  obtain ⟨WA, hWA⟩ : ∃ W, W = w9.alloc (.cells #[.int .i64 2, .string ⟨#[]⟩, .string ⟨#[]⟩, .int .i64 0] 46) := ⟨_, rfl⟩
  have hal : Below w9.heap.size w9 WA := by rw [hWA]; exact (Below.refl _ _).alloc (Nat.le_refl _) _
  have HIA := Lib.hid (HI9.out.below hal)
  have HCA := Lib.hid (HC9.out.below hal)
  have HDA : Hid (Cs WA g2 [.int .i64 2, .string ⟨#[]⟩, .string ⟨#[]⟩, .int .i64 0]) := Lib.hid (by rw [hWA, hg2]; exact Cs.new w9 _ _ _)
  have ha1 := addr_index HIA.out 3 a HSZ.out.1
  rw [HA.out.1, show tripA (6, 3, PC, 0, true) = .tuple #[.int .i64 6, .agg #[.int .i64 3, .string ⟨#[]⟩, .string PC, .int .i64 0], .bool true] from rfl] at ha1
  have HA1 := Lib.hid ha1
  have HWA := Lib.hid (And.intro hWA hg2)
  clear ha1 hal hWA hg2 HI9 HC9
  go_wp2_with (go_at_call 35; rw [← HWA.out.1]; refine HA1.out.mono ?_; rintro e wB ⟨rfl, hbB⟩; refine Hid.out ?_)
  refine Lib.hid ?_
  rw [← HWA.out.2]
  have HIB := Lib.hid (HIA.out.below hbB)
  have HCB := Lib.hid (HCA.out.below hbB)
  have HDB := Lib.hid (HDA.out.below hbB)
  clear hbB HA1 HIA HCA HDA HWA
  obtain ⟨g3, hg3⟩ : ∃ g, g = wB.heap.size := ⟨_, rfl⟩
  obtain ⟨WD, hWD⟩ : ∃ W, W = wB.alloc (.cells #[.int .i64 3, .string ⟨#[]⟩, .string PC, .int .i64 0] 46) := ⟨_, rfl⟩
  have hal : Below wB.heap.size wB WD := by rw [hWD]; exact (Below.refl _ _).alloc (Nat.le_refl _) _
  have HID := Lib.hid (HIB.out.below hal)
  have HCD := Lib.hid (HCB.out.below hal)
  have HDD := Lib.hid (HDB.out.below hal)
  have HED : Hid (Cs WD g3 [.int .i64 3, .string ⟨#[]⟩, .string PC, .int .i64 0]) := Lib.hid (by rw [hWD, hg3]; exact Cs.new wB _ _ _)
  have hn2 := name_index HID.out (by omega) 1 2 ⟨#[]⟩ (by decide)
  rw [HN.out.2, show tripV (0, 0, ⟨#[]⟩, false) = .tuple #[.int .i64 0, .agg #[.int .i64 0, .string ⟨#[]⟩, .string ⟨#[]⟩, .int .i64 0], .bool false] from rfl] at hn2
  have HN2 := Lib.hid hn2
  have HWD := Lib.hid (And.intro hWD hg3)
  clear hn2 hal hWD hg3 HIB HCB HDB
  go_wp2_with (go_at_call 32; rw [← HWD.out.1]; refine HN2.out.mono ?_; rintro e wE ⟨rfl, hbE⟩; refine Hid.out ?_)
  refine Lib.hid ?_
  rw [← HWD.out.2]
  have hal : Below wE.heap.size wE (wE.alloc (.cells #[.int .i64 0, .string ⟨#[]⟩, .string ⟨#[]⟩, .int .i64 0] 46)) := (Below.refl _ _).alloc (Nat.le_refl _) _
  obtain ⟨WF, hWF⟩ : ∃ W, W = wE.alloc (.cells #[.int .i64 0, .string ⟨#[]⟩, .string ⟨#[]⟩, .int .i64 0] 46) := ⟨_, rfl⟩
  rw [← hWF] at hal
  have HIF := Lib.hid ((HID.out.below hbE).below hal)
  have HCF := Lib.hid ((HCD.out.below hbE).below hal)
  have HDF := Lib.hid ((HDD.out.below hbE).below hal)
  have HEF := Lib.hid ((HED.out.below hbE).below hal)
  have HWF := Lib.hid hWF
  clear hbE hal hWF HN2 HID HCD HDD HED HWD
  go_wp2_with (go_at_call 31; rw [← HWF.out]; refine (HAD2.out _ (HBW.out _ HIF.out.bel)).mono ?_; rintro e wG ⟨rfl, hbG⟩; refine Hid.out ?_)
  refine Lib.hid ?_
  have HIG := Lib.hid (HIF.out.below hbG)
  have HCG := Lib.hid (HCF.out.below hbG)
  have HDG := Lib.hid (HDF.out.below hbG)
  have HEG := Lib.hid (HEF.out.below hbG)
  clear hbG HIF HCF HDF HEF HAD2
  have ha2 := addr_index HIG.out 3 o HSZ.out.2.1
  rw [HA.out.2, show tripA (0, 0, ⟨#[]⟩, 0, false) = .tuple #[.int .i64 0, .agg #[.int .i64 0, .string ⟨#[]⟩, .string ⟨#[]⟩, .int .i64 0], .bool false] from rfl] at ha2
  have HA2 := Lib.hid ha2
  clear ha2
  go_wp2_with (go_at_call 35; refine HA2.out.mono ?_; rintro e wH ⟨rfl, hbH⟩; refine Hid.out ?_)
  refine Lib.hid ?_
  have hal : Below wH.heap.size wH (wH.alloc (.cells #[.int .i64 0, .string ⟨#[]⟩, .string ⟨#[]⟩, .int .i64 0] 46)) := (Below.refl _ _).alloc (Nat.le_refl _) _
  have HBF := Lib.hid (HBW.out _ ((HIG.out.below hbH).below hal).bel)
  have hcc := (HCG.out.below hbH).below hal
  have hcd := (HDG.out.below hbH).below hal
  have hce := (HEG.out.below hbH).below hal
  have y0 := hcc.get 0 (.string PC)
  have y1 := hcc.get 1 (.int .i64 0)
  have d0 := hcd.get 0 (.int .i64 2)
  have d1 := hcd.get 1 (.string ⟨#[]⟩)
  have d2 := hcd.get 2 (.string ⟨#[]⟩)
  have d3 := hcd.get 3 (.int .i64 0)
  have e2 := hce.get 2 (.string PC)
  have e3 := hce.get 3 (.int .i64 0)
  have hq1 := HQ.out.1
  have hq2 := HQ.out.2
  clear hcc hcd hce hal hbH HIG HCG HDG HEG HA2
  go_wp2_with fail
  go_ret
  exact ⟨rfl, HBF.out⟩
end Go.Proofs.YtkdknfedieeenaaGreatDoor
