/- Texts that walks stand on, one behind the other. -/
import Derived.Test.YtkdknfedieeenaaGreatDoorMgSD
import Derived.Maps.RangeWalk
import Derived.Test.YtkdknfedieeenaaGreatDoorNameB
import Derived.BigRegion
namespace Go.Proofs.YtkdknfedieeenaaGreatDoor
open Go.RowKit
set_option linter.unusedVariables false
set_option linter.unusedSimpArgs false
set_option maxRecDepth 20000
def boxI (B : Nat) (vs : List Value) : Value → World → Prop := fun v w => ∃ g, v = .pointer (some ⟨g, 0, none⟩) ∧ B ≤ g ∧ Cs w g vs
theorem boxI_stays (B : Nat) (vs : List Value) : ∀ v w w', boxI B vs v w → Goes w w' → boxI B vs v w' := by
  rintro v w w' ⟨g, hx, hB, hc⟩ he
  exact ⟨g, hx, hB, hc.below he⟩
theorem map_nil (u : Option Nat) (w : World) : (binOp .eql 127 (.map u) (.map none)).run Tryz.prog w = .ok (.bool u.isNone) w := by cases u <;> kernel_rfl
attribute [local simp] putsF isV wordOf Deps Region.binds Region.wanted Act.put wantedX isB

set_option maxHeartbeats 16000000 in
theorem put_index {W w : World} {B b most : Nat} {own : List Nat} {S : IxS} (h : IXs W B b own S most w) (hm : most ≤ 34359738368) (hto : S.tot < 1152921504606846975) (k : Int) (n a : ByteArray) (x v : Int) (hn : n.size ≤ 140737488355328) (ha : a.size ≤ 140737488355328) (hL : LaidT w) :
    Calls Tryz.prog 28 #[.pointer (some ⟨b, 0, none⟩), .agg #[.int .i64 k, .string n, .string a, .int .i64 x], .int .i64 v] w fun e w' => e = .returned (.bool (putB S (toT k n a x))) ∧ IXn W B b own (putI S (toT k n a x) v) (most + 1) w w' := by
  obtain ⟨W0, hW0⟩ : ∃ W0, W0 = w.alloc (.cells #[.int .i64 k, .string n, .string a, .int .i64 x] 46) := ⟨_, rfl⟩
  have hc0 : Cs W0 w.heap.size [.int .i64 k, .string n, .string a, .int .i64 x] := by rw [hW0]; exact Cs.new w _ _ _
  have hb0 : Below w.heap.size w W0 := by rw [hW0]; exact (Below.refl _ _).alloc (Nat.le_refl _) _
  have henc := encode_any k n a x W0 hn ha (hL.below hb0 (Nat.le_refl _))
  have HC0 := Lib.hid hc0
  have HB0 := Lib.hid hb0
  have HW0 := Lib.hid hW0
  cases he : encR (toT k n a x) with
  | none =>
    rw [he, show encV none = .tuple #[.string ⟨#[]⟩, .bool false] from rfl] at henc
    have HE := Lib.hid henc
    have HI := Lib.hid h
    have HP : Hid (putB S (toT k n a x) = false ∧ putI S (toT k n a x) v = S) := Lib.hid ⟨by unfold putB; rw [he]; rfl, by unfold putI; rw [he]; rfl⟩
    clear he henc hc0 hb0 hW0 h hL
    go_enter Tryz.func28, Tryz.ntmps28
    go_wp2_with (go_at_call 37; rw [← HW0.out]; refine HE.out.mono ?_; rintro e w1 ⟨rfl, hb1⟩; refine Hid.out ?_)
    refine Lib.hid ?_
    have HB1 := Lib.hid (HB0.out.trans (hb1.mono HB0.out.size))
    clear hb1
    go_wp2_with fail
    go_ret
    exact ⟨by rw [HP.out.1]; rfl, own, by rw [HP.out.2]; exact (HI.out.below HB1.out).more (by omega), Only.of_below _ HB1.out, fun q hq => .inl hq⟩
  | some z =>
    obtain ⟨Z, hZ⟩ : ∃ Z, encV (some z) = .tuple #[.string Z, .bool true] := ⟨_, rfl⟩
    rw [he, hZ] at henc
    have HE := Lib.hid henc
    clear hZ
    cases hnb : namB (toT k n a x) with
    | true =>
      obtain ⟨hq1, hq2⟩ := (namB_iff _).1 hnb
      have ha0 : a = ⟨#[]⟩ := by
        have h0 : a.data.toList = [] := hq1
        exact ByteArray.ext (Array.ext' (by rw [h0]))
      have hx0 : x = 0 := hq2
      subst ha0 hx0
      have hpq := fun w => pfx_eql ⟨#[]⟩ ⟨#[]⟩ 0 0 w
      rw [show ((⟨#[]⟩ : ByteArray).toList == (⟨#[]⟩ : ByteArray).toList && (0 : Int) == 0) = true by simp] at hpq
      have hwd := fun w => iword_any k n w hn
      have hwp : wordP (toT k n ⟨#[]⟩ 0) = wordT k n := by unfold wordP toT; rw [show baL n.data.toList = n from rfl]
      have HP : Hid (putB S (toT k n ⟨#[]⟩ 0) = (S.M (wordT k n)).isNone ∧ putI S (toT k n ⟨#[]⟩ 0) v = { S with M := upd S.M (wordT k n) (some v), lv := if (S.M (wordT k n)).isSome then S.lv else S.lv + 1 }) := Lib.hid (by
        unfold putB putI IxS.put IxS.val
        rw [he, hnb, hwp]
        simp)
      have hws := wordT_size k n
      obtain ⟨K, hK⟩ : ∃ K, K = wordT k n := ⟨_, rfl⟩
      rw [← hK] at hwd HP hws
      have HWD := Lib.hid hwd
      have HI := Lib.hid h
      have HKS : Hid (K.size ≤ maxLen) := Lib.hid (by rw [hws]; unfold maxLen; omega)
      clear hq1 hq2 hwd hwp hws hK he henc hc0 hb0 hW0 h hL hnb
      go_enter Tryz.func28, Tryz.ntmps28
      go_wp2_with (go_at_call 37; rw [← HW0.out]; refine HE.out.mono ?_; rintro e w1 ⟨rfl, hb1⟩; refine Hid.out ?_)
      refine Lib.hid ?_
      have HB1 := Lib.hid (HB0.out.trans (hb1.mono HB0.out.size))
      have HC1 := Lib.hid (HC0.out.below hb1)
      clear hb1 HB0 HC0 HE HW0
      have y2 := HC1.out.get 2 (.string ⟨#[]⟩)
      have y3 := HC1.out.get 3 (.int .i64 0)
      go_upto_region 5 with fail
      clear y2 y3
      refine wp_region_tail ad_follows (fun x => by simp [putsF, Act.put]; rfl) (fun v => Below w1.heap.size w1 v)
        [isV (.pointer (some ⟨b, 0, none⟩)), isV (.pointer (some ⟨b, 0, none⟩)), isV (.pointer (some ⟨b, 0, none⟩)), isV (.pointer (some ⟨w.heap.size, 0, none⟩)), isV (.int .i64 k), isV (.pointer (some ⟨w.heap.size, 1, none⟩)), isV (.string n), isV (.string K), isV (.int .i64 v)]
        9 [] (by kernel_rfl) (by kernel_rfl) (by kernel_rfl) rfl (by kernel_rfl) (by kernel_rfl) ?_ (Below.refl _ _).drew ?_ ?_
      · repeat (first | exact trivial | refine ⟨by first | exact isV_stays _, ?_⟩)
      · refine ⟨?_, ?_, ?_, ?_, ?_, ?_, ?_, ?_, ?_, skipped rfl, skipped rfl, trivial⟩
        all_goals
          intro _ x wx hR hd
          refine ⟨fun _ => ?_, fun hX => by simp at hX⟩
          simp at hd ⊢
        · try obtain ⟨hd1, hd2⟩ := hd
          go_simp; exact nextL _ rfl rfl hR (Below.refl _ _)
        · try obtain ⟨hd1, hd2⟩ := hd
          go_simp; exact nextL _ rfl rfl hR (Below.refl _ _)
        · try obtain ⟨hd1, hd2⟩ := hd
          go_simp; exact nextL _ rfl rfl hR (Below.refl _ _)
        · try obtain ⟨hd1, hd2⟩ := hd
          go_simp; exact nextL _ rfl rfl hR (Below.refl _ _)
        · have q := (HC1.out.below hR).get 0 (.int .i64 k)
          go_simp; exact nextL _ rfl rfl hR (Below.refl _ _)
        · try obtain ⟨hd1, hd2⟩ := hd
          go_simp; exact nextL _ rfl rfl hR (Below.refl _ _)
        · have q := (HC1.out.below hR).get 1 (.string n)
          go_simp; exact nextL _ rfl rfl hR (Below.refl _ _)
        · try obtain ⟨hd1, hd2⟩ := hd
          go_simp
          go_at_call 57
          refine (HWD.out wx).mono ?_
          rintro e wy ⟨rfl, hby⟩
          exact nextL _ rfl rfl (hR.trans (hby.mono hR.size)) hby
        · try obtain ⟨hd1, hd2⟩ := hd
          go_simp; exact nextL _ rfl rfl hR (Below.refl _ _)
      intro x w5 hR5 hx _
      obtain ⟨x0, x1, x2, -, -, -, -, x7, x8, -⟩ := hx
      have x2 : x 2 = .pointer (some ⟨b, 0, none⟩) := x2
      have x7 : x 7 = .string K := x7
      have x8 : x 8 = .int .i64 v := x8
      have HB5 := Lib.hid (HB1.out.trans (hR5.mono HB1.out.size))
      change tailWp _ _ [_, _] _ _
      rw [adtail_cons, x2, x7, x8]
      go_simp
      go_at_call 60
      refine ((HI.out.below HB5.out).putName hm K v HKS.out).mono ?_
      rintro e w6 ⟨rfl, own', hI6, hO6, hM6⟩
      refine ⟨_, rfl, ?_⟩
      rw [adtail_nil]
      have HI6 := Lib.hid hI6
      have HO6 := Lib.hid (((Only.of_below (fun q => q ∈ own) HB5.out).trans hO6 (fun _ _ e => e)))
      have HM6 := Lib.hid (show ∀ q ∈ own', q ∈ own ∨ w.heap.size ≤ q from fun q hq => (hM6 q hq).imp id (fun e => Nat.le_trans HB5.out.size e))
      clear hI6 hO6 hM6 HI HB5 HB1 HC1 HWD hR5 x0 x1 x2 x7 x8
      go_simp
      go_wp2_with fail
      go_ret
      exact ⟨by rw [HP.out.1]; rfl, own', by rw [HP.out.2]; exact HI6.out, HO6.out, HM6.out⟩
    | false =>
      have htr : n = ⟨#[]⟩ ∧ mayP a.data.toList x = true ∧ (k = 0 ∨ k = 3 ∨ k = 6) := by
        rcases enc_shape he with ⟨q1, q2, _⟩ | ⟨q1, q2, q3⟩
        · rw [(namB_iff _).2 ⟨q1, q2⟩] at hnb; cases hnb
        · exact ⟨ByteArray.ext (Array.ext' (show n.data.toList = [] from q1)), q2, q3⟩
      obtain ⟨hn0, hmp, hkk⟩ := htr
      subst hn0
      have hpq := fun w => pfx_eql a ⟨#[]⟩ x 0 w
      rw [show (a.toList == (⟨#[]⟩ : ByteArray).toList && x == 0) = false by
        rw [Bool.eq_false_iff]
        intro e
        have hnb' : ¬ (a.data.toList = [] ∧ x = 0) := fun h => by rw [(namB_iff (toT k ⟨#[]⟩ a x)).2 h] at hnb; cases hnb
        simp only [Bool.and_eq_true, beq_iff_eq, ByteArray.toList_eq] at e
        exact hnb' e] at hpq
      have hke := fun w => key_any a x w hmp
      obtain ⟨q, hq⟩ : ∃ q, q = signs ((bitsL a.data.toList).take x.toNat) := ⟨_, rfl⟩
      have hqm : mayL q = true := by rw [hq]; exact keyP_may (t := toT k ⟨#[]⟩ a x) hmp
      obtain ⟨L, hLL⟩ : ∃ L : Nat, L = a.size := ⟨_, rfl⟩
      have hL4 : L = 4 ∨ L = 16 := by
        have := isAddr_pos (mayP_more hmp).1
        rw [show a.data.toList.length = a.size from Array.length_toList] at this
        omega
      have HP : Hid (putB S (toT k ⟨#[]⟩ a x) = (getR (S.G (k, (L : Int))) q).isNone ∧ putI S (toT k ⟨#[]⟩ a x) v = { S with G := fun g => if g = (k, (L : Int)) then putR (S.G (k, (L : Int))) q v else S.G g, tot := if (getR (S.G (k, (L : Int))) q).isSome then S.tot else S.tot + 1 }) := Lib.hid (by
        have hf : famP (toT k ⟨#[]⟩ a x) = (k, (L : Int)) := by
          show (k, ((a.data.toList.length : Nat) : Int)) = _
          rw [hLL, Array.length_toList]; rfl
        have hk' : keyP (toT k ⟨#[]⟩ a x) = q := hq.symm
        unfold putB putI IxS.put IxS.val
        rw [he, hnb, hf, hk']
        simp)
      rw [← hq] at hke
      have HKE := Lib.hid hke
      have HQM := Lib.hid hqm
      have HK := Lib.hid hkk
      have HL4 := Lib.hid hL4
      have HI := Lib.hid h
      clear hke hqm hkk hL4 hq hmp he hnb hc0 hb0 hW0 h hL
      go_enter Tryz.func28, Tryz.ntmps28
      go_wp2_with (go_at_call 37; rw [← HW0.out]; refine HE.out.mono ?_; rintro e w1 ⟨rfl, hb1⟩; refine Hid.out ?_)
      refine Lib.hid ?_
      have HB1 := Lib.hid (HB0.out.trans (hb1.mono HB0.out.size))
      have HC1 := Lib.hid (HC0.out.below hb1)
      clear hb1 HB0 HC0 HE HW0
      have y0 := HC1.out.get 0 (.int .i64 k)
      have y2 := HC1.out.get 2 (.string a)
      have y3 := HC1.out.get 3 (.int .i64 x)
      go_upto_region 7 with fail
      obtain ⟨P9, hP9⟩ : ∃ P9, P9 = w1.heap.size := ⟨_, rfl⟩
      obtain ⟨W2, hW2⟩ : ∃ W2, W2 = w1.alloc (.cells #[.int .i64 k, .int .i64 L] 135) := ⟨_, rfl⟩
      simp only [← hLL]
      clear hLL
      rw [← hP9, ← hW2]
      have hal : Below w1.heap.size w1 W2 := by rw [hW2]; exact (Below.refl _ _).alloc (Nat.le_refl _) _
      have HP9 := Lib.hid (show w.heap.size ≤ P9 from by rw [hP9]; exact HB1.out.size)
      have HF2 : Hid (Cs W2 P9 [.int .i64 k, .int .i64 L]) := Lib.hid (by rw [hW2]; exact (Cs.new w1 _ _ _).at_ _ hP9.symm)
      have HB2 := Lib.hid (HB1.out.trans (hal.mono HB1.out.size))
      have HC2 := Lib.hid (HC1.out.below hal)
      have hX := HI.out.below HB2.out
      have HBB := Lib.hid (show B ≤ w.heap.size from by obtain ⟨V, us, n', mv, F, h1, _⟩ := HI.out; exact Nat.le_of_lt (Nat.lt_of_le_of_lt (h1.ge _ IxOf.b_mem) h1.tab.lt))
      have HLT := Lib.hid HI.out.lt
      clear hal y0 y2 y3 HI HC1 HB1 hW2 hP9 w1
      obtain ⟨V, us, n', mv, F, h1, hown, h2, h3, h4, h5⟩ := hX
      have y9 := h1.own.get 3 (.map mv)
      have z9 := h1.own.froz 3 (by simp)
      have HN := Lib.hid (And.intro h2 (And.intro h3 (And.intro h4 h5)))
      have HO := Lib.hid hown
      have HI1 := Lib.hid h1
      clear h1 h2 h3 h4 h5 hown
      cases mv with
      | none =>
        have hmn := fun w => map_nil none w
        have hmm := @run_makeMap Tryz.prog
        have y8 := (HI1.out.own.alloc (.map #[] 0)).get 3 (.map none)
        have z8 := (HI1.out.own.alloc (.map #[] 0)).froz 3 (by simp)
        go_upto_region 9 with fail
        obtain ⟨hm1, hm2, hm3⟩ := HI1.out.maps
        have hF := HI1.out.nomap rfl
        subst hF
        obtain ⟨mb, hmb⟩ : ∃ mb, mb = W2.heap.size := ⟨_, rfl⟩
        have hbo : b ∈ own := by rw [HO.out]; exact IxOf.b_mem
        have hblt := HLT.out b hbo
        obtain ⟨W3, hW3⟩ : ∃ W3, W3 = (W2.alloc (.map #[] 0)).setCell ⟨b, 3, none⟩ (.map (some W2.heap.size)) := ⟨_, rfl⟩
        rw [← hW3] at hm1 hm3
        rw [← hW3]
        have HNE : Hid (mb ≠ w.heap.size ∧ mb ≠ P9) := Lib.hid (by
          have q1 := HF2.out.lt
          have q2 := HC2.out.lt
          omega)
        have HM : Hid (IXm W B b own S most mb [] w W3) := Lib.hid (by
          rw [← hmb] at hm1 hm2
          obtain ⟨k1, k2, k3, k4⟩ := HN.out
          refine ⟨V, us, n', hm1, k1, k2, k3, k4, (Only.of_below (fun q => q ∈ own) HB2.out).trans hm3 (fun q _ e => by rw [e]; exact hbo), fun q hq => ?_⟩
          rcases hm2 q hq with e | e
          · left; rw [HO.out]; exact e
          · right; have := HB2.out.size; omega)
        have HF := Lib.hid (hm3.cs HF2.out (fun e => by have := HP9.out; omega))
        have HC := Lib.hid (hm3.cs HC2.out (fun e => by omega))
        have HS : Hid (w.heap.size ≤ W3.heap.size) := Lib.hid (Nat.le_trans HB2.out.size hm3.size)
        have HLK : Hid (lookF [] (k, (L : Int)) = none) := Lib.hid rfl
        have HNF : Hid ((k, (L : Int)) ∉ ([] : List IxF).map (·.f)) := Lib.hid (by simp)
        clear hm1 hm2 hm3 hmb hW3 hblt hbo y8 z8 y9 z9 HF2 HC2 HN HI1 HB2 HO hmn hmm
        refine wp_region_goesG ad_follows (fun x => by simp [putsF, Act.put]; rfl) W3.heap.size W3
          [isV (.pointer (some ⟨b, 0, none⟩)), isV (.pointer (some ⟨b, 0, none⟩)), isV (.pointer (some ⟨b, 3, none⟩)), isV (.map (some mb)), isV (.agg #[.int .i64 k, .int .i64 L]), isV (.pointer none), isV (.bool true)]
          (by kernel_rfl) (by kernel_rfl) (by kernel_rfl) rfl ?_ (Below.refl _ _) ?_ ?_
        · repeat (first | exact trivial | refine ⟨by first | exact isV_stays _ , ?_⟩)
        · refine ⟨?_, ?_, ?_, ?_, ?_, ?_, ?_, trivial⟩
          all_goals
            intro x wx hR hd
            simp at hd ⊢
            try simp [hd]
          all_goals try exact fun hX => absurd (show (false : Bool) = true from hX) (by decide)
          · go_simp
            exact next_same _ rfl rfl hR
          · go_simp
            exact next_same _ rfl rfl hR
          · go_simp
            exact next_same _ rfl rfl hR
          · have lq := (HM.out.below hR).cell
            go_simp
            exact next_same _ rfl rfl hR
          · have lq0 := (HF.out.below hR).get 0 (.int .i64 k)
            have lq1 := (HF.out.below hR).get 1 (.int .i64 L)
            go_simp
            exact next_same _ rfl rfl hR
          · try obtain ⟨hd1, hd2⟩ := hd
            have lk := (HM.out.below hR).look (k, (L : Int))
            rw [HLK.out] at lk
            simp only [Option.getD_none, Option.getD_some] at lk
            go_simp
            exact next_same _ rfl rfl hR
          · go_simp
            exact next_same _ rfl rfl hR
        intro X9 w4 hR hx
        simp [AllWords] at hx
        have hx6 : X9 6 = .bool true := by simp [hx]
        clear hx
        rw [hx6]
        have HM2 := Lib.hid (HM.out.below hR)
        have HF2 := Lib.hid (HF.out.below hR)
        have HC2 := Lib.hid (HC.out.below hR)
        have HS2 := Lib.hid (Nat.le_trans HS.out hR.size)
        clear hR hx6 HM HF HC HS HLK
        go_upto_region 10 with fail
        refine wp_region_tail ad_follows (fun x => by simp [putsF, Act.put]; rfl) (fun v => Below w4.heap.size w4 v)
          [isV (.pointer (some ⟨b, 0, none⟩)), isV (.pointer (some ⟨b, 0, none⟩)), isV (.pointer (some ⟨b, 3, none⟩)), isV (.map (some mb)), isV (.agg #[.int .i64 k, .int .i64 L]), isV (.agg #[.pointer none, .int .i64 0]), boxI w4.heap.size [.pointer none, .int .i64 0]]
          7 [] (by kernel_rfl) (by kernel_rfl) (by kernel_rfl) rfl (by kernel_rfl) (by kernel_rfl) ?_ (Below.refl _ _).drew ?_ ?_
        · repeat (first | exact trivial | refine ⟨by first | exact isV_stays _ | exact boxI_stays _ _, ?_⟩)
        · refine ⟨?_, ?_, ?_, ?_, ?_, ?_, ?_, skipped rfl, trivial⟩
          all_goals
            intro _ xx wx hR hd
            refine ⟨fun _ => ?_, fun hX => by simp at hX⟩
            simp at hd ⊢
          · try obtain ⟨hd1, hd2⟩ := hd
            go_simp; exact nextL _ rfl rfl hR (Below.refl _ _)
          · try obtain ⟨hd1, hd2⟩ := hd
            go_simp; exact nextL _ rfl rfl hR (Below.refl _ _)
          · try obtain ⟨hd1, hd2⟩ := hd
            go_simp; exact nextL _ rfl rfl hR (Below.refl _ _)
          · have lq := (HM2.out.below hR).cell
            go_simp; exact nextL _ rfl rfl hR (Below.refl _ _)
          · have lq0 := (HF2.out.below hR).get 0 (.int .i64 k)
            have lq1 := (HF2.out.below hR).get 1 (.int .i64 L)
            go_simp; exact nextL _ rfl rfl hR (Below.refl _ _)
          · try obtain ⟨hd1, hd2⟩ := hd
            go_simp; exact nextL _ rfl rfl hR (Below.refl _ _)
          · go_simp; exact nextL _ rfl ⟨_, rfl, hR.size, Cs.new _ _ _ _⟩ (hR.alloc hR.size _) ((Below.refl _ _).alloc (Nat.le_refl _) _)
        intro X10 w5 hR5 hx _
        obtain ⟨-, -, -, x3, x4, -, x6, -⟩ := hx
        have x3 : X10 3 = .map (some mb) := x3
        have x4 : X10 4 = .agg #[.int .i64 k, .int .i64 L] := x4
        obtain ⟨g, x6, hgB, hcg⟩ : boxI w4.heap.size [.pointer none, .int .i64 0] (X10 6) w5 := x6
        obtain ⟨w6, hrun, ht, ho⟩ := HM2.out.put hR5 HBB.out HNF.out (f := (k, (L : Int))) ⟨HK.out, by have := HL4.out; show (L : Int) = 4 ∨ (L : Int) = 16; omega⟩ hgB hcg
        change tailWp _ _ [_] _ _
        rw [adtail_cons, x3, x4, x6]
        simp only at hrun
        have HT := Lib.hid ht
        have HC := Lib.hid (ho.cs (HC2.out.below hR5) (fun e => HNE.out.1 e.symm))
        have HF := Lib.hid (ho.cs (HF2.out.below hR5) (fun e => HNE.out.2 e.symm))
        clear x3 x4 x6 hcg hR5 ht ho HM2 HC2 HF2 hgB
        go_simp
        try refine ⟨_, rfl, ?_⟩
        try rw [adtail_nil]
        clear hrun
        go_upto_region 11 with fail
        refine wp_region_tail ad_follows (fun x => by simp [putsF, Act.put]; rfl) (fun v => Below w6.heap.size w6 v)
          [isV (.pointer (some ⟨b, 0, none⟩)), isV (.pointer (some ⟨b, 0, none⟩)), isV (.pointer (some ⟨b, 3, none⟩)), isV (.map (some mb)), isV (.agg #[.int .i64 k, .int .i64 L]), isV (.pointer (some ⟨g, 0, none⟩)), isV (.pointer (some ⟨w.heap.size, 2, none⟩)), isV (.agg #[.string a, .int .i64 x]), isV (.string (sb q)), isV (.int .i64 v)]
          10 [] (by kernel_rfl) (by kernel_rfl) (by kernel_rfl) rfl (by kernel_rfl) (by kernel_rfl) ?_ (Below.refl _ _).drew ?_ ?_
        · repeat (first | exact trivial | refine ⟨by first | exact isV_stays _, ?_⟩)
        · refine ⟨?_, ?_, ?_, ?_, ?_, ?_, ?_, ?_, ?_, ?_, skipped rfl, skipped rfl, trivial⟩
          all_goals
            intro _ xx wx hR hd
            refine ⟨fun _ => ?_, fun hX => by simp at hX⟩
            simp at hd ⊢
          · try obtain ⟨hd1, hd2⟩ := hd
            go_simp; exact nextL _ rfl rfl hR (Below.refl _ _)
          · try obtain ⟨hd1, hd2⟩ := hd
            go_simp; exact nextL _ rfl rfl hR (Below.refl _ _)
          · try obtain ⟨hd1, hd2⟩ := hd
            go_simp; exact nextL _ rfl rfl hR (Below.refl _ _)
          · have lq := (HT.out.below hR).cell
            go_simp; exact nextL _ rfl rfl hR (Below.refl _ _)
          · have lq0 := (HF.out.below hR).get 0 (.int .i64 k)
            have lq1 := (HF.out.below hR).get 1 (.int .i64 L)
            go_simp; exact nextL _ rfl rfl hR (Below.refl _ _)
          · try obtain ⟨hd1, hd2⟩ := hd
            have lk := (HT.out.below hR).look
            simp only at lk
            go_simp; exact nextL _ rfl rfl hR (Below.refl _ _)
          · try obtain ⟨hd1, hd2⟩ := hd
            go_simp; exact nextL _ rfl rfl hR (Below.refl _ _)
          · have lq2 := (HC.out.below hR).get 2 (.string a)
            have lq3 := (HC.out.below hR).get 3 (.int .i64 x)
            go_simp; exact nextL _ rfl rfl hR (Below.refl _ _)
          · try obtain ⟨hd1, hd2⟩ := hd
            go_simp
            go_at_call 59
            refine (HKE.out wx).mono ?_
            rintro e wy ⟨rfl, hby⟩
            exact nextL _ rfl rfl (hR.trans (hby.mono hR.size)) hby
          · try obtain ⟨hd1, hd2⟩ := hd
            go_simp; exact nextL _ rfl rfl hR (Below.refl _ _)
        intro X11 w8 hR8 hx _
        obtain ⟨-, -, -, -, -, x5, -, -, x8, x9, -⟩ := hx
        have x5 : X11 5 = .pointer (some ⟨g, 0, none⟩) := x5
        have x8 : X11 8 = .string (sb q) := x8
        have x9 : X11 9 = .int .i64 v := x9
        have HT8 := Lib.hid (HT.out.below hR8)
        change tailWp _ _ [_, _] _ _
        rw [adtail_cons, x5, x8, x9]
        clear x5 x8 x9 hR8 HT HC HF
        go_simp
        go_at_call 61
        refine (HT8.out.tree q v HQM.out hm hto).mono ?_
        rintro e w9 ⟨rfl, hI9⟩
        have HI9 := Lib.hid hI9
        clear hI9 HT8
        refine ⟨_, rfl, ?_⟩
        rw [adtail_nil]
        go_simp
        go_wp2_with fail
        go_ret
        exact ⟨by rw [HP.out.1]; rfl, by rw [HP.out.2]; exact HI9.out⟩
      | some mb =>
        have hmn := fun w => map_nil (some mb) w
        go_upto_region 9 with fail
        have hmo : mb ∈ own := by rw [HO.out]; exact IxOf.m_mem rfl
        have hmlt := HLT.out mb hmo
        have HNE : Hid (mb ≠ w.heap.size ∧ mb ≠ P9) := Lib.hid (by have := HP9.out; omega)
        have HM : Hid (IXm W B b own S most mb F w W2) := Lib.hid (by
          obtain ⟨k1, k2, k3, k4⟩ := HN.out
          exact ⟨V, us, n', HI1.out, k1, k2, k3, k4, Only.of_below (fun q => q ∈ own) HB2.out, fun q hq => .inl (by rw [HO.out]; exact hq)⟩)
        have HF := HF2
        have HC := HC2
        have HS : Hid (w.heap.size ≤ W2.heap.size) := Lib.hid HB2.out.size
        clear hmo hmlt y9 z9 HF2 HC2 HN HI1 HB2 HO hmn
        rcases lookF_cases F (k, (L : Int)) with hno | ⟨F1, xF, F2, hFe, e1, e2⟩
        · have HLK : Hid (lookF F (k, (L : Int)) = none) := Lib.hid (lookF_no hno)
          have HNF := Lib.hid hno
          clear hno
          refine wp_region_goesG ad_follows (fun x => by simp [putsF, Act.put]; rfl) W2.heap.size W2
            [isV (.pointer (some ⟨b, 0, none⟩)), isV (.pointer (some ⟨b, 0, none⟩)), isV (.pointer (some ⟨b, 3, none⟩)), isV (.map (some mb)), isV (.agg #[.int .i64 k, .int .i64 L]), isV (.pointer none), isV (.bool true)]
            (by kernel_rfl) (by kernel_rfl) (by kernel_rfl) rfl ?_ (Below.refl _ _) ?_ ?_
          · repeat (first | exact trivial | refine ⟨by first | exact isV_stays _ , ?_⟩)
          · refine ⟨?_, ?_, ?_, ?_, ?_, ?_, ?_, trivial⟩
            all_goals
              intro x wx hR hd
              simp at hd ⊢
              try simp [hd]
            all_goals try exact fun hX => absurd (show (false : Bool) = true from hX) (by decide)
            · go_simp
              exact next_same _ rfl rfl hR
            · go_simp
              exact next_same _ rfl rfl hR
            · go_simp
              exact next_same _ rfl rfl hR
            · have lq := (HM.out.below hR).cell
              go_simp
              exact next_same _ rfl rfl hR
            · have lq0 := (HF.out.below hR).get 0 (.int .i64 k)
              have lq1 := (HF.out.below hR).get 1 (.int .i64 L)
              go_simp
              exact next_same _ rfl rfl hR
            · try obtain ⟨hd1, hd2⟩ := hd
              have lk := (HM.out.below hR).look (k, (L : Int))
              rw [HLK.out] at lk
              simp only [Option.getD_none, Option.getD_some] at lk
              go_simp
              exact next_same _ rfl rfl hR
            · go_simp
              exact next_same _ rfl rfl hR
          intro X9 w4 hR hx
          simp [AllWords] at hx
          have hx6 : X9 6 = .bool true := by simp [hx]
          clear hx
          rw [hx6]
          have HM2 := Lib.hid (HM.out.below hR)
          have HF2 := Lib.hid (HF.out.below hR)
          have HC2 := Lib.hid (HC.out.below hR)
          have HS2 := Lib.hid (Nat.le_trans HS.out hR.size)
          clear hR hx6 HM HF HC HS HLK
          go_upto_region 10 with fail
          refine wp_region_tail ad_follows (fun x => by simp [putsF, Act.put]; rfl) (fun v => Below w4.heap.size w4 v)
            [isV (.pointer (some ⟨b, 0, none⟩)), isV (.pointer (some ⟨b, 0, none⟩)), isV (.pointer (some ⟨b, 3, none⟩)), isV (.map (some mb)), isV (.agg #[.int .i64 k, .int .i64 L]), isV (.agg #[.pointer none, .int .i64 0]), boxI w4.heap.size [.pointer none, .int .i64 0]]
            7 [] (by kernel_rfl) (by kernel_rfl) (by kernel_rfl) rfl (by kernel_rfl) (by kernel_rfl) ?_ (Below.refl _ _).drew ?_ ?_
          · repeat (first | exact trivial | refine ⟨by first | exact isV_stays _ | exact boxI_stays _ _, ?_⟩)
          · refine ⟨?_, ?_, ?_, ?_, ?_, ?_, ?_, skipped rfl, trivial⟩
            all_goals
              intro _ xx wx hR hd
              refine ⟨fun _ => ?_, fun hX => by simp at hX⟩
              simp at hd ⊢
            · try obtain ⟨hd1, hd2⟩ := hd
              go_simp; exact nextL _ rfl rfl hR (Below.refl _ _)
            · try obtain ⟨hd1, hd2⟩ := hd
              go_simp; exact nextL _ rfl rfl hR (Below.refl _ _)
            · try obtain ⟨hd1, hd2⟩ := hd
              go_simp; exact nextL _ rfl rfl hR (Below.refl _ _)
            · have lq := (HM2.out.below hR).cell
              go_simp; exact nextL _ rfl rfl hR (Below.refl _ _)
            · have lq0 := (HF2.out.below hR).get 0 (.int .i64 k)
              have lq1 := (HF2.out.below hR).get 1 (.int .i64 L)
              go_simp; exact nextL _ rfl rfl hR (Below.refl _ _)
            · try obtain ⟨hd1, hd2⟩ := hd
              go_simp; exact nextL _ rfl rfl hR (Below.refl _ _)
            · go_simp; exact nextL _ rfl ⟨_, rfl, hR.size, Cs.new _ _ _ _⟩ (hR.alloc hR.size _) ((Below.refl _ _).alloc (Nat.le_refl _) _)
          intro X10 w5 hR5 hx _
          obtain ⟨-, -, -, x3, x4, -, x6, -⟩ := hx
          have x3 : X10 3 = .map (some mb) := x3
          have x4 : X10 4 = .agg #[.int .i64 k, .int .i64 L] := x4
          obtain ⟨g, x6, hgB, hcg⟩ : boxI w4.heap.size [.pointer none, .int .i64 0] (X10 6) w5 := x6
          obtain ⟨w6, hrun, ht, ho⟩ := HM2.out.put hR5 HBB.out HNF.out (f := (k, (L : Int))) ⟨HK.out, by have := HL4.out; show (L : Int) = 4 ∨ (L : Int) = 16; omega⟩ hgB hcg
          change tailWp _ _ [_] _ _
          rw [adtail_cons, x3, x4, x6]
          simp only at hrun
          have HT := Lib.hid ht
          have HC := Lib.hid (ho.cs (HC2.out.below hR5) (fun e => HNE.out.1 e.symm))
          have HF := Lib.hid (ho.cs (HF2.out.below hR5) (fun e => HNE.out.2 e.symm))
          clear x3 x4 x6 hcg hR5 ht ho HM2 HC2 HF2 hgB
          go_simp
          try refine ⟨_, rfl, ?_⟩
          try rw [adtail_nil]
          clear hrun
          go_upto_region 11 with fail
          refine wp_region_tail ad_follows (fun x => by simp [putsF, Act.put]; rfl) (fun v => Below w6.heap.size w6 v)
            [isV (.pointer (some ⟨b, 0, none⟩)), isV (.pointer (some ⟨b, 0, none⟩)), isV (.pointer (some ⟨b, 3, none⟩)), isV (.map (some mb)), isV (.agg #[.int .i64 k, .int .i64 L]), isV (.pointer (some ⟨g, 0, none⟩)), isV (.pointer (some ⟨w.heap.size, 2, none⟩)), isV (.agg #[.string a, .int .i64 x]), isV (.string (sb q)), isV (.int .i64 v)]
            10 [] (by kernel_rfl) (by kernel_rfl) (by kernel_rfl) rfl (by kernel_rfl) (by kernel_rfl) ?_ (Below.refl _ _).drew ?_ ?_
          · repeat (first | exact trivial | refine ⟨by first | exact isV_stays _, ?_⟩)
          · refine ⟨?_, ?_, ?_, ?_, ?_, ?_, ?_, ?_, ?_, ?_, skipped rfl, skipped rfl, trivial⟩
            all_goals
              intro _ xx wx hR hd
              refine ⟨fun _ => ?_, fun hX => by simp at hX⟩
              simp at hd ⊢
            · try obtain ⟨hd1, hd2⟩ := hd
              go_simp; exact nextL _ rfl rfl hR (Below.refl _ _)
            · try obtain ⟨hd1, hd2⟩ := hd
              go_simp; exact nextL _ rfl rfl hR (Below.refl _ _)
            · try obtain ⟨hd1, hd2⟩ := hd
              go_simp; exact nextL _ rfl rfl hR (Below.refl _ _)
            · have lq := (HT.out.below hR).cell
              go_simp; exact nextL _ rfl rfl hR (Below.refl _ _)
            · have lq0 := (HF.out.below hR).get 0 (.int .i64 k)
              have lq1 := (HF.out.below hR).get 1 (.int .i64 L)
              go_simp; exact nextL _ rfl rfl hR (Below.refl _ _)
            · try obtain ⟨hd1, hd2⟩ := hd
              have lk := (HT.out.below hR).look
              simp only at lk
              go_simp; exact nextL _ rfl rfl hR (Below.refl _ _)
            · try obtain ⟨hd1, hd2⟩ := hd
              go_simp; exact nextL _ rfl rfl hR (Below.refl _ _)
            · have lq2 := (HC.out.below hR).get 2 (.string a)
              have lq3 := (HC.out.below hR).get 3 (.int .i64 x)
              go_simp; exact nextL _ rfl rfl hR (Below.refl _ _)
            · try obtain ⟨hd1, hd2⟩ := hd
              go_simp
              go_at_call 59
              refine (HKE.out wx).mono ?_
              rintro e wy ⟨rfl, hby⟩
              exact nextL _ rfl rfl (hR.trans (hby.mono hR.size)) hby
            · try obtain ⟨hd1, hd2⟩ := hd
              go_simp; exact nextL _ rfl rfl hR (Below.refl _ _)
          intro X11 w8 hR8 hx _
          obtain ⟨-, -, -, -, -, x5, -, -, x8, x9, -⟩ := hx
          have x5 : X11 5 = .pointer (some ⟨g, 0, none⟩) := x5
          have x8 : X11 8 = .string (sb q) := x8
          have x9 : X11 9 = .int .i64 v := x9
          have HT8 := Lib.hid (HT.out.below hR8)
          change tailWp _ _ [_, _] _ _
          rw [adtail_cons, x5, x8, x9]
          clear x5 x8 x9 hR8 HT HC HF
          go_simp
          go_at_call 61
          refine (HT8.out.tree q v HQM.out hm hto).mono ?_
          rintro e w9 ⟨rfl, hI9⟩
          have HI9 := Lib.hid hI9
          clear hI9 HT8
          refine ⟨_, rfl, ?_⟩
          rw [adtail_nil]
          go_simp
          go_wp2_with fail
          go_ret
          exact ⟨by rw [HP.out.1]; rfl, by rw [HP.out.2]; exact HI9.out⟩
        · subst hFe
          obtain ⟨ga, hga⟩ : ∃ ga, ga = xF.a := ⟨_, rfl⟩
          have HLK : Hid (lookF (F1 ++ xF :: F2) (k, (L : Int)) = some (.pointer (some ⟨ga, 0, none⟩))) := Lib.hid (by rw [hga]; exact lookF_at e1 e2)
          have HEE := Lib.hid (And.intro e1 (And.intro e2 hga))
          clear e1 e2 hga
          refine wp_region_goesG ad_follows (fun x => by simp [putsF, Act.put]; rfl) W2.heap.size W2
            [isV (.pointer (some ⟨b, 0, none⟩)), isV (.pointer (some ⟨b, 0, none⟩)), isV (.pointer (some ⟨b, 3, none⟩)), isV (.map (some mb)), isV (.agg #[.int .i64 k, .int .i64 L]), isV (.pointer (some ⟨ga, 0, none⟩)), isV (.bool false)]
            (by kernel_rfl) (by kernel_rfl) (by kernel_rfl) rfl ?_ (Below.refl _ _) ?_ ?_
          · repeat (first | exact trivial | refine ⟨by first | exact isV_stays _ , ?_⟩)
          · refine ⟨?_, ?_, ?_, ?_, ?_, ?_, ?_, trivial⟩
            all_goals
              intro x wx hR hd
              simp at hd ⊢
              try simp [hd]
            all_goals try exact fun hX => absurd (show (false : Bool) = true from hX) (by decide)
            · go_simp
              exact next_same _ rfl rfl hR
            · go_simp
              exact next_same _ rfl rfl hR
            · go_simp
              exact next_same _ rfl rfl hR
            · have lq := (HM.out.below hR).cell
              go_simp
              exact next_same _ rfl rfl hR
            · have lq0 := (HF.out.below hR).get 0 (.int .i64 k)
              have lq1 := (HF.out.below hR).get 1 (.int .i64 L)
              go_simp
              exact next_same _ rfl rfl hR
            · try obtain ⟨hd1, hd2⟩ := hd
              have lk := (HM.out.below hR).look (k, (L : Int))
              rw [HLK.out] at lk
              simp only [Option.getD_none, Option.getD_some] at lk
              go_simp
              exact next_same _ rfl rfl hR
            · go_simp
              exact next_same _ rfl rfl hR
          intro X9 w4 hR hx
          simp [AllWords] at hx
          have hx6 : X9 6 = .bool false := by simp [hx]
          clear hx
          rw [hx6]
          have HM2 := Lib.hid (HM.out.below hR)
          have HF2 := Lib.hid (HF.out.below hR)
          have HC2 := Lib.hid (HC.out.below hR)
          have HS2 := Lib.hid (Nat.le_trans HS.out hR.size)
          clear hR hx6 HM HF HC HS HLK
          have HT : Hid (IXt W B b own S most (k, (L : Int)) mb ga w w4) := Lib.hid (by rw [HEE.out.2.2]; exact HM2.out.has HEE.out.1 HEE.out.2.1)
          have HC := HC2
          have HF := HF2
          clear HM2 HC2 HF2 HEE
          go_upto_region 11 with fail
          refine wp_region_tail ad_follows (fun x => by simp [putsF, Act.put]; rfl) (fun v => Below w4.heap.size w4 v)
            [isV (.pointer (some ⟨b, 0, none⟩)), isV (.pointer (some ⟨b, 0, none⟩)), isV (.pointer (some ⟨b, 3, none⟩)), isV (.map (some mb)), isV (.agg #[.int .i64 k, .int .i64 L]), isV (.pointer (some ⟨ga, 0, none⟩)), isV (.pointer (some ⟨w.heap.size, 2, none⟩)), isV (.agg #[.string a, .int .i64 x]), isV (.string (sb q)), isV (.int .i64 v)]
            10 [] (by kernel_rfl) (by kernel_rfl) (by kernel_rfl) rfl (by kernel_rfl) (by kernel_rfl) ?_ (Below.refl _ _).drew ?_ ?_
          · repeat (first | exact trivial | refine ⟨by first | exact isV_stays _, ?_⟩)
          · refine ⟨?_, ?_, ?_, ?_, ?_, ?_, ?_, ?_, ?_, ?_, skipped rfl, skipped rfl, trivial⟩
            all_goals
              intro _ xx wx hR hd
              refine ⟨fun _ => ?_, fun hX => by simp at hX⟩
              simp at hd ⊢
            · try obtain ⟨hd1, hd2⟩ := hd
              go_simp; exact nextL _ rfl rfl hR (Below.refl _ _)
            · try obtain ⟨hd1, hd2⟩ := hd
              go_simp; exact nextL _ rfl rfl hR (Below.refl _ _)
            · try obtain ⟨hd1, hd2⟩ := hd
              go_simp; exact nextL _ rfl rfl hR (Below.refl _ _)
            · have lq := (HT.out.below hR).cell
              go_simp; exact nextL _ rfl rfl hR (Below.refl _ _)
            · have lq0 := (HF.out.below hR).get 0 (.int .i64 k)
              have lq1 := (HF.out.below hR).get 1 (.int .i64 L)
              go_simp; exact nextL _ rfl rfl hR (Below.refl _ _)
            · try obtain ⟨hd1, hd2⟩ := hd
              have lk := (HT.out.below hR).look
              simp only at lk
              go_simp; exact nextL _ rfl rfl hR (Below.refl _ _)
            · try obtain ⟨hd1, hd2⟩ := hd
              go_simp; exact nextL _ rfl rfl hR (Below.refl _ _)
            · have lq2 := (HC.out.below hR).get 2 (.string a)
              have lq3 := (HC.out.below hR).get 3 (.int .i64 x)
              go_simp; exact nextL _ rfl rfl hR (Below.refl _ _)
            · try obtain ⟨hd1, hd2⟩ := hd
              go_simp
              go_at_call 59
              refine (HKE.out wx).mono ?_
              rintro e wy ⟨rfl, hby⟩
              exact nextL _ rfl rfl (hR.trans (hby.mono hR.size)) hby
            · try obtain ⟨hd1, hd2⟩ := hd
              go_simp; exact nextL _ rfl rfl hR (Below.refl _ _)
          intro X11 w8 hR8 hx _
          obtain ⟨-, -, -, -, -, x5, -, -, x8, x9, -⟩ := hx
          have x5 : X11 5 = .pointer (some ⟨ga, 0, none⟩) := x5
          have x8 : X11 8 = .string (sb q) := x8
          have x9 : X11 9 = .int .i64 v := x9
          have HT8 := Lib.hid (HT.out.below hR8)
          change tailWp _ _ [_, _] _ _
          rw [adtail_cons, x5, x8, x9]
          clear x5 x8 x9 hR8 HT HC HF
          go_simp
          go_at_call 61
          refine (HT8.out.tree q v HQM.out hm hto).mono ?_
          rintro e w9 ⟨rfl, hI9⟩
          have HI9 := Lib.hid hI9
          clear hI9 HT8
          refine ⟨_, rfl, ?_⟩
          rw [adtail_nil]
          go_simp
          go_wp2_with fail
          go_ret
          exact ⟨by rw [HP.out.1]; rfl, by rw [HP.out.2]; exact HI9.out⟩
end Go.Proofs.YtkdknfedieeenaaGreatDoor
namespace Go.Proofs.YtkdknfedieeenaaGreatDoor
open Go.RowKit
set_option linter.unusedVariables false
set_option linter.unusedSimpArgs false
set_option maxRecDepth 20000
attribute [local simp] putsF isV wordOf Deps Region.binds Region.wanted Act.put wantedX isB
theorem look_nil (f : Int × Int) (w : World) : (Instr.lookup 127 (.map none) (.agg #[.int .i64 f.1, .int .i64 f.2]) true).run Tryz.prog w = .ok (.tuple #[.pointer none, .bool false]) w := by kernel_rfl
section
variable {W w w' w2 : World} {B b most mb a lv us n : Nat} {V : Value} {mv : Option Nat} {own : List Nat} {S : IxS} {f : Int × Int} {F : List IxF} {M : ByteArray → Option Int}
theorem IxOf.look2 (h : IxOf W B b V us n mv F M lv most w) (f : Int × Int) : (Instr.lookup 127 (.map mv) (.agg #[.int .i64 f.1, .int .i64 f.2]) true).run Tryz.prog w = .ok (.tuple #[(lookF F f).getD (.pointer none), .bool (lookF F f).isSome]) w := by
  cases mv with
  | none =>
    rw [h.nomap rfl]
    exact look_nil f w
  | some mb => exact (h.mapm mb rfl).lookupK Tryz.underlying127 fam_keys (ptr_zero w) f
noncomputable def delT (S : IxS) (f : Int × Int) (q : List UInt8) : IxS := if (getR (S.G f) q).isSome then { S with G := fun g => if g = f then delR (S.G f) q else S.G g, tot := S.tot - 1 } else S
theorem IXt.treeDel (h : IXt W B b own S most f mb a w w') (q : List UInt8) (hq : q.length ≤ 9223372036854775807) (hmo : most ≤ 34359738368) :
    Calls Tryz.prog 58 #[.pointer (some ⟨a, 0, none⟩), .string (sb q)] w' fun e w2 => e = .returned (.bool (getR (S.G f) q).isSome) ∧ IXn W B b own (delT S f q) most w w2 := by
  have h0 := h
  obtain ⟨V, us, n, F1, x, F2, h1, h2, h3, h4, h5, h6, h7, h8, h9, h10⟩ := h
  subst h3
  have hx : x ∈ F1 ++ x :: F2 := by simp
  have hG : S.G f = x.t := by rw [h5, treeF_at h2 h4]
  have hfew := h1.few x hx
  have hok := h1.tries x hx
  unfold delT
  rw [hG]
  cases hg : getR x.t q with
  | none =>
    refine (hok.delNot q hq hg).mono ?_
    rintro e w2 ⟨rfl, hb⟩
    obtain ⟨V, us, n, F1, x, F2, h1, h2, h3, h4, h5, h6, h7, h8, h9, h10⟩ := h0.below hb
    rw [if_neg (show ¬ (none : Option Int).isSome = true by simp)]
    exact ⟨rfl, _, ⟨V, us, n, some mb, _, h1, rfl, h5, h6, h7, h8⟩, h9, h10⟩
  | some v =>
    refine (hok.del q v hg (by omega)).mono ?_
    rintro e w2 ⟨rfl, bs', t1, t2, t3⟩
    have hkp := keys_del hok.ok hok.fit hg
    obtain ⟨g1, g2⟩ := h1.trie (x' := ⟨x.f, x.a, bs', delR x.t q⟩) (most' := most) (Nat.le_refl _) t1 rfl rfl (by show (delR x.t q).keys.length ≤ 1152921504606846975; omega) t2 t3
    have hmem : ∀ q, (q = x.a ∨ q ∈ x.bs) → q ∈ ownI b V (some mb) (F1 ++ x :: F2) := fun q e => IxOf.x_mem hx e
    rw [if_pos (show (some v).isSome = true from rfl)]
    refine ⟨rfl, _, ⟨V, us, n, some mb, F1 ++ ⟨x.f, x.a, bs', delR x.t q⟩ :: F2, g1, rfl, ?_, ?_, ?_, ?_⟩, h9.trans t2 (fun p hp e => ?_), fun p hp => ?_⟩
    · show (fun g => if g = f then delR x.t q else S.G g) = _
      have e := treeF_set (F1 := F1) (F2 := F2) (x := x) (x' := ⟨x.f, x.a, bs', delR x.t q⟩) rfl (by rw [h2]; exact h4)
      rw [h5, ← h2]
      exact e.symm
    · have := totF_set F1 F2 x ⟨x.f, x.a, bs', delR x.t q⟩
      simp only at this
      rw [← h6] at this
      show S.tot - 1 = _
      omega
    · intro y hy
      rcases List.mem_append.1 hy with e | e
      · exact h7 y (List.mem_append.2 (.inl e))
      · rcases List.mem_cons.1 e with rfl | e
        · exact h7 x hx
        · exact h7 y (List.mem_append.2 (.inr (List.mem_cons.2 (.inr e))))
    · show S.tot - 1 ≤ 1152921504606846975
      omega
    · rcases h10 p (hmem p e) with e | e
      · exact e
      · omega
    · rcases g2 p hp with e | e
      · exact h10 p e
      · right; have := h9.size; omega
end
def delB (S : IxS) (t : Trig) : Bool := (encR t).isSome && (S.val t).isSome
noncomputable def delI (S : IxS) (t : Trig) : IxS := if (encR t).isSome = true then S.del t else S
set_option maxHeartbeats 16000000 in
theorem del_index {W w : World} {B b most : Nat} {own : List Nat} {S : IxS} (h : IXs W B b own S most w) (hm : most ≤ 34359738368) (k : Int) (n a : ByteArray) (x : Int) (hn : n.size ≤ 140737488355328) (ha : a.size ≤ 140737488355328) (hL : LaidT w) :
    Calls Tryz.prog 27 #[.pointer (some ⟨b, 0, none⟩), .agg #[.int .i64 k, .string n, .string a, .int .i64 x]] w fun e w' => e = .returned (.bool (delB S (toT k n a x))) ∧ IXn W B b own (delI S (toT k n a x)) most w w' := by
  obtain ⟨W0, hW0⟩ : ∃ W0, W0 = w.alloc (.cells #[.int .i64 k, .string n, .string a, .int .i64 x] 46) := ⟨_, rfl⟩
  have hc0 : Cs W0 w.heap.size [.int .i64 k, .string n, .string a, .int .i64 x] := by rw [hW0]; exact Cs.new w _ _ _
  have hb0 : Below w.heap.size w W0 := by rw [hW0]; exact (Below.refl _ _).alloc (Nat.le_refl _) _
  have henc := encode_any k n a x W0 hn ha (hL.below hb0 (Nat.le_refl _))
  have HC0 := Lib.hid hc0
  have HB0 := Lib.hid hb0
  have HW0 := Lib.hid hW0
  cases he : encR (toT k n a x) with
  | none =>
    rw [he, show encV none = .tuple #[.string ⟨#[]⟩, .bool false] from rfl] at henc
    have HE := Lib.hid henc
    have HI := Lib.hid h
    have HP : Hid (delB S (toT k n a x) = false ∧ delI S (toT k n a x) = S) := Lib.hid ⟨by unfold delB; rw [he]; rfl, by unfold delI; rw [he]; rfl⟩
    clear he henc hc0 hb0 hW0 h hL
    go_enter Tryz.func27, Tryz.ntmps27
    go_wp2_with (go_at_call 37; rw [← HW0.out]; refine HE.out.mono ?_; rintro e w1 ⟨rfl, hb1⟩; refine Hid.out ?_)
    refine Lib.hid ?_
    have HB1 := Lib.hid (HB0.out.trans (hb1.mono HB0.out.size))
    clear hb1
    go_wp2_with fail
    go_ret
    exact ⟨by rw [HP.out.1]; rfl, own, by rw [HP.out.2]; exact HI.out.below HB1.out, Only.of_below _ HB1.out, fun q hq => .inl hq⟩
  | some z =>
    obtain ⟨Z, hZ⟩ : ∃ Z, encV (some z) = .tuple #[.string Z, .bool true] := ⟨_, rfl⟩
    rw [he, hZ] at henc
    have HE := Lib.hid henc
    clear hZ
    cases hnb : namB (toT k n a x) with
    | true =>
      obtain ⟨hq1, hq2⟩ := (namB_iff _).1 hnb
      have ha0 : a = ⟨#[]⟩ := by
        have h0 : a.data.toList = [] := hq1
        exact ByteArray.ext (Array.ext' (by rw [h0]))
      have hx0 : x = 0 := hq2
      subst ha0 hx0
      have hpq := fun w => pfx_eql ⟨#[]⟩ ⟨#[]⟩ 0 0 w
      rw [show ((⟨#[]⟩ : ByteArray).toList == (⟨#[]⟩ : ByteArray).toList && (0 : Int) == 0) = true by simp] at hpq
      have hwd := fun w => iword_any k n w hn
      have hwp : wordP (toT k n ⟨#[]⟩ 0) = wordT k n := by unfold wordP toT; rw [show baL n.data.toList = n from rfl]
      have HP : Hid (delB S (toT k n ⟨#[]⟩ 0) = (S.M (wordT k n)).isSome ∧ delI S (toT k n ⟨#[]⟩ 0) = { S with M := upd S.M (wordT k n) none, lv := if (S.M (wordT k n)).isSome then S.lv - 1 else S.lv }) := Lib.hid (by
        unfold delB delI IxS.del IxS.val
        rw [he, hnb, hwp]
        simp)
      have hws := wordT_size k n
      obtain ⟨K, hK⟩ : ∃ K, K = wordT k n := ⟨_, rfl⟩
      rw [← hK] at hwd HP hws
      have HWD := Lib.hid hwd
      have HI := Lib.hid h
      have HKS : Hid (K.size ≤ maxLen) := Lib.hid (by rw [hws]; unfold maxLen; omega)
      clear hq1 hq2 hwd hwp hws hK he henc hc0 hb0 hW0 h hL hnb
      go_enter Tryz.func27, Tryz.ntmps27
      go_wp2_with (go_at_call 37; rw [← HW0.out]; refine HE.out.mono ?_; rintro e w1 ⟨rfl, hb1⟩; refine Hid.out ?_)
      refine Lib.hid ?_
      have HB1 := Lib.hid (HB0.out.trans (hb1.mono HB0.out.size))
      have HC1 := Lib.hid (HC0.out.below hb1)
      clear hb1 HB0 HC0 HE HW0
      have y2 := HC1.out.get 2 (.string ⟨#[]⟩)
      have y3 := HC1.out.get 3 (.int .i64 0)
      go_upto_region 5 with fail
      clear y2 y3
      refine wp_region_tail ad_follows (fun x => by simp [putsF, Act.put]; rfl) (fun v => Below w1.heap.size w1 v)
        [isV (.pointer (some ⟨b, 0, none⟩)), isV (.pointer (some ⟨b, 0, none⟩)), isV (.pointer (some ⟨b, 0, none⟩)), isV (.pointer (some ⟨w.heap.size, 0, none⟩)), isV (.int .i64 k), isV (.pointer (some ⟨w.heap.size, 1, none⟩)), isV (.string n), isV (.string K)]
        8 [] (by kernel_rfl) (by kernel_rfl) (by kernel_rfl) rfl (by kernel_rfl) (by kernel_rfl) ?_ (Below.refl _ _).drew ?_ ?_
      · repeat (first | exact trivial | refine ⟨by first | exact isV_stays _, ?_⟩)
      · refine ⟨?_, ?_, ?_, ?_, ?_, ?_, ?_, ?_, skipped rfl, skipped rfl, trivial⟩
        all_goals
          intro _ xx wx hR hd
          refine ⟨fun _ => ?_, fun hX => by simp at hX⟩
          simp at hd ⊢
        · try obtain ⟨hd1, hd2⟩ := hd
          go_simp; exact nextL _ rfl rfl hR (Below.refl _ _)
        · try obtain ⟨hd1, hd2⟩ := hd
          go_simp; exact nextL _ rfl rfl hR (Below.refl _ _)
        · try obtain ⟨hd1, hd2⟩ := hd
          go_simp; exact nextL _ rfl rfl hR (Below.refl _ _)
        · try obtain ⟨hd1, hd2⟩ := hd
          go_simp; exact nextL _ rfl rfl hR (Below.refl _ _)
        · have q := (HC1.out.below hR).get 0 (.int .i64 k)
          go_simp; exact nextL _ rfl rfl hR (Below.refl _ _)
        · try obtain ⟨hd1, hd2⟩ := hd
          go_simp; exact nextL _ rfl rfl hR (Below.refl _ _)
        · have q := (HC1.out.below hR).get 1 (.string n)
          go_simp; exact nextL _ rfl rfl hR (Below.refl _ _)
        · try obtain ⟨hd1, hd2⟩ := hd
          go_simp
          go_at_call 57
          refine (HWD.out wx).mono ?_
          rintro e wy ⟨rfl, hby⟩
          exact nextL _ rfl rfl (hR.trans (hby.mono hR.size)) hby
      intro X5 w5 hR5 hx _
      obtain ⟨-, -, x2, -, -, -, -, x7, -⟩ := hx
      have x2 : X5 2 = .pointer (some ⟨b, 0, none⟩) := x2
      have x7 : X5 7 = .string K := x7
      have HB5 := Lib.hid (HB1.out.trans (hR5.mono HB1.out.size))
      change tailWp _ _ [_, _] _ _
      rw [adtail_cons, x2, x7]
      go_simp
      go_at_call 56
      refine ((HI.out.below HB5.out).delName hm K HKS.out).mono ?_
      rintro e w6 ⟨rfl, own', hI6, hO6, hM6⟩
      refine ⟨_, rfl, ?_⟩
      rw [adtail_nil]
      have HI6 := Lib.hid hI6
      have HO6 := Lib.hid (((Only.of_below (fun q => q ∈ own) HB5.out).trans hO6 (fun _ _ e => e)))
      have HM6 := Lib.hid (show ∀ q ∈ own', q ∈ own ∨ w.heap.size ≤ q from fun q hq => (hM6 q hq).imp id (fun e => Nat.le_trans HB5.out.size e))
      clear hI6 hO6 hM6 HI HB5 HB1 HC1 HWD hR5 x2 x7
      go_simp
      go_wp2_with fail
      go_ret
      exact ⟨by rw [HP.out.1]; rfl, own', by rw [HP.out.2]; exact HI6.out, HO6.out, HM6.out⟩
    | false =>
      have htr : n = ⟨#[]⟩ ∧ mayP a.data.toList x = true ∧ (k = 0 ∨ k = 3 ∨ k = 6) := by
        rcases enc_shape he with ⟨q1, q2, _⟩ | ⟨q1, q2, q3⟩
        · rw [(namB_iff _).2 ⟨q1, q2⟩] at hnb; cases hnb
        · exact ⟨ByteArray.ext (Array.ext' (show n.data.toList = [] from q1)), q2, q3⟩
      obtain ⟨hn0, hmp, hkk⟩ := htr
      subst hn0
      have hpq := fun w => pfx_eql a ⟨#[]⟩ x 0 w
      rw [show (a.toList == (⟨#[]⟩ : ByteArray).toList && x == 0) = false by
        rw [Bool.eq_false_iff]
        intro e
        have hnb' : ¬ (a.data.toList = [] ∧ x = 0) := fun h => by rw [(namB_iff (toT k ⟨#[]⟩ a x)).2 h] at hnb; cases hnb
        simp only [Bool.and_eq_true, beq_iff_eq, ByteArray.toList_eq] at e
        exact hnb' e] at hpq
      have hke := fun w => key_any a x w hmp
      obtain ⟨q, hq⟩ : ∃ q, q = signs ((bitsL a.data.toList).take x.toNat) := ⟨_, rfl⟩
      have hqm : mayL q = true := by rw [hq]; exact keyP_may (t := toT k ⟨#[]⟩ a x) hmp
      obtain ⟨L, hLL⟩ : ∃ L : Nat, L = a.size := ⟨_, rfl⟩
      have hL4 : L = 4 ∨ L = 16 := by
        have := isAddr_pos (mayP_more hmp).1
        rw [show a.data.toList.length = a.size from Array.length_toList] at this
        omega
      have HP : Hid (delB S (toT k ⟨#[]⟩ a x) = (getR (S.G (k, (L : Int))) q).isSome ∧ delI S (toT k ⟨#[]⟩ a x) = delT S (k, (L : Int)) q) := Lib.hid (by
        have hf : famP (toT k ⟨#[]⟩ a x) = (k, (L : Int)) := by
          show (k, ((a.data.toList.length : Nat) : Int)) = _
          rw [hLL, Array.length_toList]; rfl
        have hk' : keyP (toT k ⟨#[]⟩ a x) = q := hq.symm
        unfold delB delI IxS.del IxS.val delT
        rw [he, hnb, hf, hk']
        simp)
      rw [← hq] at hke
      have HKE := Lib.hid hke
      have HQM := Lib.hid hqm
      have HK := Lib.hid hkk
      have HL4 := Lib.hid hL4
      have HI := Lib.hid h
      clear hke hqm hkk hL4 hq hmp he hnb hc0 hb0 hW0 h hL
      go_enter Tryz.func27, Tryz.ntmps27
      go_wp2_with (go_at_call 37; rw [← HW0.out]; refine HE.out.mono ?_; rintro e w1 ⟨rfl, hb1⟩; refine Hid.out ?_)
      refine Lib.hid ?_
      have HB1 := Lib.hid (HB0.out.trans (hb1.mono HB0.out.size))
      have HC1 := Lib.hid (HC0.out.below hb1)
      clear hb1 HB0 HC0 HE HW0
      have y2 := HC1.out.get 2 (.string a)
      have y3 := HC1.out.get 3 (.int .i64 x)
      go_upto_region 6 with fail
      clear y2 y3
      have HBB := Lib.hid (show B ≤ w.heap.size from by obtain ⟨V, us, n', mv, F, h1, _⟩ := HI.out; exact Nat.le_of_lt (Nat.lt_of_le_of_lt (h1.ge _ IxOf.b_mem) h1.tab.lt))
      obtain ⟨V, us, n', mv, F, h1, hown, h2, h3, h4, h5⟩ := HI.out.below HB1.out
      have HN := Lib.hid (And.intro h2 (And.intro h3 (And.intro h4 h5)))
      have HO := Lib.hid hown
      have HI1 := Lib.hid h1
      obtain ⟨PV, hPV⟩ : ∃ PV, PV = (lookF F (k, (L : Int))).getD (.pointer none) := ⟨_, rfl⟩
      obtain ⟨ok, hok⟩ : ∃ ok, ok = (lookF F (k, (L : Int))).isSome := ⟨_, rfl⟩
      have HLK := Lib.hid (And.intro hPV hok)
      have HLL := Lib.hid hLL
      clear h1 h2 h3 h4 h5 hown hPV hok HI hLL
      refine wp_region_goesG ad_follows (fun x => by simp [putsF, Act.put]; rfl) w1.heap.size w1
        [isV (.pointer (some ⟨b, 0, none⟩)), isV (.pointer (some ⟨b, 0, none⟩)), isV (.pointer (some ⟨b, 3, none⟩)), isV (.map mv), isV (.pointer (some ⟨w.heap.size, 0, none⟩)), isV (.int .i64 k), isV (.pointer (some ⟨w.heap.size, 2, none⟩)), isV (.pointer (some ⟨w.heap.size, 2, none⟩)), isV (.string a), isV (.int .i64 L), isV (.agg #[.int .i64 k, .int .i64 L]), isV (.tuple #[PV, .bool ok]), isV (.tuple #[PV, .bool ok]), isV PV, isV (.bool ok), isV PV, isV (.bool ok)]
        (by kernel_rfl) (by kernel_rfl) (by kernel_rfl) rfl ?_ (Below.refl _ _) ?_ ?_
      · repeat (first | exact trivial | refine ⟨by first | exact isV_stays _ , ?_⟩)
      · refine ⟨?_, ?_, ?_, ?_, ?_, ?_, ?_, ?_, ?_, ?_, ?_, ?_, ?_, ?_, ?_, ?_, ?_, trivial⟩
        all_goals
          intro x wx hR hd
          simp at hd ⊢
          try simp [hd]
        all_goals try exact fun hX => absurd (show (false : Bool) = true from hX) (by decide)
        · go_simp
          exact next_same _ rfl rfl hR
        · go_simp
          exact next_same _ rfl rfl hR
        · go_simp
          exact next_same _ rfl rfl hR
        · have lq := (HI1.out.below hR).own.get 3 (.map mv)
          go_simp
          exact next_same _ rfl rfl hR
        · go_simp
          exact next_same _ rfl rfl hR
        · have lq := (HC1.out.below hR).get 0 (.int .i64 k)
          go_simp
          exact next_same _ rfl rfl hR
        · go_simp
          exact next_same _ rfl rfl hR
        · go_simp
          exact next_same _ rfl rfl hR
        · have lq := (HC1.out.below hR).get 2 (.string a)
          go_simp
          exact next_same _ rfl rfl hR
        · go_simp
          exact next_same _ rfl (by show _ = _; rw [HLL.out]) hR
        · go_simp
          exact next_same _ rfl rfl hR
        · try obtain ⟨hd1, hd2⟩ := hd
          have lk := (HI1.out.below hR).look2 (k, (L : Int))
          rw [← HLK.out.1, ← HLK.out.2] at lk
          simp only at lk
          go_simp
          exact next_same _ rfl rfl hR
        · go_simp
          exact next_same _ rfl rfl hR
        · go_simp
          exact next_same _ rfl rfl hR
        · go_simp
          exact next_same _ rfl rfl hR
        · go_simp
          exact next_same _ rfl rfl hR
        · go_simp
          exact next_same _ rfl rfl hR
      intro X6 w5 hR hx
      simp [AllWords] at hx
      have hx15 : X6 15 = PV := by simp [hx]
      have hx16 : X6 16 = .bool ok := by simp [hx]
      clear hx
      rw [hx15, hx16]
      have HB5 := Lib.hid (HB1.out.trans (hR.mono HB1.out.size))
      have HC5 := Lib.hid (HC1.out.below hR)
      have HI5 := Lib.hid (HI1.out.below hR)
      clear hR hx15 hx16 HB1 HC1 HI1
      rcases lookF_cases F (k, (L : Int)) with hno | ⟨F1, xF, F2, hFe, e1, e2⟩
      · obtain ⟨hPV, hok⟩ := HLK.out
        rw [lookF_no hno] at hPV hok
        simp only [Option.getD_none, Option.isSome_none] at hPV hok
        subst hPV hok
        have HR : Hid (getR (S.G (k, (L : Int))) q = none) := Lib.hid (by rw [HN.out.1, treeF_no hno]; simp [getR, getO, longR])
        clear hno HLK
        go_wp2_with fail
        go_ret
        refine ⟨by rw [HP.out.1, HR.out]; rfl, own, ?_, Only.of_below _ HB5.out, fun q hq => .inl hq⟩
        rw [HP.out.2, delT, HR.out, if_neg (by simp)]
        obtain ⟨k1, k2, k3, k4⟩ := HN.out
        exact ⟨V, us, n', mv, F, HI5.out, HO.out, k1, k2, k3, k4⟩
      · obtain ⟨hPV, hok⟩ := HLK.out
        subst hFe
        rw [lookF_at e1 e2] at hPV hok
        simp only [Option.getD_some, Option.isSome_some] at hPV hok
        subst hPV hok
        cases mv with
        | none => have := HI5.out.nomap rfl; simp at this
        | some mb =>
          have HT : Hid (IXt W B b own S most (k, (L : Int)) mb xF.a w w5) := Lib.hid (by
            obtain ⟨k1, k2, k3, k4⟩ := HN.out
            exact ⟨V, us, n', F1, xF, F2, HI5.out, e1, rfl, e2, k1, k2, k3, k4, Only.of_below (fun q => q ∈ own) HB5.out, fun q hq => .inl (by rw [HO.out]; exact hq)⟩)
          have y2 := HC5.out.get 2 (.string a)
          have y3 := HC5.out.get 3 (.int .i64 x)
          clear e1 e2 HLK HN HO HI5
          go_wp2_with (go_at_call 59; refine (HKE.out _).mono ?_; rintro e w6 ⟨rfl, hb6⟩; refine Hid.out ?_)
          refine Lib.hid ?_
          have HT6 := Lib.hid (HT.out.below hb6)
          clear hb6 HT HC5 y2 y3
          go_wp2_with (go_at_call 58; refine (HT6.out.treeDel q (by have := (mayL_iff q).1 HQM.out; omega) hm).mono ?_; rintro e w7 ⟨rfl, hI7⟩; refine Hid.out ?_)
          refine Lib.hid ?_
          have HI7 := Lib.hid hI7
          clear hI7 HT6
          go_wp2_with fail
          go_ret
          exact ⟨by rw [HP.out.1]; rfl, by rw [HP.out.2]; exact HI7.out⟩
end Go.Proofs.YtkdknfedieeenaaGreatDoor
namespace Go.Proofs.YtkdknfedieeenaaGreatDoor
open Go.RowKit
open Go.ChangeMaps (setBlock)
set_option linter.unusedVariables false
set_option linter.unusedSimpArgs false
set_option maxRecDepth 20000
open Classical in
/-- How many prefixes an entry's family has. -/
noncomputable def lenE (F : List IxF) (e : MapEntry) : Nat := ((F.find? fun x => decide (famK x.f = e.key)).map fun x => x.t.keys.length).getD 0
theorem fam_one {F : List IxF} (h : (F.map (·.f)).Nodup) {x y : IxF} (hx : x ∈ F) (hy : y ∈ F) (e : x.f = y.f) : x = y := by
  induction F with
  | nil => cases hx
  | cons z F ih =>
    rw [List.map_cons, List.nodup_cons] at h
    rcases List.mem_cons.1 hx with h1 | h1 <;> rcases List.mem_cons.1 hy with h2 | h2
    · rw [h1, h2]
    · exact absurd (List.mem_map.2 ⟨y, h2, by rw [← e, h1]⟩) h.1
    · exact absurd (List.mem_map.2 ⟨x, h1, by rw [e, h2]⟩) h.1
    · exact ih h.2 h1 h2
open Classical in
theorem lenE_at {F : List IxF} (h : (F.map (·.f)).Nodup) {x : IxF} (hx : x ∈ F) {e : MapEntry} (he : e.key = famK x.f) : lenE F e = x.t.keys.length := by
  unfold lenE
  cases hf : F.find? (fun x => decide (famK x.f = e.key)) with
  | none =>
    rw [List.find?_eq_none] at hf
    exact absurd he.symm (by simpa using hf x hx)
  | some y =>
    have h1 := List.mem_of_find?_eq_some hf
    have h2 := List.find?_some hf
    simp only [decide_eq_true_eq] at h2
    have h3 : y = x := fam_one h h1 hx (fam_keys.inj _ _ (h2.trans he))
    rw [h3]; rfl
theorem sum_entries (T : MapEntry → Nat) : ∀ (F : List IxF) (es : List MapEntry), (es.map (·.key)).Nodup → (F.map (·.f)).Nodup → (∀ e ∈ es, ∃ x ∈ F, e.key = famK x.f) → (∀ x ∈ F, ∃ e ∈ es, e.key = famK x.f) → (∀ x ∈ F, ∀ e ∈ es, e.key = famK x.f → T e = x.t.keys.length) → (es.map T).sum = totF F := by
  intro F
  induction F with
  | nil =>
    intro es _ _ h _ _
    cases es with
    | nil => rfl
    | cons e es => obtain ⟨x, hx, _⟩ := h e (by simp); cases hx
  | cons x F ih =>
    intro es hn hf h1 h2 h3
    obtain ⟨e, he, hk⟩ := h2 x (by simp)
    obtain ⟨es1, es2, rfl⟩ := List.append_of_mem he
    have hTe := h3 x (by simp) e he hk
    rw [List.map_append, List.map_cons, List.nodup_append, List.nodup_cons] at hn
    obtain ⟨n1, ⟨n2, n3⟩, n4⟩ := hn
    rw [List.map_cons, List.nodup_cons] at hf
    have hne : ∀ e' ∈ es1 ++ es2, e'.key ≠ e.key := by
      intro e' h' hke
      rcases List.mem_append.1 h' with h' | h'
      · exact n4 _ (List.mem_map.2 ⟨e', h', rfl⟩) e.key (by simp) hke
      · exact n2 (hke ▸ List.mem_map.2 ⟨e', h', rfl⟩)
    have hmem : ∀ e' ∈ es1 ++ es2, e' ∈ es1 ++ e :: es2 := by
      intro e' h'
      rcases List.mem_append.1 h' with h' | h'
      · exact List.mem_append.2 (.inl h')
      · exact List.mem_append.2 (.inr (List.mem_cons.2 (.inr h')))
    have hih := ih (es1 ++ es2) (by
      rw [List.map_append, List.nodup_append]
      exact ⟨n1, n3, fun p hp q hq => n4 p hp q (List.mem_cons.2 (.inr hq))⟩) hf.2 (fun e' h' => by
        obtain ⟨y, hy, hky⟩ := h1 e' (hmem e' h')
        rcases List.mem_cons.1 hy with rfl | hy
        · exact absurd (hky.trans hk.symm) (hne e' h')
        · exact ⟨y, hy, hky⟩) (fun y hy => by
        obtain ⟨e', h', hky⟩ := h2 y (List.mem_cons.2 (.inr hy))
        refine ⟨e', ?_, hky⟩
        have hee : e' ≠ e := fun q => by
          rw [q, hk] at hky
          exact hf.1 (List.mem_map.2 ⟨y, hy, (fam_keys.inj _ _ hky).symm⟩)
        rcases List.mem_append.1 h' with h' | h'
        · exact List.mem_append.2 (.inl h')
        · rcases List.mem_cons.1 h' with rfl | h'
          · exact absurd rfl hee
          · exact List.mem_append.2 (.inr h')) (fun y hy e' h' hky => h3 y (List.mem_cons.2 (.inr hy)) e' (hmem e' h') hky)
    rw [List.map_append, List.sum_append] at hih
    simp only [List.map_append, List.map_cons, List.sum_append, List.sum_cons, hTe]
    unfold totF at hih ⊢
    rw [List.map_cons, List.sum_cons]
    omega
theorem sum_less (T : MapEntry → Nat) : ∀ (l : List MapEntry) (e : MapEntry), (l.map (·.born)).Nodup → e ∈ l → ((l.filter fun x => !(x.born == e.born)).map T).sum + T e = (l.map T).sum := by
  intro l
  induction l with
  | nil => intro e _ h; cases h
  | cons y l ih =>
    intro e hn he
    rw [List.map_cons, List.nodup_cons] at hn
    by_cases hy : y.born = e.born
    · have hye : e = y := by
        rcases List.mem_cons.1 he with h | h
        · exact h
        · exact absurd (List.mem_map.2 ⟨e, h, hy.symm⟩) hn.1
      subst hye
      rw [List.filter_cons_of_neg (by simp)]
      rw [List.filter_eq_self.2 (fun a ha => by
        simp only [Bool.not_eq_true', beq_eq_false_iff_ne]
        exact fun h => hn.1 (List.mem_map.2 ⟨a, ha, h⟩))]
      rw [List.map_cons, List.sum_cons]; omega
    · rw [List.filter_cons_of_pos (by simp [hy])]
      have he' : e ∈ l := by
        rcases List.mem_cons.1 he with h | h
        · exact absurd (by rw [h]) hy
        · exact h
      have := ih e hn.2 he'
      rw [List.map_cons, List.map_cons, List.sum_cons, List.sum_cons]; omega
/-- A loop over the map at mb under way: its iterator lies at r; s is the sum of what is still to come, of so many (cnt) families. -/
def RngF (w : World) (mb r : Nat) (F : List IxF) (s cnt : Nat) : Prop := ∃ es clock since seen c0, w.heap[mb]? = some (.map es clock) ∧ MapKept.Stamped es clock ∧ (∀ e ∈ es.toList, ∃ x ∈ F, e.key = famK x.f ∧ e.val = .pointer (some ⟨x.a, 0, none⟩)) ∧
  w.heap[r]? = some (.mapIter (some mb) since seen c0) ∧ (∀ x ∈ es.toList, x.born < since) ∧ (leftOf es seen).size = cnt ∧ ((leftOf es seen).toList.map (lenE F)).sum = s ∧ since ≤ c0 ∧ since ≤ clock
section
variable {w w' : World} {mb r s cnt : Nat} {F : List IxF}
theorem RngF.kept (h : RngF w mb r F s cnt) (h1 : w'.heap[mb]? = w.heap[mb]?) (h2 : w'.heap[r]? = w.heap[r]?) : RngF w' mb r F s cnt := by
  obtain ⟨es, clock, since, seen, c0, k1, k2, k3, k4, k5⟩ := h
  exact ⟨es, clock, since, seen, c0, h1.trans k1, k2, k3, h2.trans k4, k5⟩
theorem RngF.lt (h : RngF w mb r F s cnt) : mb < w.heap.size ∧ r < w.heap.size := by
  obtain ⟨es, clock, since, seen, c0, k1, k2, k3, k4, k5⟩ := h
  exact ⟨(Array.getElem?_eq_some_iff.1 k1).1, (Array.getElem?_eq_some_iff.1 k4).1⟩
/-- 'range m'. -/
theorem RngF.start (h : MM famK w mb (lookF F) F.length) (hf : (F.map (·.f)).Nodup) : ∃ w', (Instr.range 127 (.map (some mb))).run Tryz.prog w = .ok (.pointer (some ⟨w.heap.size, 0, none⟩)) w' ∧ RngF w' mb w.heap.size F (totF F) F.length ∧ Below w.heap.size w w' ∧ w'.heap.size = w.heap.size + 1 := by
  have hlt := h.lt
  obtain ⟨es, clock, hb, hn, hs, hk, hM⟩ := h
  have hent : ∀ e ∈ es.toList, ∃ x ∈ F, e.key = famK x.f ∧ e.val = .pointer (some ⟨x.a, 0, none⟩) := by
    intro e he
    obtain ⟨f, hf'⟩ := hk e he
    have hl := (hM f e.val).2 ⟨e, he, hf', rfl⟩
    rcases lookF_cases F f with q | ⟨F1, x, F2, rfl, e1, e2⟩
    · rw [lookF_no q] at hl; cases hl
    · rw [lookF_at e1 e2] at hl
      injection hl with hl
      exact ⟨x, by simp, by rw [hf', e1], hl.symm⟩
  have hnew := MapKept.heap_alloc w (.mapIter (some mb) clock #[] clock)
  refine ⟨_, run_range_map w _ _ _ mb es clock Tryz.underlying127 hb, ⟨es, clock, clock, #[], clock, (hnew.2 mb hlt).trans hb, hs, hent, hnew.1, hs.1, by rw [show leftOf es #[] = es from Array.filter_eq_self.2 (fun x hx => by simp)]; exact hn, ?_, Nat.le_refl _, Nat.le_refl _⟩, (Below.refl _ _).alloc (Nat.le_refl _) _, by simp⟩
  have hl : (leftOf es #[]).toList = es.toList := by simp [leftOf]
  rw [hl]
  refine sum_entries _ F es.toList hs.2.2 hf (fun e he => by obtain ⟨x, hx, h1, _⟩ := hent e he; exact ⟨x, hx, h1⟩) (fun x hx => ?_) (fun x hx e _ hke => lenE_at hf hx hke)
  obtain ⟨F1, F2, rfl⟩ := List.append_of_mem hx
  obtain ⟨e, he, h1, _⟩ := (hM x.f _).1 (lookF_at rfl (fams_apart hf))
  exact ⟨e, he, h1⟩
/-- A step. -/
theorem RngF.next (h : RngF w mb r F s cnt) (hf : (F.map (·.f)).Nodup) (ty : TypeId) :
    (cnt = 0 ∧ s = 0 ∧ (Instr.next (.pointer (some ⟨r, 0, none⟩)) false ty).run Tryz.prog w = .ok (.tuple #[.bool false]) w) ∨
    ∃ x ∈ F, ∃ w' s' cnt', (Instr.next (.pointer (some ⟨r, 0, none⟩)) false ty).run Tryz.prog w = .ok (.tuple #[.bool true, .agg #[.int .i64 x.f.1, .int .i64 x.f.2], .pointer (some ⟨x.a, 0, none⟩)]) w' ∧ RngF w' mb r F s' cnt' ∧ s = s' + x.t.keys.length ∧ cnt' < cnt ∧ Only (fun q => q = r) w w' ∧ w'.heap.size = w.heap.size ∧
      (Instr.entry (.pointer (some ⟨r, 0, none⟩))).run Tryz.prog w' = .ok (.tuple #[.agg #[.int .i64 x.f.1, .int .i64 x.f.2], .pointer (some ⟨x.a, 0, none⟩)]) w' := by
  obtain ⟨es, clock, since, seen, c0, hb, hst, hent, hr, hold, rfl, rfl, hsc, hsk⟩ := h
  have hne : r ≠ mb := fun e => by rw [e, hb] at hr; cases hr
  rcases run_next_at (P := Tryz.prog) w ty r mb since c0 seen es clock hr hb hold hsc with ⟨h0, hrun⟩ | ⟨e, he, w1, hal, hrun⟩
  · refine .inl ⟨h0, ?_, hrun⟩
    have : leftOf es seen = #[] := Array.eq_empty_of_size_eq_zero h0
    rw [this]; rfl
  · obtain ⟨hem, hes⟩ := mem_left he
    obtain ⟨x, hx, hk, hv⟩ := hent e hem
    have hr1 : w1.heap[r]? = some (.mapIter (some mb) since seen c0) := by rcases hal with rfl | rfl <;> exact hr
    have hb1 : w1.heap[mb]? = some (.map es clock) := by rcases hal with rfl | rfl <;> exact hb
    have hset := MapKept.heap_set (o' := .mapIter (some mb) since (seen.push e.born) clock) hr1
    have hb' : (setBlock w1 r (.mapIter (some mb) since (seen.push e.born) clock)).heap[mb]? = some (.map es clock) := (hset.2 mb (fun e1 => hne e1.symm)).trans hb1
    have hen := run_entry_at (P := Tryz.prog) _ r mb since seen es clock e hset.1 hb' hem hst.2.1
    rw [hk, hv] at hrun hen
    have hfl : (leftOf es (seen.push e.born)).toList = (leftOf es seen).toList.filter fun x => !(x.born == e.born) := by
      unfold leftOf
      simp only [Array.toList_filter, List.filter_filter]
      congr 1
      funext y
      rw [contains_push]
      cases seen.contains y.born <;> cases (y.born == e.born) <;> rfl
    refine .inr ⟨x, hx, _, _, _, hrun, ⟨es, clock, since, seen.push e.born, clock, hb', hst, hent, hset.1, hold, rfl, rfl, hsk, hsk⟩, ?_, left_shrinks es seen e he, ?_, ?_, hen⟩
    · rw [hfl, ← lenE_at hf hx hk]
      refine (sum_less (lenE F) _ e ?_ he).symm
      unfold leftOf
      rw [Array.toList_filter]
      exact (List.filter_sublist.map _).nodup hst.2.1
    · rcases hal with rfl | rfl <;> exact ⟨rfl, rfl, rfl, by simp [setBlock], fun i _ hi => hset.2 i (fun e1 => hi e1)⟩
    · rcases hal with rfl | rfl <;> simp [setBlock]
end
end Go.Proofs.YtkdknfedieeenaaGreatDoor
namespace Go.Proofs.YtkdknfedieeenaaGreatDoor
open Go.RowKit
set_option linter.unusedVariables false
set_option linter.unusedSimpArgs false
set_option maxRecDepth 20000
theorem RngF.left_eq {w : World} {mb r s cnt : Nat} {F : List IxF} (h : RngF w mb r F s cnt) : w.rangeLeft mb r = cnt := by
  obtain ⟨es, clock, since, seen, c0, hb, _, _, hr, _, hc, _⟩ := h
  simp only [World.rangeLeft, hb, hr]
  exact hc
set_option maxHeartbeats 8000000 in
theorem len_index {W w : World} {B b most : Nat} {own : List Nat} {S : IxS} (h : IXs W B b own S most w) (hm : most ≤ 34359738368) :
    Calls Tryz.prog 29 #[.pointer (some ⟨b, 0, none⟩)] w fun e w' => e = .returned (.int .i64 (S.len : Nat)) ∧ Below w.heap.size w w' := by
  obtain ⟨V, us, n, mv, F, h1, h2, h3, h4, h5, h6⟩ := h
  have hlen := len_of h1.tab
  have y3 := h1.own.get 3 (.map mv)
  have hlv : S.lv ≤ 34359738368 := Nat.le_trans h1.tab.most_ hm
  have HLEN := Lib.hid hlen
  cases mv with
  | none =>
    have hF := h1.nomap rfl
    subst hF
    have hres : S.len = S.lv := by unfold IxS.len; rw [h4]; rfl
    have hrn := run_range_nilMap w _ _ _ Tryz.underlying127
    obtain ⟨r, hr⟩ : ∃ r, r = w.heap.size := ⟨_, rfl⟩
    obtain ⟨W2, hW2⟩ : ∃ W2, W2 = w.alloc (.mapIter none 0 #[] 0) := ⟨_, rfl⟩
    have hnx : ∀ ty, (Instr.next (.pointer (some ⟨r, 0, none⟩)) false ty).run Tryz.prog W2 = .ok (.tuple #[.bool false]) W2 := by
      intro ty
      have hh : W2.heap[r]? = some (.mapIter none 0 #[] 0) := by rw [hW2, hr]; exact (MapKept.heap_alloc w _).1
      simp [Instr.next, getObj, Sem.run_bind, Sem.run, hh, Result.andThen]
    rw [← hW2, ← hr] at hrn
    have hB : Below w.heap.size w W2 := by rw [hW2]; exact (Below.refl _ _).alloc (Nat.le_refl _) _
    have HB := Lib.hid hB
    rw [hres]
    obtain ⟨lv, hlv2⟩ : ∃ lv, lv = S.lv := ⟨_, rfl⟩
    rw [← hlv2] at HLEN hlv ⊢
    clear h1 h2 h3 h4 h5 h6 hlen hB hW2 hres hlv2 hr
    go_enter Tryz.func29, Tryz.ntmps29
    go_wp2_with (go_at_call 62; refine HLEN.out.mono ?_; rintro e w1 ⟨rfl, rfl⟩; refine Hid.out ?_)
    refine Lib.hid ?_
    go_wp2_with fail
    go_loopw [3] (fun v wr => v = .int .i64 lv ∧ wr = W2) (fun _ _ => 0)
    case atStart => exact ⟨rfl, rfl⟩
    case round =>
      obtain ⟨rfl, rfl⟩ := hrel
      go_wp2_with fail
      go_ret
      exact ⟨rfl, HB.out⟩
  | some mb =>
    obtain ⟨W2, hrn, hrg, hB, hsz⟩ := RngF.start (h1.mapm mb rfl) h1.fams
    have hT : S.len = S.lv + totF F := by unfold IxS.len; rw [h4]
    have hle : S.len ≤ 1152921538966585343 := by unfold IxS.len; omega
    obtain ⟨r, hr⟩ : ∃ r, r = w.heap.size := ⟨_, rfl⟩
    rw [← hr] at hrg hrn
    obtain ⟨lv, hlv2⟩ : ∃ lv, lv = S.lv := ⟨_, rfl⟩
    obtain ⟨T, hT2⟩ : ∃ T, T = S.len := ⟨_, rfl⟩
    rw [← hlv2] at HLEN hlv hT
    rw [← hT2] at hT hle ⊢
    have HRG := Lib.hid hrg
    have HO := Lib.hid (Only.of_below (fun q => q = r) hB)
    have HI := Lib.hid h1
    have HR := Lib.hid hr
    have HTT := Lib.hid hT
    clear h1 h2 h3 h4 h5 h6 hlen hB hsz hrg hlv2 hT2 hr hT
    go_enter Tryz.func29, Tryz.ntmps29
    go_wp2_with (go_at_call 62; refine HLEN.out.mono ?_; rintro e w1 ⟨rfl, rfl⟩; refine Hid.out ?_)
    refine Lib.hid ?_
    go_wp2_with fail
    clear hrn y3
    go_loopw [3] (fun v wr => ∃ (M s cnt : Nat), v = .int .i64 M ∧ M + s = T ∧ Hid (RngF wr mb r F s cnt) ∧ Hid (Only (fun q => q = r) w wr)) (fun _ wr => wr.rangeLeft mb r)
    case atStart => exact ⟨lv, totF F, F.length, rfl, by rw [HTT.out], HRG, HO⟩
    case round =>
      obtain ⟨M, s, cnt, rfl, hMs, HG, HOr⟩ := hrel
      rcases HG.out.next HI.out.fams 0 with ⟨hc, hs, hnx⟩ | ⟨x, hx, w5, s', cnt', hnx, hg5, hs', hc5, ho5, hsz5, hen⟩
      · subst hs
        have hMT : M = T := by omega
        subst hMT
        have HB := Lib.hid (HOr.out.below (Nat.le_refl _) (fun k hk e => by have := HR.out; omega))
        clear HG HOr HRG HO
        go_wp2_with fail
        go_ret
        exact ⟨rfl, HB.out⟩
      · have HO5 := Lib.hid (HOr.out.trans ho5 (fun _ _ e => e))
        have HI5 := Lib.hid (HI.out.only HO5.out (fun q hq e => by have := HI.out.lt q hq; have := HR.out; omega) (fun q e => by have := HR.out; have := HI.out.ge b IxOf.b_mem; have := HI.out.tab.lt; omega))
        have HTL := Lib.hid (HI5.out.tries x hx).len
        have hfew := HI.out.few x hx
        obtain ⟨l, hl⟩ : ∃ l, l = x.t.keys.length := ⟨_, rfl⟩
        rw [← hl] at HTL hs' hfew
        have hme : wr.rangeLeft mb r = cnt := HG.out.left_eq
        have hme5 : w5.rangeLeft mb r = cnt' := hg5.left_eq
        have HG5 := Lib.hid hg5
        have ew : IntKind.wrap .i64 ((M : Int) + (l : Int)) = ((M + l : Nat) : Int) := by rw [IntWalk.i64_in _ (by omega)]; omega
        obtain ⟨xf, xa, xb, xt⟩ := x
        simp only at hnx hen HTL
        clear hg5 ho5 HG HOr HRG HO HI5 hl hx
        go_wp2_with (go_at_call 63; refine HTL.out.mono ?_; rintro e w6 ⟨rfl, rfl⟩; refine Hid.out ?_)
        refine Lib.hid ?_
        go_wp2_with fail
        go_roundw
        case rel => exact ⟨M + l, s', cnt', by first | rfl | rw [ew], by omega, HG5, HO5⟩
        case measure => rw [hme, hme5]; exact hc5
end Go.Proofs.YtkdknfedieeenaaGreatDoor
namespace Go.Proofs.YtkdknfedieeenaaGreatDoor
open Go.RowKit
set_option linter.unusedVariables false

/-! ### Join -/
def joinOf (s t : ByteArray) : Option ByteArray := if (labelsOf s).isSome = true ∧ (labelsOf t).isSome = true ∧ s.size + t.size ≤ 254 then some (s ++ t) else none
def strOf (o : Option ByteArray) : ByteArray := o.getD ⟨#[]⟩
theorem may_size {s : ByteArray} (h : (labelsOf s).isSome = true) : s.size ≤ 254 := by
  unfold labelsOf nameLabels at h
  split at h
  · simpa using ‹_›
  · cases h
set_option maxHeartbeats 1600000 in
theorem join_any (s t : ByteArray) (w : World) (hs : s.size ≤ maxLen) (ht : t.size ≤ maxLen) :
    Calls Tryz.prog 14 #[.string s, .string t] w fun e w' => e = .returned (.tuple #[.string (strOf (joinOf s t)), .bool (joinOf s t).isSome]) ∧ Below w.heap.size w w' := by
  have hms := fun w => may_any s w hs
  have hmt := fun w => may_any t w ht
  by_cases h : (labelsOf s).isSome = true ∧ (labelsOf t).isSome = true ∧ s.size + t.size ≤ 254
  · have hj : joinOf s t = some (s ++ t) := by unfold joinOf; rw [if_pos h]
    rw [hj]
    rw [h.1] at hms
    rw [h.2.1] at hmt
    have h3 : ¬ (254 : Int) < (s.size : Int) + t.size := by omega
    have h4 : s.size + t.size ≤ 254 := h.2.2
    have HS := Lib.hid hms
    have HT := Lib.hid hmt
    clear hms hmt h hj
    go_enter Tryz.func14, Tryz.ntmps14
    go_wp2_with fail
    refine (HS.out _).mono ?_
    rintro e w1 ⟨rfl, hb1⟩
    go_wp2_with fail
    refine (HT.out _).mono ?_
    rintro e w2 ⟨rfl, hb2⟩
    have hb := hb1.trans (hb2.mono hb1.size)
    clear hb1 hb2
    go_wp2_with fail
    go_ret2
    exact ⟨rfl, hb⟩
  · have hj : joinOf s t = none := by unfold joinOf; rw [if_neg h]
    rw [hj]
    have hc : (labelsOf s).isSome = false ∨ ((labelsOf s).isSome = true ∧ (labelsOf t).isSome = false) ∨ ((labelsOf s).isSome = true ∧ (labelsOf t).isSome = true ∧ 254 < s.size + t.size) := by
      cases h1 : (labelsOf s).isSome <;> cases h2 : (labelsOf t).isSome <;> simp
      rw [h1, h2] at h
      simp at h
      omega
    clear hj h
    rcases hc with h1 | ⟨h1, h2⟩ | ⟨h1, h2, h3⟩
    · rw [h1] at hms
      have HS := Lib.hid hms
      clear hms h1 hmt
      go_enter Tryz.func14, Tryz.ntmps14
      go_wp2_with fail
      refine (HS.out _).mono ?_
      rintro e w1 ⟨rfl, hb1⟩
      go_wp2_with fail
      go_ret2
      exact ⟨rfl, hb1⟩
    · rw [h1] at hms
      rw [h2] at hmt
      have HS := Lib.hid hms
      have HT := Lib.hid hmt
      clear hms h1 hmt h2
      go_enter Tryz.func14, Tryz.ntmps14
      go_wp2_with fail
      refine (HS.out _).mono ?_
      rintro e w1 ⟨rfl, hb1⟩
      go_wp2_with fail
      refine (HT.out _).mono ?_
      rintro e w2 ⟨rfl, hb2⟩
      have hb := hb1.trans (hb2.mono hb1.size)
      clear hb1 hb2
      go_wp2_with fail
      go_ret2
      exact ⟨rfl, hb⟩
    · have ms := may_size h1
      have mt := may_size h2
      rw [h1] at hms
      rw [h2] at hmt
      have h3' : (254 : Int) < (s.size : Int) + t.size := by omega
      have HS := Lib.hid hms
      have HT := Lib.hid hmt
      clear hms h1 hmt h2
      go_enter Tryz.func14, Tryz.ntmps14
      go_wp2_with fail
      refine (HS.out _).mono ?_
      rintro e w1 ⟨rfl, hb1⟩
      go_wp2_with fail
      refine (HT.out _).mono ?_
      rintro e w2 ⟨rfl, hb2⟩
      have hb := hb1.trans (hb2.mono hb1.size)
      clear hb1 hb2
      go_wp2_with fail
      go_ret2
      exact ⟨rfl, hb⟩
/-! ### Parent -/
def parentOf (s : ByteArray) : Option (List UInt8) := match labelsOf s with | some (_ :: ls) => some (wire ls) | _ => none
theorem parent_bytes {s : ByteArray} {l : List UInt8} {ls : List (List UInt8)} (h : labelsOf s = some (l :: ls)) : ∃ h0 : 0 < s.size, s[0].toNat = l.length ∧ 1 + l.length ≤ s.size ∧ Value.string (s.extract (1 + l.length) s.size) = sv (wire ls) ∧ l.length ≤ 63 := by
  have h1 := (nameLabels_iff _ _).1 h
  have h2 := h1.2.2 l (by simp)
  simp only [okLabel, Bool.and_eq_true, decide_eq_true_eq] at h2
  have h3 := h1.2.1
  rw [wire_cons] at h3
  have h4 : s.data.toList.length = s.size := by simp
  have h5 : s.size = l.length + 1 + (wire ls).length := by rw [← h4, h3]; simp; omega
  have h0 : 0 < s.size := by omega
  refine ⟨h0, ?_, by omega, ?_, h2.1.2⟩
  · have h6 := toList_get s 0 h0
    rw [← h6]
    simp only [h3]
    simp
    omega
  · rw [ba_extract, h3, ← h4, h3]
    congr 1
    simp [List.extract_eq_take_drop, Nat.add_comm 1]

set_option maxHeartbeats 800000 in
theorem parent_any (s : ByteArray) (w : World) (hs : s.size ≤ maxLen) :
    Calls Tryz.prog 65 #[.string s] w fun e w' => e = .returned (.tuple #[sv ((parentOf s).getD []), .bool (parentOf s).isSome]) ∧ Below w.heap.size w w' := by
  have hms := fun w => may_any s w hs
  by_cases h0 : s.size = 0
  · have he : s = ⟨#[]⟩ := by
      apply ByteArray.ext
      apply Array.eq_empty_of_size_eq_zero
      exact h0
    subst he
    have hp : parentOf ⟨#[]⟩ = none := by rfl
    rw [hp]
    clear hp hms
    go_enter Tryz.func65, Tryz.ntmps65
    go_wp2_with fail
    go_ret2
    exact ⟨rfl, Below.refl _ _⟩
  · have hne := str_empty s h0
    have hne' := str_empty' s h0
    cases hl : labelsOf s with
    | none =>
      have hp : parentOf s = none := by unfold parentOf; rw [hl]
      rw [hl] at hms
      rw [hp]
      have HS := Lib.hid hms
      clear hms hl hp
      go_enter Tryz.func65, Tryz.ntmps65
      go_wp2_with fail
      refine (HS.out _).mono ?_
      rintro e w1 ⟨rfl, hb⟩
      go_wp2_with fail
      go_ret2
      exact ⟨rfl, hb⟩
    | some ls =>
      cases ls with
      | nil =>
        have := (nameLabels_iff _ _).1 hl
        have h4 : s.data.toList.length = s.size := by simp
        rw [this.2.1] at h4
        simp [wire] at h4
        omega
      | cons l ls =>
        obtain ⟨h0', hb0, hle, hext, h63⟩ := parent_bytes hl
        have hp : parentOf s = some (wire ls) := by unfold parentOf; rw [hl]
        rw [hl] at hms
        rw [hp]
        have HS := Lib.hid hms
        have HE := Lib.hid hext
        have hi1 : IntKind.i64.wrap (l.length : Int) = l.length := IntWalk.i64_in _ (by omega)
        clear hms hl hp hext
        go_enter Tryz.func65, Tryz.ntmps65
        go_wp2_with fail
        refine (HS.out _).mono ?_
        rintro e w1 ⟨rfl, hb⟩
        go_wp2_with fail
        go_ret2
        refine ⟨?_, hb⟩
        have := HE.out
        simp only [Option.getD_some, Option.isSome_some]
        rw [← this]
        first | rfl | trace_state
end Go.Proofs.YtkdknfedieeenaaGreatDoor
namespace Go.Proofs.YtkdknfedieeenaaGreatDoor
open Go.RowKit
set_option linter.unusedVariables false
set_option linter.unusedSimpArgs false
set_option maxRecDepth 20000
attribute [local simp] putsF isV wordOf Deps Region.binds Region.wanted Act.put wantedX isB
/-- The number of the first of a name and the names above it that has a wild trigger. -/
def wildO (M : ByteArray → Option Int) (wild : Int) : Nat → Option (List UInt8) → Option (Int × List UInt8)
  | 0, _ => none
  | _ + 1, none => none
  | f + 1, some p => match M (wordT wild (baL p)) with
    | some v => some (v, p)
    | none => wildO M wild f (parentOf (baL p))
/-- What Name tells. -/
def nameV (M : ByteArray → Option Int) (exact wild : Int) (n : ByteArray) : Int × Int × ByteArray × Bool := match M (wordT exact n) with
  | some v => (v, exact, n, true)
  | none => match wildO M wild (n.size + 1) (parentOf n) with
    | some p => (p.1, wild, baL p.2, true)
    | none => (0, 0, ⟨#[]⟩, false)
def tripV (r : Int × Int × ByteArray × Bool) : Value := .tuple #[.int .i64 r.1, .agg #[.int .i64 r.2.1, .string r.2.2.1, .string ⟨#[]⟩, .int .i64 0], .bool r.2.2.2]
theorem parent_less {s : ByteArray} {p : List UInt8} (h : parentOf s = some p) : p.length < s.size := by
  unfold parentOf at h
  cases hl : labelsOf s with
  | none => rw [hl] at h; cases h
  | some ls =>
    rw [hl] at h
    cases ls with
    | nil => cases h
    | cons l ls =>
      simp only [Option.some.injEq] at h
      obtain ⟨h0, h1, h2, h3, h4⟩ := parent_bytes hl
      have h5 : (s.extract (1 + l.length) s.size) = (⟨(wire ls).toArray⟩ : ByteArray) := by injection h3
      have h6 := congrArg ByteArray.size h5
      rw [ByteArray.size_extract] at h6
      rw [← h]
      have h7 : (⟨(wire ls).toArray⟩ : ByteArray).size = (wire ls).length := by simp [ByteArray.size]
      omega
theorem baL_sz (l : List UInt8) : (baL l).size = l.length := by simp [baL, ByteArray.size]
def strN : Value → Nat
  | .string s => s.size
  | _ => 0
def booN : Value → Nat
  | .bool true => 1
  | _ => 0
theorem four_set {w : World} {g : Nat} {a b c d : Value} (h : Cs w g [a, b, c, d]) (a' b' c' d' : Value) : Cs ((((w.setCell ⟨g, 0, none⟩ a').setCell ⟨g, 1, none⟩ b').setCell ⟨g, 2, none⟩ c').setCell ⟨g, 3, none⟩ d') g [a', b', c', d'] :=
  (((h.set' 0 a' (by simp)).set' 1 b' (by simp)).set' 2 c' (by simp)).set' 3 d' (by simp)
theorem four_below {B : Nat} {w w' : World} {g : Nat} (h : Below B w w') (hg : B ≤ g) (a' b' c' d' : Value) : Below B w ((((w'.setCell ⟨g, 0, none⟩ a').setCell ⟨g, 1, none⟩ b').setCell ⟨g, 2, none⟩ c').setCell ⟨g, 3, none⟩ d') :=
  (((h.setCell (p := ⟨g, 0, none⟩) hg a').setCell (p := ⟨g, 1, none⟩) hg b').setCell (p := ⟨g, 2, none⟩) hg c').setCell (p := ⟨g, 3, none⟩) hg d'
theorem IXs.get {W w : World} {B b most : Nat} {own : List Nat} {S : IxS} (h : IXs W B b own S most w) (hm : most ≤ 34359738368) (K : ByteArray) (hK : K.size ≤ maxLen) :
    Calls Tryz.prog 64 #[.pointer (some ⟨b, 0, none⟩), .string K] w fun e w' => e = .returned (.tuple #[.int .i64 ((S.M K).getD 0), .bool (S.M K).isSome]) ∧ Below w.heap.size w w' := by
  obtain ⟨V, us, n, mv, F, h1, _⟩ := h
  exact get_tab h1.tab (by omega) K hK
set_option maxHeartbeats 16000000 in
theorem name_index {W w : World} {B b most : Nat} {own : List Nat} {S : IxS} (h : IXs W B b own S most w) (hm : most ≤ 34359738368) (exact_ wild : Int) (n : ByteArray) (hn : n.size ≤ 140737488355328) :
    Calls Tryz.prog 32 #[.pointer (some ⟨b, 0, none⟩), .int .i64 exact_, .int .i64 wild, .string n] w fun e w' => e = .returned (tripV (nameV S.M exact_ wild n)) ∧ Below w.heap.size w w' := by
  obtain ⟨W0, hW0⟩ : ∃ W0, W0 = w.alloc (.cells #[.int .i64 0, .string ⟨#[]⟩, .string ⟨#[]⟩, .int .i64 0] 46) := ⟨_, rfl⟩
  have hc0 : Cs W0 w.heap.size [.int .i64 0, .string ⟨#[]⟩, .string ⟨#[]⟩, .int .i64 0] := by rw [hW0]; exact Cs.new w _ _ _
  have hb0 : Below w.heap.size w W0 := by rw [hW0]; exact (Below.refl _ _).alloc (Nat.le_refl _) _
  have hwd := fun k w => iword_any k n w hn
  obtain ⟨K, hK⟩ : ∃ K, K = wordT exact_ n := ⟨_, rfl⟩
  have hw1 := hwd exact_
  rw [← hK] at hw1
  have hKs : K.size ≤ maxLen := by rw [hK, wordT_size]; unfold maxLen; omega
  obtain ⟨RV, hRV⟩ : ∃ RV, RV = nameV S.M exact_ wild n := ⟨_, rfl⟩
  have hRe := hRV
  unfold nameV at hRe
  rw [← hK] at hRe
  rw [← hRV]
  have HC0 := Lib.hid hc0
  have HB0 := Lib.hid hb0
  have HWD := Lib.hid hw1
  have HI0 := Lib.hid (h.below hb0)
  have HKS := Lib.hid hKs
  have HRE := Lib.hid hRe
  clear hc0 hb0 hwd hw1 hKs hK hRe hRV h
  go_enter Tryz.func32, Tryz.ntmps32
  go_upto_region 1 with fail
  rw [← hW0]
  clear hW0
  obtain ⟨gv, hgv⟩ : ∃ gv, gv = (S.M K).getD 0 := ⟨_, rfl⟩
  obtain ⟨gs, hgs⟩ : ∃ gs, gs = (S.M K).isSome := ⟨_, rfl⟩
  have HGV := Lib.hid (And.intro hgv hgs)
  clear hgv hgs
  refine wp_region_goesG ad_follows (fun x => by simp [putsF, Act.put]; rfl) W0.heap.size W0
    [isV (.pointer (some ⟨b, 0, none⟩)), isV (.pointer (some ⟨b, 0, none⟩)), isV (.pointer (some ⟨b, 0, none⟩)), isV (.int .i64 exact_), isV (.string n), isV (.string K), isV (.tuple #[.int .i64 gv, .bool gs]), isV (.tuple #[.int .i64 gv, .bool gs]), isV (.int .i64 gv), isV (.bool gs), isV (.int .i64 gv), isV (.bool gs)]
    (by kernel_rfl) (by kernel_rfl) (by kernel_rfl) rfl ?_ (Below.refl _ _) ?_ ?_
  · repeat (first | exact trivial | refine ⟨by first | exact isV_stays _ , ?_⟩)
  · refine ⟨?_, ?_, ?_, ?_, ?_, ?_, ?_, ?_, ?_, ?_, ?_, ?_, trivial⟩
    all_goals
      intro x wx hR hd
      simp at hd ⊢
      try simp [hd]
    all_goals try exact fun hX => absurd (show (false : Bool) = true from hX) (by decide)
    · go_simp
      exact next_same _ rfl rfl hR
    · go_simp
      exact next_same _ rfl rfl hR
    · go_simp
      exact next_same _ rfl rfl hR
    · go_simp
      exact next_same _ rfl rfl hR
    · go_simp
      exact next_same _ rfl rfl hR
    · try obtain ⟨hd1, hd2⟩ := hd
      go_simp
      go_at_call 57
      refine (HWD.out wx).mono ?_
      rintro e wy ⟨rfl, hby⟩
      exact next_call _ rfl rfl hR hR.size hby
    · try obtain ⟨hd1, hd2⟩ := hd
      go_simp
      go_at_call 64
      refine ((HI0.out.below hR).get hm K HKS.out).mono ?_
      rintro e wy ⟨rfl, hby⟩
      refine next_call _ rfl ?_ hR hR.size hby
      show _ = _
      rw [HGV.out.1, HGV.out.2]
    · go_simp
      exact next_same _ rfl rfl hR
    · go_simp
      exact next_same _ rfl rfl hR
    · go_simp
      exact next_same _ rfl rfl hR
    · go_simp
      exact next_same _ rfl rfl hR
    · go_simp
      exact next_same _ rfl rfl hR
  intro X1 w1 hR hx
  simp [AllWords] at hx
  have hx10 : X1 10 = .int .i64 gv := by simp [hx]
  have hx11 : X1 11 = .bool gs := by simp [hx]
  clear hx
  rw [hx10, hx11]
  clear hx10 hx11
  have HB1 := Lib.hid (HB0.out.trans (hR.mono HB0.out.size))
  have HC1 := Lib.hid (HC0.out.below hR)
  have HI1 := Lib.hid (HI0.out.below hR)
  clear hR HB0 HC0 HI0 HWD HKS
  cases hS : S.M K with
  | some v =>
    have hgv2 := HGV.out.1
    have hgs2 := HGV.out.2
    rw [hS] at hgv2 hgs2
    simp only [Option.getD_some, Option.isSome_some] at hgv2 hgs2
    subst hgv2 hgs2
    have hRV : RV = (gv, exact_, n, true) := by rw [HRE.out, hS]
    clear hS HGV HRE HI1
    have m0 := HC1.out.get 0 (.int .i64 0)
    have m1 := HC1.out.get 1 (.string ⟨#[]⟩)
    have m2 := HC1.out.get 2 (.string ⟨#[]⟩)
    have m3 := HC1.out.get 3 (.int .i64 0)
    have f0 := HC1.out.froz 0 (by simp)
    have f1 := HC1.out.froz 1 (by simp)
    have f2 := HC1.out.froz 2 (by simp)
    have f3 := HC1.out.froz 3 (by simp)
    have hfin := four_set HC1.out (.int .i64 exact_) (.string n) (.string ⟨#[]⟩) (.int .i64 0)
    have hbfin := four_below HB1.out (Nat.le_refl _) (.int .i64 exact_) (.string n) (.string ⟨#[]⟩) (.int .i64 0)
    have HFIN := Lib.hid hfin
    have HBF := Lib.hid hbfin
    clear hfin hbfin
    go_wp2_with fail
    refine bodyPost_ret (v := .tuple #[.int .i64 (gv), .agg #[.int .i64 exact_, .string n, .string ⟨#[]⟩, .int .i64 0], .bool true]) ?_ rfl ⟨?_, HBF.out⟩
    · have t0 := HFIN.out.get 0 (.int .i64 exact_)
      have t1 := HFIN.out.get 1 (.string n)
      have t2 := HFIN.out.get 2 (.string ⟨#[]⟩)
      have t3 := HFIN.out.get 3 (.int .i64 0)
      clear HFIN HBF m0 m1 m2 m3 f0 f1 f2 f3
      simp [results, Tryz.results32, go_sem, t0, t1, t2, t3]
    · rw [hRV]; rfl
  | none =>
    have hgv2 := HGV.out.1
    have hgs2 := HGV.out.2
    rw [hS] at hgv2 hgs2
    simp only [Option.getD_none, Option.isSome_none] at hgv2 hgs2
    subst hgv2 hgs2
    have hRV : RV = match wildO S.M wild (n.size + 1) (parentOf n) with | some p => (p.1, wild, baL p.2, true) | none => (0, 0, ⟨#[]⟩, false) := by rw [HRE.out, hS]
    have HRV := Lib.hid hRV
    clear hS HGV HRE hRV
    have hp := fun w => parent_any n w (by unfold maxLen; omega)
    have HPA := Lib.hid hp
    clear hp
    go_wp2_with (go_at_call 65; refine (HPA.out _).mono ?_; rintro e w2 ⟨rfl, hb2⟩; refine Hid.out ?_)
    refine Lib.hid ?_
    have HB2 := Lib.hid (HB1.out.trans (hb2.mono HB1.out.size))
    have HC2 := Lib.hid (HC1.out.below hb2)
    have HI2 := Lib.hid (HI1.out.below hb2)
    clear hb2 HB1 HC1 HI1 HPA
    go_wp2_with fail
    go_loopw [13, 14] (fun v13 v14 wr => ∃ (o : Option (List UInt8)) (f : Nat), v13 = sv (o.getD []) ∧ v14 = .bool o.isSome ∧ (o.isSome = true → (o.getD []).length + 1 ≤ f) ∧ (o.getD []).length ≤ n.size ∧ Hid (RV = match wildO S.M wild f o with | some p => (p.1, wild, baL p.2, true) | none => (0, 0, ⟨#[]⟩, false)) ∧ Hid (Below w.heap.size w wr) ∧ Hid (Cs wr w.heap.size [.int .i64 0, .string ⟨#[]⟩, .string ⟨#[]⟩, .int .i64 0]) ∧ Hid (IXs W B b own S most wr)) (fun v13 v14 _ => strN v13 + booN v14)
    case atStart =>
      refine ⟨parentOf n, n.size + 1, rfl, rfl, ?_, ?_, HRV, HB2, HC2, HI2⟩
      · intro _
        cases hp : parentOf n with
        | none => simp
        | some p => have := parent_less hp; show p.length + 1 ≤ _; omega
      · cases hp : parentOf n with
        | none => simp
        | some p => have := parent_less hp; show p.length ≤ _; omega
    case round =>
      obtain ⟨o, f, rfl, rfl, hf, hln, HRr, HBr, HCr, HIr⟩ := hrel
      clear HB2 HC2 HI2 HRV
      cases o with
      | none =>
        have hRV : RV = (0, 0, ⟨#[]⟩, false) := by
          rw [HRr.out]
          cases f with
          | zero => rfl
          | succ f => rfl
        clear HRr HIr
        have m0 := HCr.out.get 0 (.int .i64 0)
        have m1 := HCr.out.get 1 (.string ⟨#[]⟩)
        have m2 := HCr.out.get 2 (.string ⟨#[]⟩)
        have m3 := HCr.out.get 3 (.int .i64 0)
        have f0 := HCr.out.froz 0 (by simp)
        have f1 := HCr.out.froz 1 (by simp)
        have f2 := HCr.out.froz 2 (by simp)
        have f3 := HCr.out.froz 3 (by simp)
        have hfin := four_set HCr.out (.int .i64 0) (.string ⟨#[]⟩) (.string ⟨#[]⟩) (.int .i64 0)
        have hbfin := four_below HBr.out (Nat.le_refl _) (.int .i64 0) (.string ⟨#[]⟩) (.string ⟨#[]⟩) (.int .i64 0)
        have HFIN := Lib.hid hfin
        have HBF := Lib.hid hbfin
        clear hfin hbfin
        go_wp2_with fail
        refine bodyPost_ret (v := .tuple #[.int .i64 (0), .agg #[.int .i64 0, .string ⟨#[]⟩, .string ⟨#[]⟩, .int .i64 0], .bool false]) ?_ rfl ⟨?_, HBF.out⟩
        · have t0 := HFIN.out.get 0 (.int .i64 0)
          have t1 := HFIN.out.get 1 (.string ⟨#[]⟩)
          have t2 := HFIN.out.get 2 (.string ⟨#[]⟩)
          have t3 := HFIN.out.get 3 (.int .i64 0)
          clear HFIN HBF m0 m1 m2 m3 f0 f1 f2 f3
          simp [results, Tryz.results32, go_sem, t0, t1, t2, t3]
        · rw [hRV]; rfl
      | some p =>
        have hf := hf rfl
        simp only [Option.getD_some] at hf hln
        obtain ⟨f, rfl⟩ : ∃ f', f = f' + 1 := ⟨f - 1, by omega⟩
        obtain ⟨PN, hPN⟩ : ∃ PN, PN = baL p := ⟨_, rfl⟩
        have hps : PN.size = p.length := by rw [hPN]; exact baL_sz p
        obtain ⟨K, hK⟩ : ∃ K, K = wordT wild PN := ⟨_, rfl⟩
        have hwd := fun w => iword_any wild PN w (by omega)
        rw [← hK] at hwd
        have hKs : K.size ≤ maxLen := by rw [hK, wordT_size]; unfold maxLen; omega
        have hrr := HRr.out
        unfold wildO at hrr
        rw [← hPN, ← hK] at hrr
        have hsv : sv p = .string PN := by rw [hPN]; rfl
        have HWD := Lib.hid hwd
        have HKS := Lib.hid hKs
        have HRR := Lib.hid hrr
        have hpa := fun w => parent_any PN w (by unfold maxLen; omega)
        have HPA := Lib.hid hpa
        have HPS := Lib.hid hps
        have HPN := Lib.hid hPN
        simp only [Option.getD_some, Option.isSome_some, hsv]
        clear hwd hKs hrr hpa hps hPN hK HRr hsv
        go_upto_region 7 with fail
        obtain ⟨gv, hgv⟩ : ∃ gv, gv = (S.M K).getD 0 := ⟨_, rfl⟩
        obtain ⟨gs, hgs⟩ : ∃ gs, gs = (S.M K).isSome := ⟨_, rfl⟩
        have HGV := Lib.hid (And.intro hgv hgs)
        clear hgv hgs
        refine wp_region_goesG ad_follows (fun x => by simp [putsF, Act.put]; rfl) wr.heap.size wr
          [isV (.pointer (some ⟨b, 0, none⟩)), isV (.pointer (some ⟨b, 0, none⟩)), isV (.pointer (some ⟨b, 0, none⟩)), isV (.int .i64 wild), isV (.string PN), isV (.string K), isV (.tuple #[.int .i64 gv, .bool gs]), isV (.tuple #[.int .i64 gv, .bool gs]), isV (.int .i64 gv), isV (.bool gs), isV (.int .i64 gv), isV (.bool gs)]
          (by kernel_rfl) (by kernel_rfl) (by kernel_rfl) rfl ?_ (Below.refl _ _) ?_ ?_
        · repeat (first | exact trivial | refine ⟨by first | exact isV_stays _ , ?_⟩)
        · refine ⟨?_, ?_, ?_, ?_, ?_, ?_, ?_, ?_, ?_, ?_, ?_, ?_, trivial⟩
          all_goals
            intro x wx hR hd
            simp at hd ⊢
            try simp [hd]
          all_goals try exact fun hX => absurd (show (false : Bool) = true from hX) (by decide)
          · go_simp
            exact next_same _ rfl rfl hR
          · go_simp
            exact next_same _ rfl rfl hR
          · go_simp
            exact next_same _ rfl rfl hR
          · go_simp
            exact next_same _ rfl rfl hR
          · go_simp
            exact next_same _ rfl rfl hR
          · try obtain ⟨hd1, hd2⟩ := hd
            go_simp
            go_at_call 57
            refine (HWD.out wx).mono ?_
            rintro e wy ⟨rfl, hby⟩
            exact next_call _ rfl rfl hR hR.size hby
          · try obtain ⟨hd1, hd2⟩ := hd
            go_simp
            go_at_call 64
            refine ((HIr.out.below hR).get hm K HKS.out).mono ?_
            rintro e wy ⟨rfl, hby⟩
            refine next_call _ rfl ?_ hR hR.size hby
            show _ = _
            rw [HGV.out.1, HGV.out.2]
          · go_simp
            exact next_same _ rfl rfl hR
          · go_simp
            exact next_same _ rfl rfl hR
          · go_simp
            exact next_same _ rfl rfl hR
          · go_simp
            exact next_same _ rfl rfl hR
          · go_simp
            exact next_same _ rfl rfl hR
        intro X7 w3 hR hx
        simp [AllWords] at hx
        have hx10 : X7 10 = .int .i64 gv := by simp [hx]
        have hx11 : X7 11 = .bool gs := by simp [hx]
        clear hx
        rw [hx10, hx11]
        clear hx10 hx11
        have HB3 := Lib.hid (HBr.out.trans (hR.mono HBr.out.size))
        have HC3 := Lib.hid (HCr.out.below hR)
        have HI3 := Lib.hid (HIr.out.below hR)
        clear hR HBr HCr HIr HWD HKS
        cases hS : S.M K with
        | some v =>
          have hgv2 := HGV.out.1
          have hgs2 := HGV.out.2
          rw [hS] at hgv2 hgs2
          simp only [Option.getD_some, Option.isSome_some] at hgv2 hgs2
          subst hgv2 hgs2
          have hRV : RV = (gv, wild, PN, true) := by rw [HRR.out, hS, HPN.out]
          clear hS HGV HRR HI3
          have m0 := HC3.out.get 0 (.int .i64 0)
          have m1 := HC3.out.get 1 (.string ⟨#[]⟩)
          have m2 := HC3.out.get 2 (.string ⟨#[]⟩)
          have m3 := HC3.out.get 3 (.int .i64 0)
          have f0 := HC3.out.froz 0 (by simp)
          have f1 := HC3.out.froz 1 (by simp)
          have f2 := HC3.out.froz 2 (by simp)
          have f3 := HC3.out.froz 3 (by simp)
          have hfin := four_set HC3.out (.int .i64 wild) (.string PN) (.string ⟨#[]⟩) (.int .i64 0)
          have hbfin := four_below HB3.out (Nat.le_refl _) (.int .i64 wild) (.string PN) (.string ⟨#[]⟩) (.int .i64 0)
          have HFIN := Lib.hid hfin
          have HBF := Lib.hid hbfin
          clear hfin hbfin
          go_wp2_with fail
          refine bodyPost_ret (v := .tuple #[.int .i64 (gv), .agg #[.int .i64 wild, .string PN, .string ⟨#[]⟩, .int .i64 0], .bool true]) ?_ rfl ⟨?_, HBF.out⟩
          · have t0 := HFIN.out.get 0 (.int .i64 wild)
            have t1 := HFIN.out.get 1 (.string PN)
            have t2 := HFIN.out.get 2 (.string ⟨#[]⟩)
            have t3 := HFIN.out.get 3 (.int .i64 0)
            clear HFIN HBF m0 m1 m2 m3 f0 f1 f2 f3
            simp [results, Tryz.results32, go_sem, t0, t1, t2, t3]
          · rw [hRV]; rfl
        | none =>
          have hgv2 := HGV.out.1
          have hgs2 := HGV.out.2
          rw [hS] at hgv2 hgs2
          simp only [Option.getD_none, Option.isSome_none] at hgv2 hgs2
          subst hgv2 hgs2
          have HRV : Hid (RV = match wildO S.M wild f (parentOf PN) with | some p => (p.1, wild, baL p.2, true) | none => (0, 0, ⟨#[]⟩, false)) := Lib.hid (by rw [HRR.out, hS])
          clear hS HGV HRR
          go_wp2_with (go_at_call 65; refine (HPA.out _).mono ?_; rintro e w4 ⟨rfl, hb4⟩; refine Hid.out ?_)
          refine Lib.hid ?_
          have HB4 := Lib.hid (HB3.out.trans (hb4.mono HB3.out.size))
          have HC4 := Lib.hid (HC3.out.below hb4)
          have HI4 := Lib.hid (HI3.out.below hb4)
          clear hb4 HB3 HC3 HI3 HPA
          go_wp2_with fail
          go_roundw
          case rel =>
            refine ⟨parentOf PN, f, rfl, rfl, ?_, ?_, HRV, HB4, HC4, HI4⟩
            · intro hso
              cases hp : parentOf PN with
              | none => rw [hp] at hso; cases hso
              | some q => have := parent_less hp; have := HPS.out; show q.length + 1 ≤ _; omega
            · cases hp : parentOf PN with
              | none => simp
              | some q => have := parent_less hp; have := HPS.out; show q.length ≤ _; omega
          case measure =>
            have := HPS.out
            cases hp : parentOf PN with
            | none => show 0 + 0 < PN.size + 1; omega
            | some q =>
              have := parent_less hp
              have hq := baL_sz q
              show (baL q).size + 1 < PN.size + 1
              omega
end Go.Proofs.YtkdknfedieeenaaGreatDoor
namespace Go.Proofs.YtkdknfedieeenaaGreatDoor
open Go.RowKit
set_option linter.unusedVariables false
set_option linter.unusedSimpArgs false
set_option maxRecDepth 20000
attribute [local simp] putsF isV wordOf Deps Region.binds Region.wanted Act.put wantedX isB
/-- What Addr tells. -/
def adrV (G : Int × Int → Tr) (kind : Int) (a : ByteArray) : Int × Int × ByteArray × Int × Bool := match longR (G (kind, (a.size : Int))) (signs (bitsL a.data.toList)) none with
  | some p => (p.2, kind, baL (cutL a.data.toList p.1), (p.1 : Int), true)
  | none => (0, 0, ⟨#[]⟩, 0, false)
def tripA (r : Int × Int × ByteArray × Int × Bool) : Value := .tuple #[.int .i64 r.1, .agg #[.int .i64 r.2.1, .string ⟨#[]⟩, .string r.2.2.1, .int .i64 r.2.2.2.1], .bool r.2.2.2.2]
theorem cut_all (a : List UInt8) : cutL a (8 * a.length) = a := by
  apply bitsL_inj
  rw [bitsL_cutL a _ (Nat.le_refl _), List.take_of_length_le (by rw [bitsL_length]; omega)]
  simp
theorem longV_is (o : Option (Nat × Int)) : longV o = .tuple #[.int .i64 (bestV o), .int .i64 (bestN o : Nat), .bool o.isSome] := longV_of o
theorem cut_addr (a : ByteArray) (m : Nat) (w : World) (h : a.size = 4 ∨ a.size = 16) (hm : m ≤ 8 * a.size) :
    Calls Tryz.prog 38 #[.string a, .int .i64 m] w fun e w' => e = .returned (.tuple #[.agg #[.string (baL (cutL a.data.toList m)), .int .i64 m], .bool true]) ∧ Below w.heap.size w w' := by
  have hl : a.data.toList.length = a.size := Array.length_toList
  exact pcut_yes a.data.toList m w (by rw [hl]; rcases h with h | h <;> rw [h] <;> rfl) (by rw [hl]; exact hm)
set_option maxHeartbeats 16000000 in
theorem addr_index {W w : World} {B b most : Nat} {own : List Nat} {S : IxS} (h : IXs W B b own S most w) (kind : Int) (a : ByteArray) (ha : a.size ≤ 140737488355328) :
    Calls Tryz.prog 35 #[.pointer (some ⟨b, 0, none⟩), .int .i64 kind, .string a] w fun e w' => e = .returned (tripA (adrV S.G kind a)) ∧ Below w.heap.size w w' := by
  obtain ⟨W0, hW0⟩ : ∃ W0, W0 = w.alloc (.cells #[.int .i64 0, .string ⟨#[]⟩, .string ⟨#[]⟩, .int .i64 0] 46) := ⟨_, rfl⟩
  have hc0 : Cs W0 w.heap.size [.int .i64 0, .string ⟨#[]⟩, .string ⟨#[]⟩, .int .i64 0] := by rw [hW0]; exact Cs.new w _ _ _
  have hb0 : Below w.heap.size w W0 := by rw [hW0]; exact (Below.refl _ _).alloc (Nat.le_refl _) _
  obtain ⟨V, us, n, mv, F, h1, h2, h3, h4, h5, h6⟩ := h.below hb0
  have y3 := h1.own.get 3 (.map mv)
  have lk := h1.look2 (kind, ((a.size : Nat) : Int))
  obtain ⟨RV, hRV⟩ : ∃ RV, RV = adrV S.G kind a := ⟨_, rfl⟩
  have hRe := hRV
  unfold adrV at hRe
  rw [h3] at hRe
  rw [← hRV]
  have hBc := Lib.hid hc0
  have HB0 := Lib.hid hb0
  rcases lookF_cases F (kind, ((a.size : Nat) : Int)) with hno | ⟨F1, x, F2, rfl, e1, e2⟩
  · rw [treeF_no hno] at hRe
    rw [lookF_no hno] at lk
    simp only [Option.getD_none, Option.isSome_none] at lk
    have hRV2 : RV = (0, 0, ⟨#[]⟩, 0, false) := by rw [hRe]; rfl
    have m0 := hc0.get 0 (.int .i64 0)
    have m1 := hc0.get 1 (.string ⟨#[]⟩)
    have m2 := hc0.get 2 (.string ⟨#[]⟩)
    have m3 := hc0.get 3 (.int .i64 0)
    have f0 := hc0.froz 0 (by simp)
    have f1 := hc0.froz 1 (by simp)
    have f2 := hc0.froz 2 (by simp)
    have f3 := hc0.froz 3 (by simp)
    have HFIN := Lib.hid (four_set hc0 (.int .i64 0) (.string ⟨#[]⟩) (.string ⟨#[]⟩) (.int .i64 0))
    have HBF := Lib.hid (four_below hb0 (Nat.le_refl _) (.int .i64 0) (.string ⟨#[]⟩) (.string ⟨#[]⟩) (.int .i64 0))
    have HR2 := Lib.hid hRV2
    clear h h1 h2 h3 h4 h5 h6 hc0 hb0 hno hRe hRV hRV2 hBc HB0
    go_enter Tryz.func35, Tryz.ntmps35
    go_upto_region 1 with fail
    rw [← hW0]
    clear hW0
    go_wp2_with fail
    refine bodyPost_ret (v := .tuple #[.int .i64 0, .agg #[.int .i64 0, .string ⟨#[]⟩, .string ⟨#[]⟩, .int .i64 0], .bool false]) ?_ rfl ⟨?_, HBF.out⟩
    · have t0 := HFIN.out.get 0 (.int .i64 0)
      have t1 := HFIN.out.get 1 (.string ⟨#[]⟩)
      have t2 := HFIN.out.get 2 (.string ⟨#[]⟩)
      have t3 := HFIN.out.get 3 (.int .i64 0)
      clear HFIN HBF m0 m1 m2 m3 f0 f1 f2 f3
      simp [results, Tryz.results35, go_sem, t0, t1, t2, t3]
    · rw [HR2.out]; rfl
  · rw [treeF_at e1 e2] at hRe
    rw [lookF_at e1 e2] at lk
    simp only [Option.getD_some, Option.isSome_some] at lk
    have hx : x ∈ F1 ++ x :: F2 := by simp
    have hL4 : a.size = 4 ∨ a.size = 16 := by
      have := (h5 x hx).2
      rw [e1] at this
      simp only at this
      omega
    have hdl : a.data.toList.length = a.size := Array.length_toList
    have hbl : (bitsL a.data.toList).length = 8 * a.size := by rw [bitsL_length, hdl]
    obtain ⟨q, hq⟩ : ∃ q, q = signs (bitsL a.data.toList) := ⟨_, rfl⟩
    have hqm : mayL q = true := by rw [hq]; exact signs_may _ (by rw [hbl]; omega)
    have hql : q.length = 8 * a.size := by rw [hq]; unfold signs; rw [List.length_map, hbl]
    rw [← hq] at hRe
    have hca : baL (cutL a.data.toList (8 * a.size)) = a := by
      rw [← hdl, cut_all]; rfl
    have hcut := fun w => cut_addr a (8 * a.size) w hL4 (Nat.le_refl _)
    rw [hca] at hcut
    have hmp : mayP a.data.toList ((8 * a.size : Nat) : Int) = true := by
      unfold mayP
      rw [Bool.and_eq_true]
      refine ⟨?_, ?_⟩
      · unfold isCut
        rw [hdl]
        rcases hL4 with h | h <;> rw [h] <;> rfl
      · rw [Int.toNat_natCast, ← hdl, cut_all]; simp
    have hke := fun w => key_any a ((8 * a.size : Nat) : Int) w hmp
    rw [Int.toNat_natCast, List.take_of_length_le (Nat.le_of_eq hbl), ← hq] at hke
    have e8 : IntKind.wrap .i64 (8 * ((a.size : Nat) : Int)) = ((8 * a.size : Nat) : Int) := by rw [IntWalk.i64_in _ (by omega)]; omega
    have hlo := fun w' (hb : Below W0.heap.size W0 w') => ((h1.tries x hx).below hb).longest q (by rw [hql]; omega)
    rw [if_pos hqm] at hlo
    obtain ⟨o, ho⟩ : ∃ o, o = longR x.t q none := ⟨_, rfl⟩
    have hon : ∀ m v, o = some (m, v) → m ≤ 8 * a.size := by
      intro m v hmv
      rcases long_spec (q := q) (b := none) (h1.tries x hx).ok with ⟨n', v', k1, k2, _⟩ | ⟨k1, _⟩
      · rw [← ho, hmv] at k1; simp only [Option.some.injEq, Prod.mk.injEq] at k1; omega
      · rw [← ho, hmv] at k1; cases k1
    rw [← ho] at hlo hRe
    have hcm := fun m w (h : m ≤ 8 * a.size) => cut_addr a m w hL4 h
    have HCM := Lib.hid hcm
    have HLO := Lib.hid hlo
    have HKE := Lib.hid hke
    have HCUT := Lib.hid hcut
    have HON := Lib.hid hon
    have HRE := Lib.hid hRe
    obtain ⟨M8, hM8⟩ : ∃ M8, M8 = 8 * a.size := ⟨_, rfl⟩
    rw [← hM8] at e8 HKE HCUT
    obtain ⟨xf, xa, xb, xt⟩ := x
    simp only at lk HLO
    clear h h1 h2 h3 h4 h5 h6 hc0 hb0 e1 e2 hx hdl hbl hq hqm hql hca hcut hmp hke hlo ho hon hcm hRe hRV hL4 hM8
    go_enter Tryz.func35, Tryz.ntmps35
    go_upto_region 1 with fail
    rw [← hW0]
    clear hW0
    go_wp2_with (go_at_call 38; refine (HCUT.out _).mono ?_; rintro e w1 ⟨rfl, hb1⟩; refine Hid.out ?_)
    refine Lib.hid ?_
    clear lk y3 HCUT e8
    obtain ⟨w2, hw2⟩ : ∃ w2, w2 = w1.alloc (.cells #[.string a, .int .i64 M8] 44) := ⟨_, rfl⟩
    have hal : Below w1.heap.size w1 w2 := by rw [hw2]; exact (Below.refl _ _).alloc (Nat.le_refl _) _
    have hcx : Cs w2 w1.heap.size [.string a, .int .i64 M8] := by rw [hw2]; exact Cs.new w1 _ _ _
    have HB2 := Lib.hid (hb1.trans (hal.mono hb1.size))
    go_upto_region 5 with fail
    rw [← hw2]
    have k0 := hcx.get 0 (.string a)
    have k1 := hcx.get 1 (.int .i64 M8)
    clear hw2 hal hcx hb1
    go_wp2_with (go_at_call 59; refine (HKE.out _).mono ?_; rintro e w3 ⟨rfl, hb3⟩; refine Hid.out ?_)
    refine Lib.hid ?_
    have HB3 := Lib.hid (HB2.out.trans (hb3.mono HB2.out.size))
    clear hb3 k0 k1 HB2 HKE
    go_wp2_with (go_at_call 68; refine (HLO.out _ HB3.out).mono ?_; rintro e w4 ⟨rfl, hb4⟩; refine Hid.out ?_)
    refine Lib.hid ?_
    have HB4 := Lib.hid (HB3.out.trans (hb4.mono HB3.out.size))
    have HC4 := Lib.hid ((hBc.out.below HB3.out).below hb4)
    have HW4 := Lib.hid (HB0.out.trans (HB4.out.mono HB0.out.size))
    clear hb4 HB3 HLO hBc HB0
    cases o with
    | none =>
      have HR2 : Hid (RV = (0, 0, ⟨#[]⟩, 0, false)) := Lib.hid (by rw [HRE.out])
      clear HRE HCM HON
      simp only [longV_is, bestV, bestN, Option.isSome_none]
      have m0 := HC4.out.get 0 (.int .i64 0)
      have m1 := HC4.out.get 1 (.string ⟨#[]⟩)
      have m2 := HC4.out.get 2 (.string ⟨#[]⟩)
      have m3 := HC4.out.get 3 (.int .i64 0)
      have f0 := HC4.out.froz 0 (by simp)
      have f1 := HC4.out.froz 1 (by simp)
      have f2 := HC4.out.froz 2 (by simp)
      have f3 := HC4.out.froz 3 (by simp)
      have HFIN := Lib.hid (four_set HC4.out (.int .i64 0) (.string ⟨#[]⟩) (.string ⟨#[]⟩) (.int .i64 0))
      have HBF := Lib.hid (four_below HW4.out (Nat.le_refl _) (.int .i64 0) (.string ⟨#[]⟩) (.string ⟨#[]⟩) (.int .i64 0))
      clear HC4 HW4
      go_wp2_with fail
      refine bodyPost_ret (v := .tuple #[.int .i64 (0), .agg #[.int .i64 0, .string ⟨#[]⟩, .string ⟨#[]⟩, .int .i64 0], .bool false]) ?_ rfl ⟨?_, HBF.out⟩
      · have t0 := HFIN.out.get 0 (.int .i64 0)
        have t1 := HFIN.out.get 1 (.string ⟨#[]⟩)
        have t2 := HFIN.out.get 2 (.string ⟨#[]⟩)
        have t3 := HFIN.out.get 3 (.int .i64 0)
        clear HFIN HBF m0 m1 m2 m3 f0 f1 f2 f3
        simp [results, Tryz.results35, go_sem, t0, t1, t2, t3]
      · rw [HR2.out]; rfl
    | some p =>
      obtain ⟨m, v⟩ := p
      obtain ⟨PA, hPA⟩ : ∃ PA, PA = baL (cutL a.data.toList m) := ⟨_, rfl⟩
      have HR2 : Hid (RV = (v, kind, PA, (m : Int), true)) := Lib.hid (by rw [HRE.out, hPA])
      have hcm := fun w => HCM.out m w (HON.out m v rfl)
      rw [← hPA] at hcm
      have HCM2 := Lib.hid hcm
      clear HRE HCM HON hcm hPA
      simp only [longV_is, bestV, bestN, Option.isSome_some]
      go_wp2_with (go_at_call 38; refine (HCM2.out _).mono ?_; rintro e w5 ⟨rfl, hb5⟩; refine Hid.out ?_)
      refine Lib.hid ?_
      obtain ⟨w6, hw6⟩ : ∃ w6, w6 = w5.alloc (.cells #[.string PA, .int .i64 m] 44) := ⟨_, rfl⟩
      have hal : Below w5.heap.size w5 w6 := by rw [hw6]; exact (Below.refl _ _).alloc (Nat.le_refl _) _
      have hcx : Cs w6 w5.heap.size [.string PA, .int .i64 m] := by rw [hw6]; exact Cs.new w5 _ _ _
      have HC6 := Lib.hid ((HC4.out.below hb5).below hal)
      have HW6 := Lib.hid ((HW4.out.trans (hb5.mono HW4.out.size)).trans (hal.mono (Nat.le_trans HW4.out.size hb5.size)))
      go_upto_region 9 with fail
      rw [← hw6]
      have k0 := hcx.get 0 (.string PA)
      have k1 := hcx.get 1 (.int .i64 m)
      clear hw6 hal hcx hb5 HC4 HW4
      have m0 := HC6.out.get 0 (.int .i64 0)
      have m1 := HC6.out.get 1 (.string ⟨#[]⟩)
      have m2 := HC6.out.get 2 (.string ⟨#[]⟩)
      have m3 := HC6.out.get 3 (.int .i64 0)
      have f0 := HC6.out.froz 0 (by simp)
      have f1 := HC6.out.froz 1 (by simp)
      have f2 := HC6.out.froz 2 (by simp)
      have f3 := HC6.out.froz 3 (by simp)
      have HFIN := Lib.hid (four_set HC6.out (.int .i64 kind) (.string ⟨#[]⟩) (.string PA) (.int .i64 m))
      have HBF := Lib.hid (four_below HW6.out (Nat.le_refl _) (.int .i64 kind) (.string ⟨#[]⟩) (.string PA) (.int .i64 m))
      clear HC6 HW6
      go_region
      have HBF := Lib.hid HBF.out.drew
      go_wp2_with fail
      refine bodyPost_ret (v := .tuple #[.int .i64 (v), .agg #[.int .i64 kind, .string ⟨#[]⟩, .string PA, .int .i64 m], .bool true]) ?_ rfl ⟨?_, HBF.out⟩
      · have t0 := HFIN.out.get 0 (.int .i64 kind)
        have t1 := HFIN.out.get 1 (.string ⟨#[]⟩)
        have t2 := HFIN.out.get 2 (.string PA)
        have t3 := HFIN.out.get 3 (.int .i64 m)
        clear HFIN HBF m0 m1 m2 m3 f0 f1 f2 f3
        simp [results, Tryz.results35, go_sem, t0, t1, t2, t3]
      · rw [HR2.out]; rfl
end Go.Proofs.YtkdknfedieeenaaGreatDoor
namespace Go.Proofs.YtkdknfedieeenaaGreatDoor
open Go.RowKit
set_option linter.unusedVariables false
set_option linter.unusedSimpArgs false
set_option maxRecDepth 20000
abbrev nEx : ByteArray := ⟨#[2, 101, 120]⟩
abbrev nBex : ByteArray := ⟨#[1, 98, 2, 101, 120]⟩
abbrev nAbex : ByteArray := ⟨#[1, 97, 1, 98, 2, 101, 120]⟩
theorem mk17a : makeL [[101, 120]] = some [2, 101, 120] := by decide +kernel
theorem mk17b : makeL [[98], [101, 120]] = some [1, 98, 2, 101, 120] := by decide +kernel
theorem mk17c : makeL [[97], [98], [101, 120]] = some [1, 97, 1, 98, 2, 101, 120] := by decide +kernel
theorem enc_ex : ∃ z, encR (toT 2 nEx ⟨#[]⟩ 0) = some z := by
  have h := (good_name (k := 2) (X := [[101, 120]]) ⟨by decide, by decide⟩ (.inr (.inl rfl)) (by intro h; omega)).enc
  rw [mk17a] at h
  exact ⟨_, h⟩
theorem enc_bex : ∃ z, encR (toT 2 nBex ⟨#[]⟩ 0) = some z := by
  have h := (good_name (k := 2) (X := [[98], [101, 120]]) ⟨by decide, by decide⟩ (.inr (.inl rfl)) (by intro h; omega)).enc
  rw [mk17b] at h
  exact ⟨_, h⟩
theorem nam17 (k : Int) (n : ByteArray) : namB (toT k n ⟨#[]⟩ 0) = true := rfl
theorem putI_nam {S : IxS} {t : Trig} {v : Int} {z : List UInt8} (he : encR t = some z) (h : namB t = true) : putI S t v = { S with M := upd S.M (wordP t) (some v), lv := if (S.M (wordP t)).isSome then S.lv else S.lv + 1 } := by
  unfold putI IxS.put
  rw [he, h]
  rfl
theorem putB_nam {S : IxS} {t : Trig} {z : List UInt8} (he : encR t = some z) (h : namB t = true) : putB S t = (S.M (wordP t)).isNone := by
  unfold putB IxS.val
  rw [he, h]
  simp
abbrev m17 : ByteArray → Option Int := upd (upd (fun _ => none) (wordT 2 nEx) (some 1)) (wordT 2 nBex) (some 2)
theorem ex17a : nameV m17 1 2 nAbex = (2, 2, nBex, true) := by decide +kernel
theorem ex17b : nameV m17 1 2 nEx = (0, 0, ⟨#[]⟩, false) := by decide +kernel
theorem ex17c : (upd (fun _ => none) (wordT 2 nEx) (some 1) : ByteArray → Option Int) (wordT 2 nBex) = none := by decide +kernel
noncomputable def s17 : IxS := putI (putI emptyI (toT 2 nEx ⟨#[]⟩ 0) 1) (toT 2 nBex ⟨#[]⟩ 0) 2
theorem s17_M : s17.M = m17 := by
  obtain ⟨z1, h1⟩ := enc_ex
  obtain ⟨z2, h2⟩ := enc_bex
  unfold s17
  rw [putI_nam h2 rfl, putI_nam h1 rfl]
  rfl
theorem tot17 : (putI emptyI (toT 2 nEx ⟨#[]⟩ 0) 1).tot = 0 := by
  obtain ⟨z1, h1⟩ := enc_ex
  rw [putI_nam h1 rfl]; rfl
theorem put17a : putB emptyI (toT 2 nEx ⟨#[]⟩ 0) = true := by
  obtain ⟨z1, h1⟩ := enc_ex
  rw [putB_nam h1 rfl]; rfl
theorem put17b : putB (putI emptyI (toT 2 nEx ⟨#[]⟩ 0) 1) (toT 2 nBex ⟨#[]⟩ 0) = true := by
  obtain ⟨z1, h1⟩ := enc_ex
  obtain ⟨z2, h2⟩ := enc_bex
  rw [putB_nam h2 rfl, putI_nam h1 rfl]
  show ((upd (fun _ => none) (wordT 2 nEx) (some 1) : ByteArray → Option Int) (wordT 2 nBex)).isNone = true
  rw [ex17c]; rfl
set_option maxHeartbeats 16000000 in
theorem awake17_any (w : World) (hL : LaidT w) : Calls Tryz.prog 24 #[] w fun e w' => e = .returned (.bool true) ∧ Below w.heap.size w w' := by
  have hM1 : ∀ A c w, Sl w w.heap.size 1 A 1 (([[101, 120]] : List (List UInt8)).map sv) → Calls Tryz.prog 39 #[.slice A 1 c] w fun e w' => e = .returned (.tuple #[.string nEx, .bool true]) ∧ Below w.heap.size w w' := by
    intro A c w h
    have := makeX_any A 1 c [[101, 120]] w h (by decide) (by decide)
    rw [mk17a] at this; exact this
  have hM2 : ∀ A c w, Sl w w.heap.size 1 A 2 (([[98], [101, 120]] : List (List UInt8)).map sv) → Calls Tryz.prog 39 #[.slice A 2 c] w fun e w' => e = .returned (.tuple #[.string nBex, .bool true]) ∧ Below w.heap.size w w' := by
    intro A c w h
    have := makeX_any A 2 c [[98], [101, 120]] w h (by decide) (by decide)
    rw [mk17b] at this; exact this
  have hM3 : ∀ A c w, Sl w w.heap.size 1 A 3 (([[97], [98], [101, 120]] : List (List UInt8)).map sv) → Calls Tryz.prog 39 #[.slice A 3 c] w fun e w' => e = .returned (.tuple #[.string nAbex, .bool true]) ∧ Below w.heap.size w w' := by
    intro A c w h
    have := makeX_any A 3 c [[97], [98], [101, 120]] w h (by decide) (by decide)
    rw [mk17c] at this; exact this
  have hI0 : IXs w w.heap.size w.heap.size [w.heap.size] emptyI 0 (w.alloc (.cells #[.slice none 0 0, .int .i64 0, .int .i64 0, .map none] 129)) := IXs.start (Below.refl _ _) (Nat.le_refl _)
  obtain ⟨b, hb⟩ : ∃ b, b = w.heap.size := ⟨_, rfl⟩
  have hof := index_of w
  rw [← hb] at hof
  obtain ⟨W1, hW1⟩ : ∃ W1, W1 = w.alloc (.cells #[.slice none 0 0, .int .i64 0, .int .i64 0, .map none] 129) := ⟨_, rfl⟩
  rw [← hW1] at hof hI0
  have HI1 : Hid (IXs w w.heap.size b [b] emptyI 0 W1) := Lib.hid (by rw [hb]; exact hI0)
  have HOF := Lib.hid hof
  have HM1 := Lib.hid hM1
  have HM2 := Lib.hid hM2
  have HM3 := Lib.hid hM3
  have HLL := Lib.hid hL
  clear hM1 hM2 hM3 hL hI0 hof hW1 hb
  go_enter Tryz.func24, Tryz.ntmps24
  go_wp2_with (go_at_call 25; refine HOF.out.mono ?_; rintro e w1 ⟨rfl, rfl⟩; refine Hid.out ?_)
  refine Lib.hid ?_
  go_wp2_with (go_at_call 39; refine (HM1.out _ _ _ (Sl.fresh _ _ _ 1 _ rfl rfl)).mono ?_; rintro e w2 ⟨rfl, hb2⟩; refine Hid.out ?_)
  refine Lib.hid ?_
  have HI2 := Lib.hid (HI1.out.below (below_alloc _ (Below.refl _ _) (Nat.le_refl _) hb2))
  clear hb2 HI1 HOF
  go_wp2_with (go_at_call 39; refine (HM2.out _ _ _ (Sl.fresh _ _ _ 2 _ rfl rfl)).mono ?_; rintro e w3 ⟨rfl, hb3⟩; refine Hid.out ?_)
  refine Lib.hid ?_
  have HI3 := Lib.hid (HI2.out.below (below_alloc _ (Below.refl _ _) (Nat.le_refl _) hb3))
  clear hb3 HI2
  go_wp2_with (go_at_call 39; refine (HM3.out _ _ _ (Sl.fresh _ _ _ 3 _ rfl rfl)).mono ?_; rintro e w4 ⟨rfl, hb4⟩; refine Hid.out ?_)
  refine Lib.hid ?_
  have HI4 := Lib.hid (HI3.out.below (below_alloc _ (Below.refl _ _) (Nat.le_refl _) hb4))
  clear hb4 HI3 HM1 HM2 HM3
  have hp1 := put_index HI4.out (by omega) (by show (0 : Nat) < _; omega) 2 nEx ⟨#[]⟩ 0 1 (by decide) (by decide) (HLL.out.below HI4.out.bel (Nat.le_refl _))
  rw [put17a] at hp1
  have HP1 := Lib.hid hp1
  clear hp1
  go_wp2_with (go_at_call 28; refine HP1.out.mono ?_; rintro e w5 ⟨rfl, own5, hI5, _, _⟩; refine Hid.out ?_)
  refine Lib.hid ?_
  have hp2 := put_index hI5 (by omega) (by rw [tot17]; omega) 2 nBex ⟨#[]⟩ 0 2 (by decide) (by decide) (HLL.out.below hI5.bel (Nat.le_refl _))
  rw [put17b] at hp2
  have HP2 := Lib.hid hp2
  clear hp2 hI5 HI4 HP1
  go_wp2_with (go_at_call 28; refine HP2.out.mono ?_; rintro e w6 ⟨rfl, own6, hI6, _, _⟩; refine Hid.out ?_)
  refine Lib.hid ?_
  have HI6 : Hid (IXs w w.heap.size b own6 s17 2 w6) := Lib.hid hI6
  clear hI6 HP2
  have hn1 := name_index HI6.out (by omega) 1 2 nAbex (by decide)
  rw [s17_M, ex17a, show tripV (2, 2, nBex, true) = .tuple #[.int .i64 2, .agg #[.int .i64 2, .string nBex, .string ⟨#[]⟩, .int .i64 0], .bool true] from rfl] at hn1
  have HN1 := Lib.hid hn1
  clear hn1
  go_wp2_with (go_at_call 32; refine HN1.out.mono ?_; rintro e w7 ⟨rfl, hb7⟩; refine Hid.out ?_)
  refine Lib.hid ?_
  have hal : Below w7.heap.size w7 (w7.alloc (.cells #[.int .i64 2, .string nBex, .string ⟨#[]⟩, .int .i64 0] 46)) := (Below.refl _ _).alloc (Nat.le_refl _) _
  have hc8 : Cs (w7.alloc (.cells #[.int .i64 2, .string nBex, .string ⟨#[]⟩, .int .i64 0] 46)) w7.heap.size [.int .i64 2, .string nBex, .string ⟨#[]⟩, .int .i64 0] := Cs.new w7 _ _ _
  have hn2 := name_index ((HI6.out.below hb7).below hal) (by omega) 1 2 nEx (by decide)
  rw [s17_M, ex17b, show tripV (0, 0, ⟨#[]⟩, false) = .tuple #[.int .i64 0, .agg #[.int .i64 0, .string ⟨#[]⟩, .string ⟨#[]⟩, .int .i64 0], .bool false] from rfl] at hn2
  obtain ⟨P7, hP7⟩ : ∃ P, P = w7.heap.size := ⟨_, rfl⟩
  have HB8 := Lib.hid (show Below w.heap.size w _ from ((HI6.out.below hb7).below hal).bel)
  obtain ⟨W8, hW8⟩ : ∃ W, W = w7.alloc (.cells #[.int .i64 2, .string nBex, .string ⟨#[]⟩, .int .i64 0] 46) := ⟨_, rfl⟩
  rw [← hW8] at hn2 hc8 HB8
  have HN2 := Lib.hid hn2
  have HC8 := Lib.hid hc8
  have HW8 := Lib.hid hW8
  clear hn2 hc8 hal HN1 hb7 hW8 hP7
  go_wp2_with (go_at_call 32; rw [← HW8.out]; refine HN2.out.mono ?_; rintro e w9 ⟨rfl, hb9⟩; refine Hid.out ?_)
  refine Lib.hid ?_
  have hc9 := (HC8.out.below hb9).alloc (.cells #[.int .i64 0, .string ⟨#[]⟩, .string ⟨#[]⟩, .int .i64 0] 46)
  have y1 := hc9.get 1 (.string nBex)
  have HB9 := Lib.hid ((HB8.out.trans (hb9.mono HB8.out.size)).alloc (Nat.le_trans HB8.out.size hb9.size) (.cells #[.int .i64 0, .string ⟨#[]⟩, .string ⟨#[]⟩, .int .i64 0] 46))
  have hss := str_same nBex nBex rfl
  clear hc9 hb9 HN2 HC8 HW8 HB8
  go_wp2_with fail
  go_ret
  exact ⟨rfl, HB9.out⟩
end Go.Proofs.YtkdknfedieeenaaGreatDoor
namespace Go.Proofs.YtkdknfedieeenaaGreatDoor
open Go.RowKit
set_option linter.unusedVariables false
set_option linter.unusedSimpArgs false
set_option maxRecDepth 20000
theorem enc_tuple (o : Option (List UInt8)) : ∃ Z, encV o = .tuple #[.string Z, .bool o.isSome] := by
  cases o with
  | none => exact ⟨_, rfl⟩
  | some z => exact ⟨_, rfl⟩
theorem putI_none {S : IxS} {t : Trig} {v : Int} (h : encR t = none) : putI S t v = S := by unfold putI; rw [h]; rfl
theorem putB_none {S : IxS} {t : Trig} (h : encR t = none) : putB S t = false := by unfold putB; rw [h]; rfl
theorem delI_none {S : IxS} {t : Trig} (h : encR t = none) : delI S t = S := by unfold delI; rw [h]; rfl
theorem delB_none {S : IxS} {t : Trig} (h : encR t = none) : delB S t = false := by unfold delB; rw [h]; rfl
theorem putI_some {S : IxS} {t : Trig} {v : Int} {z : List UInt8} (h : encR t = some z) : putI S t v = S.put t v := by unfold putI; rw [h]; rfl
theorem putB_some {S : IxS} {t : Trig} {z : List UInt8} (h : encR t = some z) : putB S t = (S.val t).isNone := by unfold putB; rw [h]; simp
theorem delI_some {S : IxS} {t : Trig} {z : List UInt8} (h : encR t = some z) : delI S t = S.del t := by unfold delI; rw [h]; rfl
theorem delB_some {S : IxS} {t : Trig} {z : List UInt8} (h : encR t = some z) : delB S t = (S.val t).isSome := by unfold delB; rw [h]; simp
theorem IxS.del_ok {S : IxS} {t : Trig} {n : List UInt8} (hS : S.Ok) (ht : encR t = some n) : (S.del t).Ok := by
  unfold IxS.del
  cases h1 : namB t with
  | true => rw [if_pos rfl]; exact hS
  | false =>
    rw [if_neg (by simp)]
    cases hg : getR (S.G (famP t)) (keyP t) with
    | none => rw [if_neg (by simp)]; exact hS
    | some v =>
      rw [if_pos (by simp)]
      intro f
      simp only
      split
      · have hh := (get_spec (hS _).1 (hS _).2).1 hg
        exact ⟨(del_spec (hS _).1 hh).1, fit_del (hS _).2⟩
      · exact hS f
/-- How many there are behind Del. -/
theorem IXs.del_len {W w : World} {B b most : Nat} {own : List Nat} {S : IxS} (h : IXs W B b own S most w) {t : Trig} (hv : (S.val t).isSome = true) : (S.del t).len + 1 = S.len := by
  obtain ⟨V, us, n, mv, F, h1, h2, h3, h4, h5, h6⟩ := h
  unfold IxS.del IxS.val IxS.len at *
  cases hn : namB t with
  | true =>
    rw [hn] at hv
    simp only [if_true] at hv ⊢
    rw [if_pos hv]
    obtain ⟨v, hm⟩ := Option.isSome_iff_exists.1 hv
    obtain ⟨ss, hT⟩ := h1.tab
    obtain ⟨i, hl, _⟩ := (hT.ti.rep _ _).1 hm
    have : 0 < lives ss := by
      unfold lives
      rw [List.countP_pos_iff]
      refine ⟨ss[i]'hl.1, List.getElem_mem _, ?_⟩
      have := hl.2.1
      rw [sl_get hl.1] at this
      simp [this]
    have := hT.live
    omega
  | false =>
    rw [hn] at hv
    simp only [Bool.false_eq_true, if_false] at hv ⊢
    rw [if_pos hv]
    have hpos : 0 < S.tot := by
      rcases lookF_cases F (famP t) with e | ⟨F1, x, F2, rfl, e1, e2⟩
      · rw [h3, treeF_no e] at hv; simp [getR, getO, longR] at hv
      · rw [h3, treeF_at e1 e2] at hv
        have hx := h1.tries x (by simp)
        have hk := (keys_get hx.ok hx.fit).2 hv
        have : 0 < x.t.keys.length := List.length_pos_of_mem hk
        rw [h4]
        unfold totF
        simp only [List.map_append, List.map_cons, List.sum_append, List.sum_cons]
        omega
    show S.lv + (S.tot - 1) + 1 = _
    omega
/-- Nothing is found where no family has a prefix. -/
theorem adrV_none {G : Int × Int → Tr} (hG : ∀ f, (G f).Ok [] ∧ (G f).Fit) (h : ∀ f q, getR (G f) q = none) (kind : Int) (a : ByteArray) : adrV G kind a = (0, 0, ⟨#[]⟩, 0, false) := by
  unfold adrV
  rcases long_spec (q := signs (bitsL a.data.toList)) (b := none) (hG (kind, (a.size : Int))).1 with ⟨n', v', k1, k2, k3, _⟩ | ⟨k1, _⟩
  · have := (get_spec (hG (kind, (a.size : Int))).1 (hG (kind, (a.size : Int))).2).2 k3
    rw [h] at this; cases this
  · rw [k1]
theorem IxS.put_get {S : IxS} {t : Trig} {n : List UInt8} (v : Int) (hS : S.Ok) (ht : encR t = some n) (f : Int × Int) (q : List UInt8) : getR ((S.put t v).G f) q = if namB t = false ∧ f = famP t ∧ q = keyP t then some v else getR (S.G f) q := by
  unfold IxS.put
  cases h1 : namB t with
  | true => rw [if_pos rfl, if_neg (show ¬ (true = false ∧ f = famP t ∧ q = keyP t) from fun e => by cases e.1)]
  | false =>
    rw [if_neg (by simp)]
    have hm : mayL (keyP t) = true := by
      rcases enc_shape ht with ⟨q1, q2, _⟩ | ⟨_, t2, _⟩
      · rw [(namB_iff t).2 ⟨q1, q2⟩] at h1; cases h1
      · exact keyP_may t2
    by_cases e : f = famP t
    · simp only [e, if_true, true_and]
      rw [get_put (hS _).1 (hS _).2 hm]
    · simp only [e, if_false, false_and, and_false]
theorem IxS.del_get {S : IxS} {t : Trig} (hS : S.Ok) (f : Int × Int) (q : List UInt8) : getR ((S.del t).G f) q = if namB t = false ∧ f = famP t ∧ q = keyP t then none else getR (S.G f) q := by
  unfold IxS.del
  cases h1 : namB t with
  | true => rw [if_pos rfl, if_neg (show ¬ (true = false ∧ f = famP t ∧ q = keyP t) from fun e => by cases e.1)]
  | false =>
    rw [if_neg (by simp)]
    cases hg : getR (S.G (famP t)) (keyP t) with
    | none =>
      rw [if_neg (by simp)]
      by_cases e : f = famP t ∧ q = keyP t
      · rw [if_pos ⟨rfl, e⟩, e.1, e.2, hg]
      · rw [if_neg (fun h => e h.2)]
    | some v =>
      rw [if_pos (by simp)]
      by_cases e : f = famP t
      · simp only [e, if_true, true_and]
        rw [get_del (hS _).1 (hS _).2 hg]
      · simp only [e, if_false, false_and, and_false]
theorem emptyI_ok : emptyI.Ok := fun _ => ⟨trivial, trivial⟩
theorem emptyI_get (f : Int × Int) (q : List UInt8) : getR (emptyI.G f) q = none := by simp [emptyI, getR, getO, longR]
/-- Put twice and Del of any trigger. -/
theorem none_words (t : Trig) (v : Int) : putB emptyI t = (encR t).isSome ∧ putB (putI emptyI t v) t = false ∧ (putI (putI emptyI t v) t v).len = (if (encR t).isSome then 1 else 0) ∧ delB (putI (putI emptyI t v) t v) t = (encR t).isSome ∧
    ∀ kind a, adrV (delI (putI (putI emptyI t v) t v) t).G kind a = (0, 0, ⟨#[]⟩, 0, false) := by
  cases he : encR t with
  | none =>
    rw [putI_none he, putI_none he, delI_none he, putB_none he, delB_none he]
    exact ⟨rfl, rfl, rfl, rfl, fun kind a => adrV_none emptyI_ok emptyI_get kind a⟩
  | some z =>
    rw [putI_some he, putI_some he, delI_some he, putB_some he, putB_some he, delB_some he]
    have o1 := IxS.put_ok v emptyI_ok he
    have o2 := IxS.put_ok v o1 he
    have v1 : (emptyI.put t v).val t = some v := by rw [IxS.val_put v emptyI_ok he he, if_pos rfl]
    have v2 : ((emptyI.put t v).put t v).val t = some v := by rw [IxS.val_put v o1 he he, if_pos rfl]
    refine ⟨by rw [emptyI_val]; rfl, by rw [v1]; rfl, ?_, by rw [v2]; rfl, fun kind a => adrV_none (IxS.del_ok o2 he) (fun f q => ?_) kind a⟩
    · rw [IxS.put_len, v1, if_pos (show (some v).isSome = true from rfl), IxS.put_len, emptyI_val, if_neg (show ¬ (none : Option Int).isSome = true by simp)]
      rfl
    · rw [IxS.del_get o2, IxS.put_get v o1 he, IxS.put_get v emptyI_ok he]
      split
      · rfl
      · exact emptyI_get f q
end Go.Proofs.YtkdknfedieeenaaGreatDoor
