/- Texts that walks stand on, one behind the other. -/
import Derived.Test.YtkdknfedieeenaaDoorSrM
import Derived.Test.YtkdknfedieeenaaDoorMgSA
import Derived.Test.YtkdknfedieeenaaDoorMgSB
import Derived.LoopN
import Derived.Test.YtkdknfedieeenaaDoorSrL
import Derived.Test.YtkdknfedieeenaaDoorReg2
import Derived.Lib.SliceRun
namespace Go.Proofs.YtkdknfedieeenaaDoor
open Go.RowKit
set_option linter.unusedVariables false
set_option linter.unusedSimpArgs false
set_option maxRecDepth 20000
attribute [local simp] putsF isV wordOf Deps Region.binds Region.wanted Act.put wantedX isB
theorem sn_follows : Tryd.prog.follows .mixedOrders = true := by kernel_rfl
theorem sntail_cons {P : Program} {Q : Exit → Act → World → Prop} (o : Oper) (os : List Oper) (a : Act) (w : World) : tailWp P Q (o :: os) a w = Oper.wp P o a w (fun a' w' => ∃ v, a' = a.put o.dst v ∧ tailWp P Q os a' w') Q := rfl
theorem sntail_nil {P : Program} {Q : Exit → Act → World → Prop} (a : Act) (w : World) : tailWp P Q [] a w = Q .normal a w := rfl
def o19 : ByteArray := ⟨#[3, 114, 112, 122]⟩
def n19 : ByteArray := ⟨#[2, 101, 120, 3, 114, 112, 122]⟩
def e19 : ByteArray := ⟨#[2, 101, 120]⟩
theorem strip19 : stripOf n19 o19 = some [2, 101, 120] := by decide +kernel
theorem dec19 : decR [2, 101, 120] = some ⟨1, [2, 101, 120], [], 0⟩ := by decide +kernel
theorem at19 : atR [(n19, (5 : Int), (0 : Int), (⟨#[]⟩ : ByteArray))] n19 = [(n19, 5, 0, ⟨#[]⟩)] := by decide +kernel
theorem tgt19 : tgtOf ⟨#[]⟩ = (4, ⟨#[]⟩, false) := by decide +kernel

set_option maxHeartbeats 16000000 in
theorem snode19 (g0 c0 : Nat) (w : World) (hR : Cs w g0 [.string n19, .int .u16 5, .int .u32 0, .string ⟨#[]⟩]) (hL : LaidT w) :
    Calls Tryd.prog 23 #[.agg #[.string o19, .slice (some ⟨g0, 0, none⟩) 1 c0, .bool true, .int .i64 0], .string n19] w fun e w' =>
      e = .returned (.tuple #[.agg #[.int .i64 1, .string e19, .string ⟨#[]⟩, .int .i64 0], .agg #[.int .i64 4, .string ⟨#[]⟩, .bool false, .slice none 0 0], .bool true]) ∧ Below w.heap.size w w' := by
  have hst := fun w => strip_any n19 o19 w (by decide) (by decide)
  rw [strip19] at hst
  have hst : ∀ w, Calls Tryd.prog 27 #[.string n19, .string o19] w fun e w' => e = .returned (.tuple #[.string e19, .bool true]) ∧ Below w.heap.size w w' := hst
  have hdc := fun w h => decode_any e19 w (by decide) h
  have hdc : ∀ w, LaidT w → Calls Tryd.prog 31 #[.string e19] w fun e w' => e = .returned (.tuple #[.agg #[.int .i64 1, .string e19, .string ⟨#[]⟩, .int .i64 0], .bool true]) ∧ Below w.heap.size w w' := by
    intro w h
    have := hdc w h
    rw [show e19.data.toList = [2, 101, 120] from rfl, dec19] at this
    exact this
  have hat : ∀ w, Cs w g0 [.string n19, .int .u16 5, .int .u32 0, .string ⟨#[]⟩] → Calls Tryd.prog 33 #[.slice (some ⟨g0, 0, none⟩) 1 c0, .string n19] w fun e w' => ∃ v, e = .returned v ∧ OBM 4 w.heap.size w v 1 (flatR [(n19, (5 : Int), (0 : Int), (⟨#[]⟩ : ByteArray))]) w' := by
    intro w h
    have hrec : Recs w (some ⟨g0, 0, none⟩) [(n19, (5 : Int), (0 : Int), (⟨#[]⟩ : ByteArray))] := by
      intro k r hr
      match k, hr with
      | 0, hr =>
        simp at hr
        subst hr
        exact ⟨g0, 0, rfl, h.lt, h.get 0 _, h.get 1 _, h.get 2 _, h.get 3 _⟩
    have := at_any (some ⟨g0, 0, none⟩) 1 c0 _ n19 w hrec rfl (by decide)
    rw [at19] at this
    exact this
  have hof : ∀ (wx : World) (g off c : Nat), g < wx.heap.size → wx.cell? ⟨g, off + 1, none⟩ = some (.int .u16 5) → wx.cell? ⟨g, off + 3, none⟩ = some (.string ⟨#[]⟩) → Calls Tryd.prog 32 #[.slice (some ⟨g, off, none⟩) 1 c] wx fun e w' => e = .returned (.tuple #[.agg #[.int .i64 4, .string ⟨#[]⟩, .bool false, .slice none 0 0], .bool true]) ∧ Below wx.heap.size wx w' := by
    intro wx g off c h1 h2 h3
    have := of_cname2 g off c ⟨#[]⟩ wx h1 h2 h3 (by decide)
    rw [tgt19] at this
    exact this
  have hov : ∀ w, Calls Tryd.prog 34 #[.agg #[.int .i64 4, .string ⟨#[]⟩, .bool false, .slice none 0 0], .int .i64 0] w fun e w' => e = .returned (.agg #[.int .i64 4, .string ⟨#[]⟩, .bool false, .slice none 0 0]) ∧ Below w.heap.size w w' := by
    intro w
    have := over_any 4 ⟨#[]⟩ false 0 w
    rw [show overK 0 = false from rfl] at this
    exact this
  obtain ⟨W1, hW1⟩ : ∃ W, W = w.alloc (.cells #[.string o19, .slice (some ⟨g0, 0, none⟩) 1 c0, .bool true, .int .i64 0] 62) := ⟨_, rfl⟩
  obtain ⟨W2, hW2⟩ : ∃ W, W = W1.alloc (.cells #[.int .i64 0, .string ⟨#[]⟩, .string ⟨#[]⟩, .int .i64 0] 33) := ⟨_, rfl⟩
  obtain ⟨W0, hW0⟩ : ∃ W, W = W2.alloc (.cells #[.int .i64 0, .string ⟨#[]⟩, .bool false, .slice none 0 0] 50) := ⟨_, rfl⟩
  have e1 : W1.heap.size = w.heap.size + 1 := by rw [hW1]; simp
  have e2 : W2.heap.size = w.heap.size + 2 := by rw [hW2]; simp [e1]
  have hP : Cs W0 w.heap.size [.string o19, .slice (some ⟨g0, 0, none⟩) 1 c0, .bool true, .int .i64 0] := by rw [hW0, hW2, hW1]; exact ((Cs.new w _ _ _).alloc _).alloc _
  have hT : Cs W0 (w.heap.size + 1) [.int .i64 0, .string ⟨#[]⟩, .string ⟨#[]⟩, .int .i64 0] := by rw [hW0, hW2]; exact ((Cs.new W1 _ _ _).at_ _ e1).alloc _
  have hA : Cs W0 (w.heap.size + 2) [.int .i64 0, .string ⟨#[]⟩, .bool false, .slice none 0 0] := by rw [hW0]; exact (Cs.new W2 _ _ _).at_ _ e2
  have hbel : Below w.heap.size w W0 := by
    rw [hW0, hW2, hW1]
    have h1 := (Below.refl w.heap.size w).alloc (Nat.le_refl _) (.cells #[.string o19, .slice (some ⟨g0, 0, none⟩) 1 c0, .bool true, .int .i64 0] 62)
    have h2 := h1.alloc h1.size (.cells #[.int .i64 0, .string ⟨#[]⟩, .string ⟨#[]⟩, .int .i64 0] 33)
    exact h2.alloc h2.size _
  have hWW : W0 = ((w.alloc (.cells #[.string o19, .slice (some ⟨g0, 0, none⟩) 1 c0, .bool true, .int .i64 0] 62)).alloc (.cells #[.int .i64 0, .string ⟨#[]⟩, .string ⟨#[]⟩, .int .i64 0] 33)).alloc (.cells #[.int .i64 0, .string ⟨#[]⟩, .bool false, .slice none 0 0] 50) := by rw [hW0, hW2, hW1]
  have HST := Lib.hid hst
  have HDC := Lib.hid hdc
  have HAT := Lib.hid hat
  have HOF := Lib.hid hof
  have HOV := Lib.hid hov
  have HWW := Lib.hid hWW
  have HP := Lib.hid hP
  have HT := Lib.hid hT
  have HA := Lib.hid hA
  have HBEL := Lib.hid hbel
  have HR := Lib.hid (hR.below hbel)
  have HL0 := Lib.hid (hL.below hbel (Nat.le_refl _))
  clear hst hdc hat hof hov hWW hP hT hA hbel hW0 hW1 hW2 e1 e2 hR hL
  have p0 := HP.out.get 0 (.string o19)
  go_enter Tryd.func23, Tryd.ntmps23
  go_upto_region 1 with fail
  rw [← HWW.out]
  go_wp2_with (go_at_call 27; refine (HST.out _).mono ?_; rintro e w1 ⟨rfl, hb1⟩; refine Hid.out ?_)
  refine Lib.hid ?_
  have HL1 := Lib.hid (HL0.out.below hb1 (Nat.le_refl _))
  have HB1 := Lib.hid (HBEL.out.trans (hb1.mono HBEL.out.size))
  have HP1 := Lib.hid (HP.out.below hb1)
  have HT1 := Lib.hid (HT.out.below hb1)
  have HA1 := Lib.hid (HA.out.below hb1)
  have HR1 := Lib.hid (HR.out.below hb1)
  clear p0 hb1 HP HT HA HR HBEL HL0 HST HWW
  go_wp2_with (go_at_call 31; refine (HDC.out _ HL1.out).mono ?_; rintro e w2 ⟨rfl, hb2⟩; refine Hid.out ?_)
  refine Lib.hid ?_
  have hb3 := hb2.trans (((Below.refl w2.heap.size w2).alloc (Nat.le_refl _) (.cells #[.int .i64 1, .string e19, .string ⟨#[]⟩, .int .i64 0] 33)).mono hb2.size)
  have HB3 := Lib.hid (HB1.out.trans (hb3.mono HB1.out.size))
  have HP3 := Lib.hid (HP1.out.below hb3)
  have HT3 := Lib.hid (HT1.out.below hb3)
  have HA3 := Lib.hid (HA1.out.below hb3)
  have HR3 := Lib.hid (HR1.out.below hb3)
  have HV3 := Lib.hid (Cs.new w2 #[.int .i64 1, .string e19, .string ⟨#[]⟩, .int .i64 0] 33 [.int .i64 1, .string e19, .string ⟨#[]⟩, .int .i64 0])
  clear hb2 hb3 HP1 HT1 HA1 HR1 HB1 HL1 HDC
  go_upto_region 7 with fail
  generalize w2.alloc (.cells #[.int .i64 1, .string e19, .string ⟨#[]⟩, .int .i64 0] 33) = w3 at HB3 HP3 HT3 HA3 HR3 HV3 ⊢
  generalize w2.heap.size = P9 at HV3 ⊢
  have p1 := HP3.out.get 1 (.slice (some ⟨g0, 0, none⟩) 1 c0)
  go_wp2_with (go_at_call 33; refine (HAT.out _ HR3.out).mono ?_; rintro e w4 ⟨v4, rfl, hob⟩; refine Hid.out ?_)
  refine Lib.hid ?_
  have hbl := hob.bel
  have HB4 := Lib.hid (HB3.out.trans (hbl.mono HB3.out.size))
  have HP4 := Lib.hid (HP3.out.below hbl)
  have HT4 := Lib.hid (HT3.out.below hbl)
  have HA4 := Lib.hid (HA3.out.below hbl)
  have HV4 := Lib.hid (HV3.out.below hbl)
  obtain ⟨A4, c4, rfl, hx1, hx2, hx3⟩ := hob.slice3
  obtain ⟨g4, rfl, hg1, hg2⟩ : ∃ g, A4 = some ⟨g, 0, none⟩ ∧ w3.heap.size ≤ g ∧ g < w4.heap.size := by
    rcases hx3 with ⟨_, h, _⟩ | h
    · cases h
    · exact h
  have hof := HOF.out w4 g4 0 c4 hg2 (hob.cell 1 _ rfl) (hob.cell 3 _ rfl)
  have HOF4 := Lib.hid hof
  clear p1 hob hbl hx1 hx2 hx3 hg1 hg2 hof HB3 HP3 HT3 HA3 HV3 HR3 HAT HOF
  go_wp2_with (go_at_call 32; refine HOF4.out.mono ?_; rintro e w5 ⟨rfl, hb5⟩; refine Hid.out ?_)
  refine Lib.hid ?_
  have hb6 := hb5.trans (((Below.refl w5.heap.size w5).alloc (Nat.le_refl _) (.cells #[.int .i64 4, .string ⟨#[]⟩, .bool false, .slice none 0 0] 50)).mono hb5.size)
  have HB6 := Lib.hid (HB4.out.trans (hb6.mono HB4.out.size))
  have HP6 := Lib.hid (HP4.out.below hb6)
  have HT6 := Lib.hid (HT4.out.below hb6)
  have HA6 := Lib.hid (HA4.out.below hb6)
  have HV6 := Lib.hid (HV4.out.below hb6)
  have HW6 := Lib.hid (Cs.new w5 #[.int .i64 4, .string ⟨#[]⟩, .bool false, .slice none 0 0] 50 [.int .i64 4, .string ⟨#[]⟩, .bool false, .slice none 0 0])
  clear hb5 hb6 HB4 HP4 HT4 HA4 HV4 HOF4
  go_upto_region 10 with fail
  generalize w5.alloc (.cells #[.int .i64 4, .string ⟨#[]⟩, .bool false, .slice none 0 0] 50) = w6 at HB6 HP6 HT6 HA6 HV6 HW6 ⊢
  generalize w5.heap.size = P10 at HW6 ⊢
  refine wp_region_tail sn_follows (fun x => by simp [putsF, Act.put]; rfl) (fun v => Below w6.heap.size w6 v)
    [isV (.agg #[.int .i64 1, .string e19, .string ⟨#[]⟩, .int .i64 0]), isV (.agg #[.int .i64 4, .string ⟨#[]⟩, .bool false, .slice none 0 0]), isV (.pointer (some ⟨w.heap.size, 3, none⟩)), isV (.int .i64 0), isV (.agg #[.int .i64 4, .string ⟨#[]⟩, .bool false, .slice none 0 0])]
    5 [] (by kernel_rfl) (by kernel_rfl) (by kernel_rfl) rfl (by kernel_rfl) (by kernel_rfl) ?_ (Below.refl _ _).drew ?_ ?_
  · repeat (first | exact trivial | refine ⟨isV_stays _, ?_⟩)
  · refine ⟨?_, ?_, ?_, ?_, ?_, skipped rfl, skipped rfl, skipped rfl, trivial⟩
    all_goals
      intro _ x wx hR hd
      refine ⟨fun _ => ?_, fun hX => by simp at hX⟩
      simp at hd ⊢
    · have hq := HV6.out.below hR
      have q0 := hq.get 0 (.int .i64 1)
      have q1 := hq.get 1 (.string e19)
      have q2 := hq.get 2 (.string ⟨#[]⟩)
      have q3 := hq.get 3 (.int .i64 0)
      clear hq
      go_simp; exact nextL _ rfl rfl hR (Below.refl _ _)
    · have hq := HW6.out.below hR
      have q0 := hq.get 0 (.int .i64 4)
      have q1 := hq.get 1 (.string ⟨#[]⟩)
      have q2 := hq.get 2 (.bool false)
      have q3 := hq.get 3 (.slice none 0 0)
      clear hq
      go_simp; exact nextL _ rfl rfl hR (Below.refl _ _)
    · go_simp; exact nextL _ rfl rfl hR (Below.refl _ _)
    · have hq := HP6.out.below hR
      have q3 := hq.get 3 (.int .i64 0)
      clear hq
      go_simp; exact nextL _ rfl rfl hR (Below.refl _ _)
    · obtain ⟨hd1, hd2⟩ := hd
      go_simp
      go_at_call 34
      refine (HOV.out wx).mono ?_
      rintro e wy ⟨rfl, hby⟩
      exact nextL _ rfl rfl (hR.trans (hby.mono hR.size)) hby
  intro x w7 hR7 hx _
  obtain ⟨x0, -, -, -, x4, -⟩ := hx
  have x0 : x 0 = .agg #[.int .i64 1, .string e19, .string ⟨#[]⟩, .int .i64 0] := x0
  have x4 : x 4 = .agg #[.int .i64 4, .string ⟨#[]⟩, .bool false, .slice none 0 0] := x4
  have hT7 := HT6.out.below hR7
  have hA7 := HA6.out.below hR7
  have HB7 := Lib.hid (HB6.out.trans (hR7.mono HB6.out.size))
  have HT7 := Lib.hid hT7
  have HA7 := Lib.hid hA7
  have hne : w.heap.size + 1 ≠ w.heap.size + 2 := by omega
  have hnf : w.heap.size + 2 ≠ w.heap.size + 1 := by omega
  have HN := Lib.hid hne
  have HNF := Lib.hid hnf
  have m0 := hT7.get 0 (.int .i64 0)
  have m1 := hT7.get 1 (.string ⟨#[]⟩)
  have m2 := hT7.get 2 (.string ⟨#[]⟩)
  have m3 := hT7.get 3 (.int .i64 0)
  have f0 := hT7.froz 0
  have f1 := hT7.froz 1
  have f2 := hT7.froz 2
  have f3 := hT7.froz 3
  have n0 := hA7.get 0 (.int .i64 0)
  have n1 := hA7.get 1 (.string ⟨#[]⟩)
  have n2 := hA7.get 2 (.bool false)
  have n3 := hA7.get 3 (.slice none 0 0)
  have h0 := hA7.froz 0
  have h1 := hA7.froz 1
  have h2 := hA7.froz 2
  have h3 := hA7.froz 3
  change tailWp _ _ [_, _, _] _ _
  rw [sntail_cons, x0, x4]
  clear hT7 hA7 hR7 x0 x4 hne hnf HP6 HT6 HA6 HV6 HW6 HB6 HOV
  go_simp
  rw [sntail_cons]
  go_simp
  rw [sntail_cons]
  go_simp
  rw [sntail_nil]
  go_wp2_with fail
  refine bodyPost_ret (v := .tuple #[.agg #[.int .i64 1, .string e19, .string ⟨#[]⟩, .int .i64 0], .agg #[.int .i64 4, .string ⟨#[]⟩, .bool false, .slice none 0 0], .bool true]) ?_ rfl ⟨rfl, ?_⟩
  · have hfT := (((((Cs.all4 HT7.out (a' := .int .i64 1) (b' := .string e19) (c' := .string ⟨#[]⟩) (d' := .int .i64 0)).other (w.heap.size + 2) 0 (.int .i64 4) HNF.out).other (w.heap.size + 2) 1 (.string ⟨#[]⟩) HNF.out).other (w.heap.size + 2) 2 (.bool false) HNF.out).other (w.heap.size + 2) 3 (.slice none 0 0) HNF.out)
    have hfA := (Cs.all4 ((((HA7.out.other (w.heap.size + 1) 0 (.int .i64 1) HN.out).other (w.heap.size + 1) 1 (.string e19) HN.out).other (w.heap.size + 1) 2 (.string ⟨#[]⟩) HN.out).other (w.heap.size + 1) 3 (.int .i64 0) HN.out) (a' := .int .i64 4) (b' := .string ⟨#[]⟩) (c' := .bool false) (d' := .slice none 0 0))
    have a0 := hfT.get 0 (.int .i64 1)
    have a1 := hfT.get 1 (.string e19)
    have a2 := hfT.get 2 (.string ⟨#[]⟩)
    have a3 := hfT.get 3 (.int .i64 0)
    have b0 := hfA.get 0 (.int .i64 4)
    have b1 := hfA.get 1 (.string ⟨#[]⟩)
    have b2 := hfA.get 2 (.bool false)
    have b3 := hfA.get 3 (.slice none 0 0)
    generalize (World.setCell (World.setCell (World.setCell (World.setCell (World.setCell (World.setCell (World.setCell (World.setCell w7 ⟨w.heap.size + 1, 0, none⟩ (.int .i64 1)) ⟨w.heap.size + 1, 1, none⟩ (.string e19)) ⟨w.heap.size + 1, 2, none⟩ (.string ⟨#[]⟩)) ⟨w.heap.size + 1, 3, none⟩ (.int .i64 0)) ⟨w.heap.size + 2, 0, none⟩ (.int .i64 4)) ⟨w.heap.size + 2, 1, none⟩ (.string ⟨#[]⟩)) ⟨w.heap.size + 2, 2, none⟩ (.bool false)) ⟨w.heap.size + 2, 3, none⟩ (.slice none 0 0)) = WF at a0 a1 a2 a3 b0 b1 b2 b3 ⊢
    simp [results, Tryd.results23, go_sem, a0, a1, a2, a3, b0, b1, b2, b3]
  · exact below_all4 (below_all4 HB7.out (Nat.le_succ _)) (by omega)
end Go.Proofs.YtkdknfedieeenaaDoor
namespace Go.Proofs.YtkdknfedieeenaaDoor
open Go.RowKit
set_option linter.unusedVariables false
set_option linter.unusedSimpArgs false
set_option maxRecDepth 20000

theorem Cs.all9 {w : World} {P : Nat} {a b c d e f g i j : Value} (h : Cs w P [a, b, c, d, e, f, g, i, j]) (a1 b1 c1 d1 e1 f1 g1 i1 j1 : Value) : Cs (World.setCell (World.setCell (World.setCell (World.setCell (World.setCell (World.setCell (World.setCell (World.setCell (World.setCell w ⟨P, 0, none⟩ a1) ⟨P, 1, none⟩ b1) ⟨P, 2, none⟩ c1) ⟨P, 3, none⟩ d1) ⟨P, 4, none⟩ e1) ⟨P, 5, none⟩ f1) ⟨P, 6, none⟩ g1) ⟨P, 7, none⟩ i1) ⟨P, 8, none⟩ j1) P [a1, b1, c1, d1, e1, f1, g1, i1, j1] :=
  (((((((((h.set' 0 a1 (by simp)).set' 1 b1 (by simp)).set' 2 c1 (by simp)).set' 3 d1 (by simp)).set' 4 e1 (by simp)).set' 5 f1 (by simp)).set' 6 g1 (by simp)).set' 7 i1 (by simp)).set' 8 j1 (by simp))
theorem Cs.other9 {w : World} {P q : Nat} {vs : List Value} (h : Cs w q vs) (hP : P ≠ q) (a1 b1 c1 d1 e1 f1 g1 i1 j1 : Value) : Cs (World.setCell (World.setCell (World.setCell (World.setCell (World.setCell (World.setCell (World.setCell (World.setCell (World.setCell w ⟨P, 0, none⟩ a1) ⟨P, 1, none⟩ b1) ⟨P, 2, none⟩ c1) ⟨P, 3, none⟩ d1) ⟨P, 4, none⟩ e1) ⟨P, 5, none⟩ f1) ⟨P, 6, none⟩ g1) ⟨P, 7, none⟩ i1) ⟨P, 8, none⟩ j1) q vs :=
  (((((((((h.other P 0 a1 hP).other P 1 b1 hP).other P 2 c1 hP).other P 3 d1 hP).other P 4 e1 hP).other P 5 f1 hP).other P 6 g1 hP).other P 7 i1 hP).other P 8 j1 hP)
theorem below_all9 {w W : World} {P B : Nat} (h : Below B W w) (hP : B ≤ P) (a1 b1 c1 d1 e1 f1 g1 i1 j1 : Value) : Below B W (World.setCell (World.setCell (World.setCell (World.setCell (World.setCell (World.setCell (World.setCell (World.setCell (World.setCell w ⟨P, 0, none⟩ a1) ⟨P, 1, none⟩ b1) ⟨P, 2, none⟩ c1) ⟨P, 3, none⟩ d1) ⟨P, 4, none⟩ e1) ⟨P, 5, none⟩ f1) ⟨P, 6, none⟩ g1) ⟨P, 7, none⟩ i1) ⟨P, 8, none⟩ j1) :=
  (((((((((h.setCell (p := ⟨P, 0, none⟩) hP a1).setCell (p := ⟨P, 1, none⟩) hP b1).setCell (p := ⟨P, 2, none⟩) hP c1).setCell (p := ⟨P, 3, none⟩) hP d1).setCell (p := ⟨P, 4, none⟩) hP e1).setCell (p := ⟨P, 5, none⟩) hP f1).setCell (p := ⟨P, 6, none⟩) hP g1).setCell (p := ⟨P, 7, none⟩) hP i1).setCell (p := ⟨P, 8, none⟩) hP j1)

set_option maxHeartbeats 16000000 in
theorem sof19 (gp cp g0 c0 : Nat) (w : World) (hP : Cs w gp [.string o19, .slice (some ⟨g0, 0, none⟩) 1 c0, .bool true, .int .i64 0]) (hR : Cs w g0 [.string n19, .int .u16 5, .int .u32 0, .string ⟨#[]⟩]) (hL : LaidT w) :
    Calls Tryd.prog 12 #[.slice (some ⟨gp, 0, none⟩) 1 cp, .agg #[.string ⟨#[]⟩, .string e19, .slice none 0 0, .slice none 0 0, .slice none 0 0]] w fun e w' => e = .returned (.tuple #[.agg #[.int .i64 0, .int .i64 1, .string e19, .string ⟨#[]⟩, .int .i64 0, .int .i64 4, .string ⟨#[]⟩, .bool false, .slice none 0 0], .bool true]) ∧ Below w.heap.size w w' := by
  have hno : ∀ w, Cs w g0 [.string n19, .int .u16 5, .int .u32 0, .string ⟨#[]⟩] → LaidT w → _ := fun w h hl => snode19 g0 c0 w h hl
  have hma := fun w => smatch_qname e19 ⟨#[]⟩ 0 ⟨#[]⟩ e19 (.int .u8 0) (.int .u8 0) (.int .u8 0) none none none 0 0 0 0 0 0 w
  rw [show (e19.toList == e19.toList) = true from by rw [beq_self_eq_true]] at hma
  obtain ⟨W1, hW1⟩ : ∃ W, W = w.alloc (.cells #[.string ⟨#[]⟩, .string e19, .slice none 0 0, .slice none 0 0, .slice none 0 0] 37) := ⟨_, rfl⟩
  obtain ⟨W2, hW2⟩ : ∃ W, W = W1.alloc (.cells #[.int .i64 0, .int .i64 0, .string ⟨#[]⟩, .string ⟨#[]⟩, .int .i64 0, .int .i64 0, .string ⟨#[]⟩, .bool false, .slice none 0 0] 52) := ⟨_, rfl⟩
  obtain ⟨W0, hW0⟩ : ∃ W, W = W2.alloc (.cells #[.int .i64 0, .int .i64 0, .string ⟨#[]⟩, .string ⟨#[]⟩, .int .i64 0, .int .i64 0, .string ⟨#[]⟩, .bool false, .slice none 0 0] 52) := ⟨_, rfl⟩
  have e1 : W1.heap.size = w.heap.size + 1 := by rw [hW1]; simp
  have e2 : W2.heap.size = w.heap.size + 1 + 1 := by rw [hW2]; simp [e1]
  have hF : Cs W0 w.heap.size [.string ⟨#[]⟩, .string e19, .slice none 0 0, .slice none 0 0, .slice none 0 0] := by rw [hW0, hW2, hW1]; exact ((Cs.new w _ _ _).alloc _).alloc _
  have hV : Cs W0 (w.heap.size + 1) [.int .i64 0, .int .i64 0, .string ⟨#[]⟩, .string ⟨#[]⟩, .int .i64 0, .int .i64 0, .string ⟨#[]⟩, .bool false, .slice none 0 0] := by rw [hW0, hW2]; exact ((Cs.new W1 _ _ _).at_ _ e1).alloc _
  have hB : Cs W0 (w.heap.size + 1 + 1) [.int .i64 0, .int .i64 0, .string ⟨#[]⟩, .string ⟨#[]⟩, .int .i64 0, .int .i64 0, .string ⟨#[]⟩, .bool false, .slice none 0 0] := by rw [hW0]; exact (Cs.new W2 _ _ _).at_ _ e2
  have hbel : Below w.heap.size w W0 := by
    rw [hW0, hW2, hW1]
    have h1 := (Below.refl w.heap.size w).alloc (Nat.le_refl _) (.cells #[.string ⟨#[]⟩, .string e19, .slice none 0 0, .slice none 0 0, .slice none 0 0] 37)
    have h2 := h1.alloc h1.size (.cells #[.int .i64 0, .int .i64 0, .string ⟨#[]⟩, .string ⟨#[]⟩, .int .i64 0, .int .i64 0, .string ⟨#[]⟩, .bool false, .slice none 0 0] 52)
    exact h2.alloc h2.size _
  have hWW : W0 = ((w.alloc (.cells #[.string ⟨#[]⟩, .string e19, .slice none 0 0, .slice none 0 0, .slice none 0 0] 37)).alloc (.cells #[.int .i64 0, .int .i64 0, .string ⟨#[]⟩, .string ⟨#[]⟩, .int .i64 0, .int .i64 0, .string ⟨#[]⟩, .bool false, .slice none 0 0] 52)).alloc (.cells #[.int .i64 0, .int .i64 0, .string ⟨#[]⟩, .string ⟨#[]⟩, .int .i64 0, .int .i64 0, .string ⟨#[]⟩, .bool false, .slice none 0 0] 52) := by rw [hW0, hW2, hW1]
  have hP0 := hP.below hbel
  have hR0 := hR.below hbel
  have HNO := Lib.hid hno
  have HMA := Lib.hid hma
  have HWW := Lib.hid hWW
  have HF := Lib.hid hF
  have HV := Lib.hid hV
  have HB := Lib.hid hB
  have HBEL := Lib.hid hbel
  have HR := Lib.hid hR0
  have HL0 := Lib.hid (hL.below hbel (Nat.le_refl _))
  have p0 := hP0.get 0 (.string o19)
  have p1 := hP0.get 1 (.slice (some ⟨g0, 0, none⟩) 1 c0)
  have p2 := hP0.get 2 (.bool true)
  have p3 := hP0.get 3 (.int .i64 0)
  have r0 := hR0.get 0 (.string n19)
  have r1 := hR0.get 1 (.int .u16 5)
  have r2 := hR0.get 2 (.int .u32 0)
  have r3 := hR0.get 3 (.string ⟨#[]⟩)
  clear hno hma hWW hF hV hB hbel hW0 hW1 hW2 e1 e2 hR hL hP hP0 hR0
  go_enter Tryd.func12, Tryd.ntmps12
  go_upto_region 3 with fail
  rw [← HWW.out]
  refine wp_loop_rounds 2 ?_
  rw [rounds_succ]
  have hal3 := (Below.refl W0.heap.size W0).alloc (Nat.le_refl _) (.cells #[.string o19, .slice (some ⟨g0, 0, none⟩) 1 c0, .bool true, .int .i64 0] 62)
  have HP3 := Lib.hid (Cs.new W0 #[.string o19, .slice (some ⟨g0, 0, none⟩) 1 c0, .bool true, .int .i64 0] 62 [.string o19, .slice (some ⟨g0, 0, none⟩) 1 c0, .bool true, .int .i64 0])
  have HR3 := Lib.hid (HR.out.below hal3)
  have HF3 := Lib.hid (HF.out.below hal3)
  have HV3 := Lib.hid (HV.out.below hal3)
  have HB3 := Lib.hid (HB.out.below hal3)
  have HL3 := Lib.hid (HL0.out.below hal3 (Nat.le_refl _))
  have HE3 := Lib.hid (HBEL.out.trans (hal3.mono HBEL.out.size))
  clear hal3 HR HF HV HB HL0 HBEL HWW
  go_upto_region 7 with fail
  generalize W0.alloc (.cells #[.string o19, .slice (some ⟨g0, 0, none⟩) 1 c0, .bool true, .int .i64 0] 62) = W3 at HP3 HR3 HF3 HV3 HB3 HL3 HE3 ⊢
  generalize W0.heap.size = P9 at HP3 ⊢
  clear p0 p1 p2 p3 r0 r1 r2 r3
  refine wp_loop_rounds 2 ?_
  rw [rounds_succ]
  have p0 := HP3.out.get 0 (.string o19)
  have p1 := HP3.out.get 1 (.slice (some ⟨g0, 0, none⟩) 1 c0)
  have p2 := HP3.out.get 2 (.bool true)
  have p3 := HP3.out.get 3 (.int .i64 0)
  have r0 := HR3.out.get 0 (.string n19)
  have r1 := HR3.out.get 1 (.int .u16 5)
  have r2 := HR3.out.get 2 (.int .u32 0)
  have r3 := HR3.out.get 3 (.string ⟨#[]⟩)
  have hal4 := (Below.refl W3.heap.size W3).alloc (Nat.le_refl _) (.cells #[.string n19, .int .u16 5, .int .u32 0, .string ⟨#[]⟩] 59)
  have HP4 := Lib.hid (HP3.out.below hal4)
  have HR4 := Lib.hid (HR3.out.below hal4)
  have HQ4 := Lib.hid (Cs.new W3 #[.string n19, .int .u16 5, .int .u32 0, .string ⟨#[]⟩] 59 [.string n19, .int .u16 5, .int .u32 0, .string ⟨#[]⟩])
  have HF4 := Lib.hid (HF3.out.below hal4)
  have HV4 := Lib.hid (HV3.out.below hal4)
  have HB4 := Lib.hid (HB3.out.below hal4)
  have HL4 := Lib.hid (HL3.out.below hal4 (Nat.le_refl _))
  have HE4 := Lib.hid (HE3.out.trans (hal4.mono HE3.out.size))
  clear hal4 HP3 HR3 HF3 HV3 HB3 HL3 HE3
  go_upto_region 9 with fail
  generalize W3.alloc (.cells #[.string n19, .int .u16 5, .int .u32 0, .string ⟨#[]⟩] 59) = W4 at HP4 HR4 HQ4 HF4 HV4 HB4 HL4 HE4 ⊢
  generalize W3.heap.size = P11 at HQ4 ⊢
  clear p0 p1 p2 p3 r0 r1 r2 r3
  have p0 := HP4.out.get 0 (.string o19)
  have p1 := HP4.out.get 1 (.slice (some ⟨g0, 0, none⟩) 1 c0)
  have p2 := HP4.out.get 2 (.bool true)
  have p3 := HP4.out.get 3 (.int .i64 0)
  have q0 := HQ4.out.get 0 (.string n19)
  go_wp2_with (go_at_call 23; refine (HNO.out _ HR4.out HL4.out).mono ?_; rintro e w5 ⟨rfl, hb5⟩; refine Hid.out ?_)
  refine Lib.hid ?_
  clear p0 p1 p2 p3 q0
  obtain ⟨W6, hW6⟩ : ∃ W, W = w5.alloc (.cells #[.int .i64 1, .string e19, .string ⟨#[]⟩, .int .i64 0] 33) := ⟨_, rfl⟩
  obtain ⟨W7, hW7⟩ : ∃ W, W = W6.alloc (.cells #[.int .i64 4, .string ⟨#[]⟩, .bool false, .slice none 0 0] 50) := ⟨_, rfl⟩
  have e6 : W6.heap.size = w5.heap.size + 1 := by rw [hW6]; simp
  have hT7 : Cs W7 w5.heap.size [.int .i64 1, .string e19, .string ⟨#[]⟩, .int .i64 0] := by rw [hW7, hW6]; exact (Cs.new w5 _ _ _).alloc _
  have hA7 : Cs W7 (w5.heap.size + 1) [.int .i64 4, .string ⟨#[]⟩, .bool false, .slice none 0 0] := by rw [hW7]; exact (Cs.new W6 _ _ _).at_ _ e6
  have hb7 : Below W4.heap.size W4 W7 := by
    rw [hW7, hW6]
    have h1 := hb5.alloc hb5.size (.cells #[.int .i64 1, .string e19, .string ⟨#[]⟩, .int .i64 0] 33)
    exact h1.alloc h1.size _
  have hWW : W7 = (w5.alloc (.cells #[.int .i64 1, .string e19, .string ⟨#[]⟩, .int .i64 0] 33)).alloc (.cells #[.int .i64 4, .string ⟨#[]⟩, .bool false, .slice none 0 0] 50) := by rw [hW7, hW6]
  have HT7 := Lib.hid hT7
  have HA7 := Lib.hid hA7
  have HF7 := Lib.hid (HF4.out.below hb7)
  have HV7 := Lib.hid (HV4.out.below hb7)
  have HB7 := Lib.hid (HB4.out.below hb7)
  have HE7 := Lib.hid (HE4.out.trans (hb7.mono HE4.out.size))
  have HWW := Lib.hid hWW
  clear hb5 hb7 hT7 hA7 hW6 hW7 e6 hWW HP4 HR4 HQ4 HF4 HV4 HB4 HL4 HE4 HNO
  go_upto_region 10 with fail
  rw [← HWW.out]
  generalize w5.heap.size = P12 at HT7 HA7 ⊢
  clear HWW
  have t0 := HT7.out.get 0 (.int .i64 1)
  have t1 := HT7.out.get 1 (.string e19)
  have t2 := HT7.out.get 2 (.string ⟨#[]⟩)
  have t3 := HT7.out.get 3 (.int .i64 0)
  have a0 := HA7.out.get 0 (.int .i64 4)
  have a1 := HA7.out.get 1 (.string ⟨#[]⟩)
  have a2 := HA7.out.get 2 (.bool false)
  have a3 := HA7.out.get 3 (.slice none 0 0)
  have f0 := HF7.out.get 0 (.string ⟨#[]⟩)
  have f1 := HF7.out.get 1 (.string e19)
  have f2 := HF7.out.get 2 (.slice none 0 0)
  have f3 := HF7.out.get 3 (.slice none 0 0)
  have f4 := HF7.out.get 4 (.slice none 0 0)
  go_wp2_with (go_at_call 7; refine (HMA.out _).mono ?_; rintro e w8 ⟨rfl, hb8⟩; refine Hid.out ?_)
  refine Lib.hid ?_
  have HT8 := Lib.hid (HT7.out.below hb8)
  have HA8 := Lib.hid (HA7.out.below hb8)
  have HV8 := Lib.hid (HV7.out.below hb8)
  have HB8 := Lib.hid (HB7.out.below hb8)
  have HE8 := Lib.hid (HE7.out.trans (hb8.mono HE7.out.size))
  clear t0 t1 t2 t3 a0 a1 a2 a3 f0 f1 f2 f3 f4 hb8 HT7 HA7 HF7 HV7 HB7 HE7 HMA
  have t0 := HT8.out.get 0 (.int .i64 1)
  have t1 := HT8.out.get 1 (.string e19)
  have t2 := HT8.out.get 2 (.string ⟨#[]⟩)
  have t3 := HT8.out.get 3 (.int .i64 0)
  have a0 := HA8.out.get 0 (.int .i64 4)
  have a1 := HA8.out.get 1 (.string ⟨#[]⟩)
  have a2 := HA8.out.get 2 (.bool false)
  have a3 := HA8.out.get 3 (.slice none 0 0)
  have hal9 := (Below.refl w8.heap.size w8).alloc (Nat.le_refl _) (.cells #[.int .i64 0, .int .i64 1, .string e19, .string ⟨#[]⟩, .int .i64 0, .int .i64 4, .string ⟨#[]⟩, .bool false, .slice none 0 0] 52)
  have HX9 := Lib.hid (Cs.new w8 #[.int .i64 0, .int .i64 1, .string e19, .string ⟨#[]⟩, .int .i64 0, .int .i64 4, .string ⟨#[]⟩, .bool false, .slice none 0 0] 52 [.int .i64 0, .int .i64 1, .string e19, .string ⟨#[]⟩, .int .i64 0, .int .i64 4, .string ⟨#[]⟩, .bool false, .slice none 0 0])
  have HV9 := Lib.hid (HV8.out.below hal9)
  have HB9 := Lib.hid (HB8.out.below hal9)
  have HE9 := Lib.hid (HE8.out.trans (hal9.mono HE8.out.size))
  clear hal9 HT8 HA8 HV8 HB8 HE8
  go_upto_region 13 with fail
  generalize w8.alloc (.cells #[.int .i64 0, .int .i64 1, .string e19, .string ⟨#[]⟩, .int .i64 0, .int .i64 4, .string ⟨#[]⟩, .bool false, .slice none 0 0] 52) = W9 at HX9 HV9 HB9 HE9 ⊢
  generalize w8.heap.size = P15 at HX9 ⊢
  clear t0 t1 t2 t3 a0 a1 a2 a3
  have hB10 := Cs.all9 HB9.out (.int .i64 0) (.int .i64 1) (.string e19) (.string ⟨#[]⟩) (.int .i64 0) (.int .i64 4) (.string ⟨#[]⟩) (.bool false) (.slice none 0 0)
  have hV10 := Cs.other9 HV9.out (P := w.heap.size + 1 + 1) (by omega) (.int .i64 0) (.int .i64 1) (.string e19) (.string ⟨#[]⟩) (.int .i64 0) (.int .i64 4) (.string ⟨#[]⟩) (.bool false) (.slice none 0 0)
  have hE10 := below_all9 HE9.out (P := w.heap.size + 1 + 1) (by omega) (.int .i64 0) (.int .i64 1) (.string e19) (.string ⟨#[]⟩) (.int .i64 0) (.int .i64 4) (.string ⟨#[]⟩) (.bool false) (.slice none 0 0)
  have HB10 := Lib.hid hB10
  have HV10 := Lib.hid hV10
  have HE10 := Lib.hid hE10
  clear hB10 hV10 hE10
  have x0 := HX9.out.get 0 (.int .i64 0)
  have x1 := HX9.out.get 1 (.int .i64 1)
  have x2 := HX9.out.get 2 (.string e19)
  have x3 := HX9.out.get 3 (.string ⟨#[]⟩)
  have x4 := HX9.out.get 4 (.int .i64 0)
  have x5 := HX9.out.get 5 (.int .i64 4)
  have x6 := HX9.out.get 6 (.string ⟨#[]⟩)
  have x7 := HX9.out.get 7 (.bool false)
  have x8 := HX9.out.get 8 (.slice none 0 0)
  have b0 := HB9.out.get 0 (.int .i64 0)
  have b1 := HB9.out.get 1 (.int .i64 0)
  have b2 := HB9.out.get 2 (.string ⟨#[]⟩)
  have b3 := HB9.out.get 3 (.string ⟨#[]⟩)
  have b4 := HB9.out.get 4 (.int .i64 0)
  have b5 := HB9.out.get 5 (.int .i64 0)
  have b6 := HB9.out.get 6 (.string ⟨#[]⟩)
  have b7 := HB9.out.get 7 (.bool false)
  have b8 := HB9.out.get 8 (.slice none 0 0)
  have z0 := HB9.out.froz 0 (by simp)
  have z1 := HB9.out.froz 1 (by simp)
  have z2 := HB9.out.froz 2 (by simp)
  have z3 := HB9.out.froz 3 (by simp)
  have z4 := HB9.out.froz 4 (by simp)
  have z5 := HB9.out.froz 5 (by simp)
  have z6 := HB9.out.froz 6 (by simp)
  have z7 := HB9.out.froz 7 (by simp)
  have z8 := HB9.out.froz 8 (by simp)
  clear HX9 HB9 HV9 HE9
  go_upto_region 14 with fail
  generalize (World.setCell (World.setCell (World.setCell (World.setCell (World.setCell (World.setCell (World.setCell (World.setCell (World.setCell W9 ⟨w.heap.size + 1 + 1, 0, none⟩ (.int .i64 0)) ⟨w.heap.size + 1 + 1, 1, none⟩ (.int .i64 1)) ⟨w.heap.size + 1 + 1, 2, none⟩ (.string e19)) ⟨w.heap.size + 1 + 1, 3, none⟩ (.string ⟨#[]⟩)) ⟨w.heap.size + 1 + 1, 4, none⟩ (.int .i64 0)) ⟨w.heap.size + 1 + 1, 5, none⟩ (.int .i64 4)) ⟨w.heap.size + 1 + 1, 6, none⟩ (.string ⟨#[]⟩)) ⟨w.heap.size + 1 + 1, 7, none⟩ (.bool false)) ⟨w.heap.size + 1 + 1, 8, none⟩ (.slice none 0 0)) = W10 at HB10 HV10 HE10 ⊢
  clear x0 x1 x2 x3 x4 x5 x6 x7 x8 b0 b1 b2 b3 b4 b5 b6 b7 b8 z0 z1 z2 z3 z4 z5 z6 z7 z8
  go_wp2_with fail
  rw [rounds_succ]
  go_wp2_with fail
  rw [rounds_succ]
  have hV10 := HV10.out
  have hB10 := HB10.out
  have b0 := hB10.get 0 (.int .i64 0)
  have b1 := hB10.get 1 (.int .i64 1)
  have b2 := hB10.get 2 (.string e19)
  have b3 := hB10.get 3 (.string ⟨#[]⟩)
  have b4 := hB10.get 4 (.int .i64 0)
  have b5 := hB10.get 5 (.int .i64 4)
  have b6 := hB10.get 6 (.string ⟨#[]⟩)
  have b7 := hB10.get 7 (.bool false)
  have b8 := hB10.get 8 (.slice none 0 0)
  have v0 := hV10.get 0 (.int .i64 0)
  have v1 := hV10.get 1 (.int .i64 0)
  have v2 := hV10.get 2 (.string ⟨#[]⟩)
  have v3 := hV10.get 3 (.string ⟨#[]⟩)
  have v4 := hV10.get 4 (.int .i64 0)
  have v5 := hV10.get 5 (.int .i64 0)
  have v6 := hV10.get 6 (.string ⟨#[]⟩)
  have v7 := hV10.get 7 (.bool false)
  have v8 := hV10.get 8 (.slice none 0 0)
  have z0 := hV10.froz 0 (by simp)
  have z1 := hV10.froz 1 (by simp)
  have z2 := hV10.froz 2 (by simp)
  have z3 := hV10.froz 3 (by simp)
  have z4 := hV10.froz 4 (by simp)
  have z5 := hV10.froz 5 (by simp)
  have z6 := hV10.froz 6 (by simp)
  have z7 := hV10.froz 7 (by simp)
  have z8 := hV10.froz 8 (by simp)
  clear hV10 hB10 HB10
  go_wp2_with fail
  refine bodyPost_ret (v := .tuple #[.agg #[.int .i64 0, .int .i64 1, .string e19, .string ⟨#[]⟩, .int .i64 0, .int .i64 4, .string ⟨#[]⟩, .bool false, .slice none 0 0], .bool true]) ?_ rfl ⟨rfl, below_all9 HE10.out (P := w.heap.size + 1) (Nat.le_succ _) (.int .i64 0) (.int .i64 1) (.string e19) (.string ⟨#[]⟩) (.int .i64 0) (.int .i64 4) (.string ⟨#[]⟩) (.bool false) (.slice none 0 0)⟩
  have hfin := Cs.all9 HV10.out (.int .i64 0) (.int .i64 1) (.string e19) (.string ⟨#[]⟩) (.int .i64 0) (.int .i64 4) (.string ⟨#[]⟩) (.bool false) (.slice none 0 0)
  have g0 := hfin.get 0 (.int .i64 0)
  have g1 := hfin.get 1 (.int .i64 1)
  have g2 := hfin.get 2 (.string e19)
  have g3 := hfin.get 3 (.string ⟨#[]⟩)
  have g4 := hfin.get 4 (.int .i64 0)
  have g5 := hfin.get 5 (.int .i64 4)
  have g6 := hfin.get 6 (.string ⟨#[]⟩)
  have g7 := hfin.get 7 (.bool false)
  have g8 := hfin.get 8 (.slice none 0 0)
  generalize (World.setCell (World.setCell (World.setCell (World.setCell (World.setCell (World.setCell (World.setCell (World.setCell (World.setCell W10 ⟨w.heap.size + 1, 0, none⟩ (.int .i64 0)) ⟨w.heap.size + 1, 1, none⟩ (.int .i64 1)) ⟨w.heap.size + 1, 2, none⟩ (.string e19)) ⟨w.heap.size + 1, 3, none⟩ (.string ⟨#[]⟩)) ⟨w.heap.size + 1, 4, none⟩ (.int .i64 0)) ⟨w.heap.size + 1, 5, none⟩ (.int .i64 4)) ⟨w.heap.size + 1, 6, none⟩ (.string ⟨#[]⟩)) ⟨w.heap.size + 1, 7, none⟩ (.bool false)) ⟨w.heap.size + 1, 8, none⟩ (.slice none 0 0)) = WF at g0 g1 g2 g3 g4 g5 g6 g7 g8 ⊢
  simp [results, Tryd.results12, go_sem, g0, g1, g2, g3, g4, g5, g6, g7, g8]
end Go.Proofs.YtkdknfedieeenaaDoor
namespace Go.Proofs.YtkdknfedieeenaaDoor
open Go.RowKit
set_option linter.unusedVariables false
set_option linter.unusedSimpArgs false
set_option maxRecDepth 20000
attribute [local simp] putsF isV wordOf Deps Region.binds Region.wanted Act.put wantedX isB
theorem sr_follows : Tryd.prog.follows .mixedOrders = true := by kernel_rfl

set_option maxHeartbeats 16000000 in
theorem searchLess_of (w : World) (k1 : Int) (hk1 : (Lit.int .i64 k1).wf = true) (n1 : ByteArray) (hn1 : n1.size ≤ 140737488351232) (a1 : ByteArray) (ha1 : a1.size ≤ 140737488351232) (x1 : Int) (hx1 : (Lit.int .i64 x1).wf = true)
    (k2 : Int) (hk2 : (Lit.int .i64 k2).wf = true) (n2 : ByteArray) (hn2 : n2.size ≤ 140737488351232) (a2 : ByteArray) (ha2 : a2.size ≤ 140737488351232) (x2 : Int) (hx2 : (Lit.int .i64 x2).wf = true)
    (k3 : Int) (hk3 : (Lit.int .i64 k3).wf = true) (n3 : ByteArray) (hn3 : n3.size ≤ 140737488351232) (a3 : ByteArray) (ha3 : a3.size ≤ 140737488351232) (x3 : Int) (hx3 : (Lit.int .i64 x3).wf = true)
    (hAW : ∀ W, Below w.heap.size w W → Calls Tryd.prog 5 #[] W fun e w' => e = .returned (.bool true) ∧ Below W.heap.size W w') :
    Calls Tryd.prog 4 #[.agg #[.int .i64 k1, .string n1, .string a1, .int .i64 x1], .agg #[.int .i64 k2, .string n2, .string a2, .int .i64 x2], .agg #[.int .i64 k3, .string n3, .string a3, .int .i64 x3]] w fun e w' => e = .returned (.bool true) ∧ Below w.heap.size w w' := by
  obtain ⟨W1, hW1⟩ : ∃ W, W = w.alloc (.cells #[.int .i64 k1, .string n1, .string a1, .int .i64 x1] 33) := ⟨_, rfl⟩
  obtain ⟨W2, hW2⟩ : ∃ W, W = W1.alloc (.cells #[.int .i64 k2, .string n2, .string a2, .int .i64 x2] 33) := ⟨_, rfl⟩
  obtain ⟨W0, hW0⟩ : ∃ W, W = W2.alloc (.cells #[.int .i64 k3, .string n3, .string a3, .int .i64 x3] 33) := ⟨_, rfl⟩
  have e1 : W1.heap.size = w.heap.size + 1 := by rw [hW1]; simp
  have e2 : W2.heap.size = w.heap.size + 2 := by rw [hW2]; simp [e1]
  have hA : Cs W0 w.heap.size [.int .i64 k1, .string n1, .string a1, .int .i64 x1] := by rw [hW0, hW2, hW1]; exact ((Cs.new w _ _ _).alloc _).alloc _
  have hB : Cs W0 (w.heap.size + 1) [.int .i64 k2, .string n2, .string a2, .int .i64 x2] := by rw [hW0, hW2]; exact ((Cs.new W1 _ _ _).at_ _ e1).alloc _
  have hC : Cs W0 (w.heap.size + 2) [.int .i64 k3, .string n3, .string a3, .int .i64 x3] := by rw [hW0]; exact (Cs.new W2 _ _ _).at_ _ e2
  have hbel : Below w.heap.size w W0 := by
    rw [hW0, hW2, hW1]
    have h1 := (Below.refl w.heap.size w).alloc (Nat.le_refl _) (.cells #[.int .i64 k1, .string n1, .string a1, .int .i64 x1] 33)
    have h2 := h1.alloc h1.size (.cells #[.int .i64 k2, .string n2, .string a2, .int .i64 x2] 33)
    exact h2.alloc h2.size _
  have hWW : W0 = ((w.alloc (.cells #[.int .i64 k1, .string n1, .string a1, .int .i64 x1] 33)).alloc (.cells #[.int .i64 k2, .string n2, .string a2, .int .i64 x2] 33)).alloc (.cells #[.int .i64 k3, .string n3, .string a3, .int .i64 x3] 33) := by rw [hW0, hW2, hW1]
  have HAW := Lib.hid (hAW W0 hbel)
  have HWW := Lib.hid hWW
  have HA := Lib.hid hA
  have HB := Lib.hid hB
  have HC := Lib.hid hC
  have HBEL := Lib.hid hbel
  have L11 := lessT_self (n1, a1)
  have E12 := lessT_either (n1, a1) (n2, a2)
  obtain ⟨b12, h12⟩ : ∃ b, lessT (n1, a1) (n2, a2) = b := ⟨_, rfl⟩
  obtain ⟨b21, h21⟩ : ∃ b, lessT (n2, a2) (n1, a1) = b := ⟨_, rfl⟩
  obtain ⟨b23, h23⟩ : ∃ b, lessT (n2, a2) (n3, a3) = b := ⟨_, rfl⟩
  obtain ⟨b13, h13⟩ : ∃ b, lessT (n1, a1) (n3, a3) = b := ⟨_, rfl⟩
  have hsw : b12 = true → b21 = false := fun h => by rw [← h21]; exact lessT_swap (by rw [h12, h])
  have htr : b12 = true → b23 = true → b13 = true := fun h h' => by rw [← h13]; exact lessT_trans (by rw [h12, h]) (by rw [h23, h'])
  rw [h12, h21] at E12
  have H11 := Lib.hid (fun w => sless_any k1 k1 n1 n1 a1 a1 x1 x1 w)
  have H12 := Lib.hid (fun w => sless_any k1 k2 n1 n2 a1 a2 x1 x2 w)
  have H21 := Lib.hid (fun w => sless_any k2 k1 n2 n1 a2 a1 x2 x1 w)
  have H23 := Lib.hid (fun w => sless_any k2 k3 n2 n3 a2 a3 x2 x3 w)
  have H13 := Lib.hid (fun w => sless_any k1 k3 n1 n3 a1 a3 x1 x3 w)
  rw [L11] at H11
  rw [h12] at H12
  rw [h21] at H21
  rw [h23] at H23
  rw [h13] at H13
  -- which of the two differ
  have hnE : (n1.toList == n2.toList) = decide (n1 = n2) := by
    rw [Bool.eq_iff_iff, beq_iff_eq, decide_eq_true_iff]; exact ⟨toList_inj _ _, fun h => by rw [h]⟩
  have haE : (a1.toList == a2.toList) = decide (a1 = a2) := by
    rw [Bool.eq_iff_iff, beq_iff_eq, decide_eq_true_iff]; exact ⟨toList_inj _ _, fun h => by rw [h]⟩
  have hpE : decide ((n1, a1) = (n2, a2)) = (decide (n1 = n2) && decide (a1 = a2)) := by
    rw [Bool.eq_iff_iff]; simp
  rw [hpE] at E12
  generalize decide (n1 = n2) = bn at hnE E12
  generalize decide (a1 = a2) = ba at haE E12
  clear hpE L11 h12 h21 h23 h13 hWW hA hB hC hbel hW0 hW1 hW2 e1 e2 hAW
  clear hk1 hn1 ha1 hx1 hk2 hn2 ha2 hx2 hk3 hn3 ha3 hx3
  go_enter Tryd.func4, Tryd.ntmps4
  go_wp2_with (go_at_call 5; rw [← HWW.out]; refine HAW.out.mono ?_; rintro e w1 ⟨rfl, hb1⟩; refine Hid.out ?_)
  refine Lib.hid ?_
  have HA1 := Lib.hid (HA.out.below hb1)
  have HB1 := Lib.hid (HB.out.below hb1)
  have HC1 := Lib.hid (HC.out.below hb1)
  have HD1 := Lib.hid (HBEL.out.trans (hb1.mono HBEL.out.size))
  clear hb1 HA HB HC HBEL HAW HWW
  have HTR := Lib.hid htr
  have HSW := Lib.hid hsw
  clear htr hsw
  cases b12 with
  | false =>
    have p0 := HA1.out.get 0 (.int .i64 k1)
    have p1 := HA1.out.get 1 (.string n1)
    have p2 := HA1.out.get 2 (.string a1)
    have p3 := HA1.out.get 3 (.int .i64 x1)
    have q0 := HB1.out.get 0 (.int .i64 k2)
    have q1 := HB1.out.get 1 (.string n2)
    have q2 := HB1.out.get 2 (.string a2)
    have q3 := HB1.out.get 3 (.int .i64 x2)
    have r0 := HC1.out.get 0 (.int .i64 k3)
    have r1 := HC1.out.get 1 (.string n3)
    have r2 := HC1.out.get 2 (.string a3)
    have r3 := HC1.out.get 3 (.int .i64 x3)
    go_wp2_with (go_at_call 10; refine (H11.out _).mono ?_; rintro e w2 ⟨rfl, hb2⟩; refine Hid.out ?_)
    refine Lib.hid ?_
    clear p0 q0 r0 p1 q1 r1 p2 q2 r2 p3 q3 r3
    have HA2 := Lib.hid (HA1.out.below hb2)
    have HB2 := Lib.hid (HB1.out.below hb2)
    have HC2 := Lib.hid (HC1.out.below hb2)
    have HD2 := Lib.hid (HD1.out.trans (hb2.mono HD1.out.size))
    clear hb2 HA1 HB1 HC1 HD1
    have p0 := HA2.out.get 0 (.int .i64 k1)
    have p1 := HA2.out.get 1 (.string n1)
    have p2 := HA2.out.get 2 (.string a1)
    have p3 := HA2.out.get 3 (.int .i64 x1)
    have q0 := HB2.out.get 0 (.int .i64 k2)
    have q1 := HB2.out.get 1 (.string n2)
    have q2 := HB2.out.get 2 (.string a2)
    have q3 := HB2.out.get 3 (.int .i64 x2)
    have r0 := HC2.out.get 0 (.int .i64 k3)
    have r1 := HC2.out.get 1 (.string n3)
    have r2 := HC2.out.get 2 (.string a3)
    have r3 := HC2.out.get 3 (.int .i64 x3)
    go_wp2_with (go_at_call 10; refine (H12.out _).mono ?_; rintro e w3 ⟨rfl, hb3⟩; refine Hid.out ?_)
    refine Lib.hid ?_
    clear p0 q0 r0 p1 q1 r1 p2 q2 r2 p3 q3 r3
    have HA3 := Lib.hid (HA2.out.below hb3)
    have HB3 := Lib.hid (HB2.out.below hb3)
    have HC3 := Lib.hid (HC2.out.below hb3)
    have HD3 := Lib.hid (HD2.out.trans (hb3.mono HD2.out.size))
    clear hb3 HA2 HB2 HC2 HD2
    have p0 := HA3.out.get 0 (.int .i64 k1)
    have p1 := HA3.out.get 1 (.string n1)
    have p2 := HA3.out.get 2 (.string a1)
    have p3 := HA3.out.get 3 (.int .i64 x1)
    have q0 := HB3.out.get 0 (.int .i64 k2)
    have q1 := HB3.out.get 1 (.string n2)
    have q2 := HB3.out.get 2 (.string a2)
    have q3 := HB3.out.get 3 (.int .i64 x2)
    have r0 := HC3.out.get 0 (.int .i64 k3)
    have r1 := HC3.out.get 1 (.string n3)
    have r2 := HC3.out.get 2 (.string a3)
    have r3 := HC3.out.get 3 (.int .i64 x3)
    go_wp2_with (go_at_call 10; refine (H12.out _).mono ?_; rintro e w4 ⟨rfl, hb4⟩; refine Hid.out ?_)
    refine Lib.hid ?_
    clear p0 q0 r0 p1 q1 r1 p2 q2 r2 p3 q3 r3
    have HA4 := Lib.hid (HA3.out.below hb4)
    have HB4 := Lib.hid (HB3.out.below hb4)
    have HC4 := Lib.hid (HC3.out.below hb4)
    have HD4 := Lib.hid (HD3.out.trans (hb4.mono HD3.out.size))
    clear hb4 HA3 HB3 HC3 HD3
    cases b21 with
    | false =>
      cases bn with
      | false =>
        simp at E12
      | true =>
        cases ba with
        | false =>
          simp at E12
        | true =>
          have HNE := Lib.hid hnE
          have HAE := Lib.hid haE
          clear hnE haE
          go_upto_region 5 with fail
          refine wp_region_goesG sr_follows (fun x => by simp [putsF, Act.put]; rfl) w4.heap.size w4
            [isV (.agg #[.int .i64 k1, .string n1, .string a1, .int .i64 x1]), isV (.agg #[.int .i64 k2, .string n2, .string a2, .int .i64 x2]), isV (.bool false), isV (.bool false), isV (.agg #[.int .i64 k2, .string n2, .string a2, .int .i64 x2]), isV (.agg #[.int .i64 k1, .string n1, .string a1, .int .i64 x1]), isV (.bool false), isV (.bool false), isV (.pointer (some ⟨w.heap.size, 1, none⟩)), isV (.string n1), isV (.pointer (some ⟨w.heap.size + 1, 1, none⟩)), isV (.string n2), isV (.bool false), isV (.bool false), isV (.pointer (some ⟨w.heap.size, 2, none⟩)), isV (.pointer (some ⟨w.heap.size, 2, none⟩)), isV (.string a1), isV (.pointer (some ⟨w.heap.size + 1, 2, none⟩)), isV (.pointer (some ⟨w.heap.size + 1, 2, none⟩)), isV (.string a2), isV (.bool false), isV (.bool false), isV (.bool true), isV (.bool true)]
            (by kernel_rfl) (by kernel_rfl) (by kernel_rfl) rfl ?_ (Below.refl _ _) ?_ ?_
          · repeat (first | exact trivial | refine ⟨by first | exact isV_stays _ , ?_⟩)
          · refine ⟨?_, ?_, ?_, ?_, ?_, ?_, ?_, ?_, ?_, ?_, ?_, ?_, ?_, ?_, ?_, ?_, ?_, ?_, ?_, ?_, ?_, ?_, ?_, ?_, trivial⟩
            all_goals
              intro x wx hR hd
              simp at hd ⊢
              try simp [hd]
            all_goals try exact fun hX => absurd (show (false : Bool) = true from hX) (by decide)
            · have hq := HA4.out.below hR
              have q0 := hq.get 0 (.int .i64 k1)
              have q1 := hq.get 1 (.string n1)
              have q2 := hq.get 2 (.string a1)
              have q3 := hq.get 3 (.int .i64 x1)
              clear hq
              go_simp
              exact next_same _ rfl rfl hR
            · have hq := HB4.out.below hR
              have q0 := hq.get 0 (.int .i64 k2)
              have q1 := hq.get 1 (.string n2)
              have q2 := hq.get 2 (.string a2)
              have q3 := hq.get 3 (.int .i64 x2)
              clear hq
              go_simp
              exact next_same _ rfl rfl hR
            · go_simp
              go_at_call 10
              refine (H12.out wx).mono ?_
              rintro e wy ⟨rfl, hby⟩
              exact next_call _ rfl rfl hR hR.size hby
            · go_simp
              exact next_same _ rfl rfl hR
            · have hq := HB4.out.below hR
              have q0 := hq.get 0 (.int .i64 k2)
              have q1 := hq.get 1 (.string n2)
              have q2 := hq.get 2 (.string a2)
              have q3 := hq.get 3 (.int .i64 x2)
              clear hq
              go_simp
              exact next_same _ rfl rfl hR
            · have hq := HA4.out.below hR
              have q0 := hq.get 0 (.int .i64 k1)
              have q1 := hq.get 1 (.string n1)
              have q2 := hq.get 2 (.string a1)
              have q3 := hq.get 3 (.int .i64 x1)
              clear hq
              go_simp
              exact next_same _ rfl rfl hR
            · go_simp
              go_at_call 10
              refine (H21.out wx).mono ?_
              rintro e wy ⟨rfl, hby⟩
              exact next_call _ rfl rfl hR hR.size hby
            · go_simp
              exact next_same _ rfl rfl hR
            · go_simp
              exact next_same _ rfl rfl hR
            · have hq := HA4.out.below hR
              have q0 := hq.get 0 (.int .i64 k1)
              have q1 := hq.get 1 (.string n1)
              have q2 := hq.get 2 (.string a1)
              have q3 := hq.get 3 (.int .i64 x1)
              clear hq
              go_simp
              exact next_same _ rfl rfl hR
            · go_simp
              exact next_same _ rfl rfl hR
            · have hq := HB4.out.below hR
              have q0 := hq.get 0 (.int .i64 k2)
              have q1 := hq.get 1 (.string n2)
              have q2 := hq.get 2 (.string a2)
              have q3 := hq.get 3 (.int .i64 x2)
              clear hq
              go_simp
              exact next_same _ rfl rfl hR
            · have hb := HNE.out
              go_simp
              exact next_same _ rfl rfl hR
            · go_simp
              exact next_same _ rfl rfl hR
            · go_simp
              exact next_same _ rfl rfl hR
            · go_simp
              exact next_same _ rfl rfl hR
            · have hq := HA4.out.below hR
              have q0 := hq.get 0 (.int .i64 k1)
              have q1 := hq.get 1 (.string n1)
              have q2 := hq.get 2 (.string a1)
              have q3 := hq.get 3 (.int .i64 x1)
              clear hq
              go_simp
              exact next_same _ rfl rfl hR
            · go_simp
              exact next_same _ rfl rfl hR
            · go_simp
              exact next_same _ rfl rfl hR
            · have hq := HB4.out.below hR
              have q0 := hq.get 0 (.int .i64 k2)
              have q1 := hq.get 1 (.string n2)
              have q2 := hq.get 2 (.string a2)
              have q3 := hq.get 3 (.int .i64 x2)
              clear hq
              go_simp
              exact next_same _ rfl rfl hR
            · have hb := HAE.out
              go_simp
              exact next_same _ rfl rfl hR
            · go_simp
              exact next_same _ rfl rfl hR
            · go_simp
              exact next_same _ rfl rfl hR
            · go_simp
              exact next_same _ rfl rfl hR
          intro x wz hR hx
          simp [AllWords] at hx
          have hx23 : x 23 = .bool true := by simp [hx]
          clear hx
          rw [hx23]
          have HBZ := Lib.hid (HD4.out.trans (hR.mono HD4.out.size))
          clear hx23 hR
          go_wp2_with fail
          go_ret
          exact ⟨rfl, HBZ.out⟩
    | true =>
      cases bn with
      | false =>
        have HNE := Lib.hid hnE
        have HAE := Lib.hid haE
        clear hnE haE
        go_upto_region 5 with fail
        refine wp_region_goesG sr_follows (fun x => by simp [putsF, Act.put]; rfl) w4.heap.size w4
          [isV (.agg #[.int .i64 k1, .string n1, .string a1, .int .i64 x1]), isV (.agg #[.int .i64 k2, .string n2, .string a2, .int .i64 x2]), isV (.bool false), isV (.bool false), isV (.agg #[.int .i64 k2, .string n2, .string a2, .int .i64 x2]), isV (.agg #[.int .i64 k1, .string n1, .string a1, .int .i64 x1]), isV (.bool true), isV (.bool true), isV (.pointer (some ⟨w.heap.size, 1, none⟩)), isV (.string n1), isV (.pointer (some ⟨w.heap.size + 1, 1, none⟩)), isV (.string n2), isV (.bool true), isV (.bool true), isV undef, isV undef, isV undef, isV undef, isV undef, isV undef, isV undef, isV (.bool true), isV (.bool true), isV (.bool true)]
          (by kernel_rfl) (by kernel_rfl) (by kernel_rfl) rfl ?_ (Below.refl _ _) ?_ ?_
        · repeat (first | exact trivial | refine ⟨by first | exact isV_stays _ , ?_⟩)
        · refine ⟨?_, ?_, ?_, ?_, ?_, ?_, ?_, ?_, ?_, ?_, ?_, ?_, ?_, ?_, ?_, ?_, ?_, ?_, ?_, ?_, ?_, ?_, ?_, ?_, trivial⟩
          all_goals
            intro x wx hR hd
            simp at hd ⊢
            try simp [hd]
          all_goals try exact fun hX => absurd (show (false : Bool) = true from hX) (by decide)
          · have hq := HA4.out.below hR
            have q0 := hq.get 0 (.int .i64 k1)
            have q1 := hq.get 1 (.string n1)
            have q2 := hq.get 2 (.string a1)
            have q3 := hq.get 3 (.int .i64 x1)
            clear hq
            go_simp
            exact next_same _ rfl rfl hR
          · have hq := HB4.out.below hR
            have q0 := hq.get 0 (.int .i64 k2)
            have q1 := hq.get 1 (.string n2)
            have q2 := hq.get 2 (.string a2)
            have q3 := hq.get 3 (.int .i64 x2)
            clear hq
            go_simp
            exact next_same _ rfl rfl hR
          · go_simp
            go_at_call 10
            refine (H12.out wx).mono ?_
            rintro e wy ⟨rfl, hby⟩
            exact next_call _ rfl rfl hR hR.size hby
          · go_simp
            exact next_same _ rfl rfl hR
          · have hq := HB4.out.below hR
            have q0 := hq.get 0 (.int .i64 k2)
            have q1 := hq.get 1 (.string n2)
            have q2 := hq.get 2 (.string a2)
            have q3 := hq.get 3 (.int .i64 x2)
            clear hq
            go_simp
            exact next_same _ rfl rfl hR
          · have hq := HA4.out.below hR
            have q0 := hq.get 0 (.int .i64 k1)
            have q1 := hq.get 1 (.string n1)
            have q2 := hq.get 2 (.string a1)
            have q3 := hq.get 3 (.int .i64 x1)
            clear hq
            go_simp
            exact next_same _ rfl rfl hR
          · go_simp
            go_at_call 10
            refine (H21.out wx).mono ?_
            rintro e wy ⟨rfl, hby⟩
            exact next_call _ rfl rfl hR hR.size hby
          · go_simp
            exact next_same _ rfl rfl hR
          · go_simp
            exact next_same _ rfl rfl hR
          · have hq := HA4.out.below hR
            have q0 := hq.get 0 (.int .i64 k1)
            have q1 := hq.get 1 (.string n1)
            have q2 := hq.get 2 (.string a1)
            have q3 := hq.get 3 (.int .i64 x1)
            clear hq
            go_simp
            exact next_same _ rfl rfl hR
          · go_simp
            exact next_same _ rfl rfl hR
          · have hq := HB4.out.below hR
            have q0 := hq.get 0 (.int .i64 k2)
            have q1 := hq.get 1 (.string n2)
            have q2 := hq.get 2 (.string a2)
            have q3 := hq.get 3 (.int .i64 x2)
            clear hq
            go_simp
            exact next_same _ rfl rfl hR
          · have hb := HNE.out
            go_simp
            exact next_same _ rfl rfl hR
          · go_simp
            exact next_same _ rfl rfl hR
          · go_simp
            exact next_same _ rfl rfl hR
          · go_simp
            exact next_same _ rfl rfl hR
          · go_simp
            exact next_same _ rfl rfl hR
        intro x wz hR hx
        simp [AllWords] at hx
        have hx23 : x 23 = .bool true := by simp [hx]
        clear hx
        rw [hx23]
        have HBZ := Lib.hid (HD4.out.trans (hR.mono HD4.out.size))
        clear hx23 hR
        go_wp2_with fail
        go_ret
        exact ⟨rfl, HBZ.out⟩
      | true =>
        cases ba with
        | false =>
          have HNE := Lib.hid hnE
          have HAE := Lib.hid haE
          clear hnE haE
          go_upto_region 5 with fail
          refine wp_region_goesG sr_follows (fun x => by simp [putsF, Act.put]; rfl) w4.heap.size w4
            [isV (.agg #[.int .i64 k1, .string n1, .string a1, .int .i64 x1]), isV (.agg #[.int .i64 k2, .string n2, .string a2, .int .i64 x2]), isV (.bool false), isV (.bool false), isV (.agg #[.int .i64 k2, .string n2, .string a2, .int .i64 x2]), isV (.agg #[.int .i64 k1, .string n1, .string a1, .int .i64 x1]), isV (.bool true), isV (.bool true), isV (.pointer (some ⟨w.heap.size, 1, none⟩)), isV (.string n1), isV (.pointer (some ⟨w.heap.size + 1, 1, none⟩)), isV (.string n2), isV (.bool false), isV (.bool false), isV (.pointer (some ⟨w.heap.size, 2, none⟩)), isV (.pointer (some ⟨w.heap.size, 2, none⟩)), isV (.string a1), isV (.pointer (some ⟨w.heap.size + 1, 2, none⟩)), isV (.pointer (some ⟨w.heap.size + 1, 2, none⟩)), isV (.string a2), isV (.bool true), isV (.bool true), isV (.bool true), isV (.bool true)]
            (by kernel_rfl) (by kernel_rfl) (by kernel_rfl) rfl ?_ (Below.refl _ _) ?_ ?_
          · repeat (first | exact trivial | refine ⟨by first | exact isV_stays _ , ?_⟩)
          · refine ⟨?_, ?_, ?_, ?_, ?_, ?_, ?_, ?_, ?_, ?_, ?_, ?_, ?_, ?_, ?_, ?_, ?_, ?_, ?_, ?_, ?_, ?_, ?_, ?_, trivial⟩
            all_goals
              intro x wx hR hd
              simp at hd ⊢
              try simp [hd]
            all_goals try exact fun hX => absurd (show (false : Bool) = true from hX) (by decide)
            · have hq := HA4.out.below hR
              have q0 := hq.get 0 (.int .i64 k1)
              have q1 := hq.get 1 (.string n1)
              have q2 := hq.get 2 (.string a1)
              have q3 := hq.get 3 (.int .i64 x1)
              clear hq
              go_simp
              exact next_same _ rfl rfl hR
            · have hq := HB4.out.below hR
              have q0 := hq.get 0 (.int .i64 k2)
              have q1 := hq.get 1 (.string n2)
              have q2 := hq.get 2 (.string a2)
              have q3 := hq.get 3 (.int .i64 x2)
              clear hq
              go_simp
              exact next_same _ rfl rfl hR
            · go_simp
              go_at_call 10
              refine (H12.out wx).mono ?_
              rintro e wy ⟨rfl, hby⟩
              exact next_call _ rfl rfl hR hR.size hby
            · go_simp
              exact next_same _ rfl rfl hR
            · have hq := HB4.out.below hR
              have q0 := hq.get 0 (.int .i64 k2)
              have q1 := hq.get 1 (.string n2)
              have q2 := hq.get 2 (.string a2)
              have q3 := hq.get 3 (.int .i64 x2)
              clear hq
              go_simp
              exact next_same _ rfl rfl hR
            · have hq := HA4.out.below hR
              have q0 := hq.get 0 (.int .i64 k1)
              have q1 := hq.get 1 (.string n1)
              have q2 := hq.get 2 (.string a1)
              have q3 := hq.get 3 (.int .i64 x1)
              clear hq
              go_simp
              exact next_same _ rfl rfl hR
            · go_simp
              go_at_call 10
              refine (H21.out wx).mono ?_
              rintro e wy ⟨rfl, hby⟩
              exact next_call _ rfl rfl hR hR.size hby
            · go_simp
              exact next_same _ rfl rfl hR
            · go_simp
              exact next_same _ rfl rfl hR
            · have hq := HA4.out.below hR
              have q0 := hq.get 0 (.int .i64 k1)
              have q1 := hq.get 1 (.string n1)
              have q2 := hq.get 2 (.string a1)
              have q3 := hq.get 3 (.int .i64 x1)
              clear hq
              go_simp
              exact next_same _ rfl rfl hR
            · go_simp
              exact next_same _ rfl rfl hR
            · have hq := HB4.out.below hR
              have q0 := hq.get 0 (.int .i64 k2)
              have q1 := hq.get 1 (.string n2)
              have q2 := hq.get 2 (.string a2)
              have q3 := hq.get 3 (.int .i64 x2)
              clear hq
              go_simp
              exact next_same _ rfl rfl hR
            · have hb := HNE.out
              go_simp
              exact next_same _ rfl rfl hR
            · go_simp
              exact next_same _ rfl rfl hR
            · go_simp
              exact next_same _ rfl rfl hR
            · go_simp
              exact next_same _ rfl rfl hR
            · have hq := HA4.out.below hR
              have q0 := hq.get 0 (.int .i64 k1)
              have q1 := hq.get 1 (.string n1)
              have q2 := hq.get 2 (.string a1)
              have q3 := hq.get 3 (.int .i64 x1)
              clear hq
              go_simp
              exact next_same _ rfl rfl hR
            · go_simp
              exact next_same _ rfl rfl hR
            · go_simp
              exact next_same _ rfl rfl hR
            · have hq := HB4.out.below hR
              have q0 := hq.get 0 (.int .i64 k2)
              have q1 := hq.get 1 (.string n2)
              have q2 := hq.get 2 (.string a2)
              have q3 := hq.get 3 (.int .i64 x2)
              clear hq
              go_simp
              exact next_same _ rfl rfl hR
            · have hb := HAE.out
              go_simp
              exact next_same _ rfl rfl hR
            · go_simp
              exact next_same _ rfl rfl hR
            · go_simp
              exact next_same _ rfl rfl hR
            · go_simp
              exact next_same _ rfl rfl hR
          intro x wz hR hx
          simp [AllWords] at hx
          have hx23 : x 23 = .bool true := by simp [hx]
          clear hx
          rw [hx23]
          have HBZ := Lib.hid (HD4.out.trans (hR.mono HD4.out.size))
          clear hx23 hR
          go_wp2_with fail
          go_ret
          exact ⟨rfl, HBZ.out⟩
        | true =>
          simp at E12
  | true =>
    obtain rfl := HSW.out (by first | rfl | trivial)
    have p0 := HA1.out.get 0 (.int .i64 k1)
    have p1 := HA1.out.get 1 (.string n1)
    have p2 := HA1.out.get 2 (.string a1)
    have p3 := HA1.out.get 3 (.int .i64 x1)
    have q0 := HB1.out.get 0 (.int .i64 k2)
    have q1 := HB1.out.get 1 (.string n2)
    have q2 := HB1.out.get 2 (.string a2)
    have q3 := HB1.out.get 3 (.int .i64 x2)
    have r0 := HC1.out.get 0 (.int .i64 k3)
    have r1 := HC1.out.get 1 (.string n3)
    have r2 := HC1.out.get 2 (.string a3)
    have r3 := HC1.out.get 3 (.int .i64 x3)
    go_wp2_with (go_at_call 10; refine (H11.out _).mono ?_; rintro e w2 ⟨rfl, hb2⟩; refine Hid.out ?_)
    refine Lib.hid ?_
    clear p0 q0 r0 p1 q1 r1 p2 q2 r2 p3 q3 r3
    have HA2 := Lib.hid (HA1.out.below hb2)
    have HB2 := Lib.hid (HB1.out.below hb2)
    have HC2 := Lib.hid (HC1.out.below hb2)
    have HD2 := Lib.hid (HD1.out.trans (hb2.mono HD1.out.size))
    clear hb2 HA1 HB1 HC1 HD1
    have p0 := HA2.out.get 0 (.int .i64 k1)
    have p1 := HA2.out.get 1 (.string n1)
    have p2 := HA2.out.get 2 (.string a1)
    have p3 := HA2.out.get 3 (.int .i64 x1)
    have q0 := HB2.out.get 0 (.int .i64 k2)
    have q1 := HB2.out.get 1 (.string n2)
    have q2 := HB2.out.get 2 (.string a2)
    have q3 := HB2.out.get 3 (.int .i64 x2)
    have r0 := HC2.out.get 0 (.int .i64 k3)
    have r1 := HC2.out.get 1 (.string n3)
    have r2 := HC2.out.get 2 (.string a3)
    have r3 := HC2.out.get 3 (.int .i64 x3)
    go_wp2_with (go_at_call 10; refine (H12.out _).mono ?_; rintro e w3 ⟨rfl, hb3⟩; refine Hid.out ?_)
    refine Lib.hid ?_
    clear p0 q0 r0 p1 q1 r1 p2 q2 r2 p3 q3 r3
    have HA3 := Lib.hid (HA2.out.below hb3)
    have HB3 := Lib.hid (HB2.out.below hb3)
    have HC3 := Lib.hid (HC2.out.below hb3)
    have HD3 := Lib.hid (HD2.out.trans (hb3.mono HD2.out.size))
    clear hb3 HA2 HB2 HC2 HD2
    have p0 := HA3.out.get 0 (.int .i64 k1)
    have p1 := HA3.out.get 1 (.string n1)
    have p2 := HA3.out.get 2 (.string a1)
    have p3 := HA3.out.get 3 (.int .i64 x1)
    have q0 := HB3.out.get 0 (.int .i64 k2)
    have q1 := HB3.out.get 1 (.string n2)
    have q2 := HB3.out.get 2 (.string a2)
    have q3 := HB3.out.get 3 (.int .i64 x2)
    have r0 := HC3.out.get 0 (.int .i64 k3)
    have r1 := HC3.out.get 1 (.string n3)
    have r2 := HC3.out.get 2 (.string a3)
    have r3 := HC3.out.get 3 (.int .i64 x3)
    go_wp2_with (go_at_call 10; refine (H21.out _).mono ?_; rintro e w4 ⟨rfl, hb4⟩; refine Hid.out ?_)
    refine Lib.hid ?_
    clear p0 q0 r0 p1 q1 r1 p2 q2 r2 p3 q3 r3
    have HA4 := Lib.hid (HA3.out.below hb4)
    have HB4 := Lib.hid (HB3.out.below hb4)
    have HC4 := Lib.hid (HC3.out.below hb4)
    have HD4 := Lib.hid (HD3.out.trans (hb4.mono HD3.out.size))
    clear hb4 HA3 HB3 HC3 HD3
    have p0 := HA4.out.get 0 (.int .i64 k1)
    have p1 := HA4.out.get 1 (.string n1)
    have p2 := HA4.out.get 2 (.string a1)
    have p3 := HA4.out.get 3 (.int .i64 x1)
    have q0 := HB4.out.get 0 (.int .i64 k2)
    have q1 := HB4.out.get 1 (.string n2)
    have q2 := HB4.out.get 2 (.string a2)
    have q3 := HB4.out.get 3 (.int .i64 x2)
    have r0 := HC4.out.get 0 (.int .i64 k3)
    have r1 := HC4.out.get 1 (.string n3)
    have r2 := HC4.out.get 2 (.string a3)
    have r3 := HC4.out.get 3 (.int .i64 x3)
    go_wp2_with (go_at_call 10; refine (H12.out _).mono ?_; rintro e w5 ⟨rfl, hb5⟩; refine Hid.out ?_)
    refine Lib.hid ?_
    clear p0 q0 r0 p1 q1 r1 p2 q2 r2 p3 q3 r3
    have HA5 := Lib.hid (HA4.out.below hb5)
    have HB5 := Lib.hid (HB4.out.below hb5)
    have HC5 := Lib.hid (HC4.out.below hb5)
    have HD5 := Lib.hid (HD4.out.trans (hb5.mono HD4.out.size))
    clear hb5 HA4 HB4 HC4 HD4
    have p0 := HA5.out.get 0 (.int .i64 k1)
    have p1 := HA5.out.get 1 (.string n1)
    have p2 := HA5.out.get 2 (.string a1)
    have p3 := HA5.out.get 3 (.int .i64 x1)
    have q0 := HB5.out.get 0 (.int .i64 k2)
    have q1 := HB5.out.get 1 (.string n2)
    have q2 := HB5.out.get 2 (.string a2)
    have q3 := HB5.out.get 3 (.int .i64 x2)
    have r0 := HC5.out.get 0 (.int .i64 k3)
    have r1 := HC5.out.get 1 (.string n3)
    have r2 := HC5.out.get 2 (.string a3)
    have r3 := HC5.out.get 3 (.int .i64 x3)
    go_wp2_with (go_at_call 10; refine (H23.out _).mono ?_; rintro e w6 ⟨rfl, hb6⟩; refine Hid.out ?_)
    refine Lib.hid ?_
    clear p0 q0 r0 p1 q1 r1 p2 q2 r2 p3 q3 r3
    have HA6 := Lib.hid (HA5.out.below hb6)
    have HB6 := Lib.hid (HB5.out.below hb6)
    have HC6 := Lib.hid (HC5.out.below hb6)
    have HD6 := Lib.hid (HD5.out.trans (hb6.mono HD5.out.size))
    clear hb6 HA5 HB5 HC5 HD5
    cases b23 with
    | false =>
      cases bn with
      | false =>
        have HNE := Lib.hid hnE
        have HAE := Lib.hid haE
        clear hnE haE
        go_upto_region 5 with fail
        refine wp_region_goesG sr_follows (fun x => by simp [putsF, Act.put]; rfl) w6.heap.size w6
          [isV (.agg #[.int .i64 k1, .string n1, .string a1, .int .i64 x1]), isV (.agg #[.int .i64 k2, .string n2, .string a2, .int .i64 x2]), isV (.bool true), isV (.bool true), isV undef, isV undef, isV undef, isV (.bool true), isV (.pointer (some ⟨w.heap.size, 1, none⟩)), isV (.string n1), isV (.pointer (some ⟨w.heap.size + 1, 1, none⟩)), isV (.string n2), isV (.bool true), isV (.bool true), isV undef, isV undef, isV undef, isV undef, isV undef, isV undef, isV undef, isV (.bool true), isV (.bool true), isV (.bool true)]
          (by kernel_rfl) (by kernel_rfl) (by kernel_rfl) rfl ?_ (Below.refl _ _) ?_ ?_
        · repeat (first | exact trivial | refine ⟨by first | exact isV_stays _ , ?_⟩)
        · refine ⟨?_, ?_, ?_, ?_, ?_, ?_, ?_, ?_, ?_, ?_, ?_, ?_, ?_, ?_, ?_, ?_, ?_, ?_, ?_, ?_, ?_, ?_, ?_, ?_, trivial⟩
          all_goals
            intro x wx hR hd
            simp at hd ⊢
            try simp [hd]
          all_goals try exact fun hX => absurd (show (false : Bool) = true from hX) (by decide)
          · have hq := HA6.out.below hR
            have q0 := hq.get 0 (.int .i64 k1)
            have q1 := hq.get 1 (.string n1)
            have q2 := hq.get 2 (.string a1)
            have q3 := hq.get 3 (.int .i64 x1)
            clear hq
            go_simp
            exact next_same _ rfl rfl hR
          · have hq := HB6.out.below hR
            have q0 := hq.get 0 (.int .i64 k2)
            have q1 := hq.get 1 (.string n2)
            have q2 := hq.get 2 (.string a2)
            have q3 := hq.get 3 (.int .i64 x2)
            clear hq
            go_simp
            exact next_same _ rfl rfl hR
          · go_simp
            go_at_call 10
            refine (H12.out wx).mono ?_
            rintro e wy ⟨rfl, hby⟩
            exact next_call _ rfl rfl hR hR.size hby
          · go_simp
            exact next_same _ rfl rfl hR
          · go_simp
            exact next_same _ rfl rfl hR
          · go_simp
            exact next_same _ rfl rfl hR
          · have hq := HA6.out.below hR
            have q0 := hq.get 0 (.int .i64 k1)
            have q1 := hq.get 1 (.string n1)
            have q2 := hq.get 2 (.string a1)
            have q3 := hq.get 3 (.int .i64 x1)
            clear hq
            go_simp
            exact next_same _ rfl rfl hR
          · go_simp
            exact next_same _ rfl rfl hR
          · have hq := HB6.out.below hR
            have q0 := hq.get 0 (.int .i64 k2)
            have q1 := hq.get 1 (.string n2)
            have q2 := hq.get 2 (.string a2)
            have q3 := hq.get 3 (.int .i64 x2)
            clear hq
            go_simp
            exact next_same _ rfl rfl hR
          · have hb := HNE.out
            go_simp
            exact next_same _ rfl rfl hR
          · go_simp
            exact next_same _ rfl rfl hR
          · go_simp
            exact next_same _ rfl rfl hR
          · go_simp
            exact next_same _ rfl rfl hR
          · go_simp
            exact next_same _ rfl rfl hR
        intro x wz hR hx
        simp [AllWords] at hx
        have hx23 : x 23 = .bool true := by simp [hx]
        clear hx
        rw [hx23]
        have HBZ := Lib.hid (HD6.out.trans (hR.mono HD6.out.size))
        clear hx23 hR
        go_wp2_with fail
        go_ret
        exact ⟨rfl, HBZ.out⟩
      | true =>
        cases ba with
        | false =>
          have HNE := Lib.hid hnE
          have HAE := Lib.hid haE
          clear hnE haE
          go_upto_region 5 with fail
          refine wp_region_goesG sr_follows (fun x => by simp [putsF, Act.put]; rfl) w6.heap.size w6
            [isV (.agg #[.int .i64 k1, .string n1, .string a1, .int .i64 x1]), isV (.agg #[.int .i64 k2, .string n2, .string a2, .int .i64 x2]), isV (.bool true), isV (.bool true), isV undef, isV undef, isV undef, isV (.bool true), isV (.pointer (some ⟨w.heap.size, 1, none⟩)), isV (.string n1), isV (.pointer (some ⟨w.heap.size + 1, 1, none⟩)), isV (.string n2), isV (.bool false), isV (.bool false), isV (.pointer (some ⟨w.heap.size, 2, none⟩)), isV (.pointer (some ⟨w.heap.size, 2, none⟩)), isV (.string a1), isV (.pointer (some ⟨w.heap.size + 1, 2, none⟩)), isV (.pointer (some ⟨w.heap.size + 1, 2, none⟩)), isV (.string a2), isV (.bool true), isV (.bool true), isV (.bool true), isV (.bool true)]
            (by kernel_rfl) (by kernel_rfl) (by kernel_rfl) rfl ?_ (Below.refl _ _) ?_ ?_
          · repeat (first | exact trivial | refine ⟨by first | exact isV_stays _ , ?_⟩)
          · refine ⟨?_, ?_, ?_, ?_, ?_, ?_, ?_, ?_, ?_, ?_, ?_, ?_, ?_, ?_, ?_, ?_, ?_, ?_, ?_, ?_, ?_, ?_, ?_, ?_, trivial⟩
            all_goals
              intro x wx hR hd
              simp at hd ⊢
              try simp [hd]
            all_goals try exact fun hX => absurd (show (false : Bool) = true from hX) (by decide)
            · have hq := HA6.out.below hR
              have q0 := hq.get 0 (.int .i64 k1)
              have q1 := hq.get 1 (.string n1)
              have q2 := hq.get 2 (.string a1)
              have q3 := hq.get 3 (.int .i64 x1)
              clear hq
              go_simp
              exact next_same _ rfl rfl hR
            · have hq := HB6.out.below hR
              have q0 := hq.get 0 (.int .i64 k2)
              have q1 := hq.get 1 (.string n2)
              have q2 := hq.get 2 (.string a2)
              have q3 := hq.get 3 (.int .i64 x2)
              clear hq
              go_simp
              exact next_same _ rfl rfl hR
            · go_simp
              go_at_call 10
              refine (H12.out wx).mono ?_
              rintro e wy ⟨rfl, hby⟩
              exact next_call _ rfl rfl hR hR.size hby
            · go_simp
              exact next_same _ rfl rfl hR
            · go_simp
              exact next_same _ rfl rfl hR
            · go_simp
              exact next_same _ rfl rfl hR
            · have hq := HA6.out.below hR
              have q0 := hq.get 0 (.int .i64 k1)
              have q1 := hq.get 1 (.string n1)
              have q2 := hq.get 2 (.string a1)
              have q3 := hq.get 3 (.int .i64 x1)
              clear hq
              go_simp
              exact next_same _ rfl rfl hR
            · go_simp
              exact next_same _ rfl rfl hR
            · have hq := HB6.out.below hR
              have q0 := hq.get 0 (.int .i64 k2)
              have q1 := hq.get 1 (.string n2)
              have q2 := hq.get 2 (.string a2)
              have q3 := hq.get 3 (.int .i64 x2)
              clear hq
              go_simp
              exact next_same _ rfl rfl hR
            · have hb := HNE.out
              go_simp
              exact next_same _ rfl rfl hR
            · go_simp
              exact next_same _ rfl rfl hR
            · go_simp
              exact next_same _ rfl rfl hR
            · go_simp
              exact next_same _ rfl rfl hR
            · have hq := HA6.out.below hR
              have q0 := hq.get 0 (.int .i64 k1)
              have q1 := hq.get 1 (.string n1)
              have q2 := hq.get 2 (.string a1)
              have q3 := hq.get 3 (.int .i64 x1)
              clear hq
              go_simp
              exact next_same _ rfl rfl hR
            · go_simp
              exact next_same _ rfl rfl hR
            · go_simp
              exact next_same _ rfl rfl hR
            · have hq := HB6.out.below hR
              have q0 := hq.get 0 (.int .i64 k2)
              have q1 := hq.get 1 (.string n2)
              have q2 := hq.get 2 (.string a2)
              have q3 := hq.get 3 (.int .i64 x2)
              clear hq
              go_simp
              exact next_same _ rfl rfl hR
            · have hb := HAE.out
              go_simp
              exact next_same _ rfl rfl hR
            · go_simp
              exact next_same _ rfl rfl hR
            · go_simp
              exact next_same _ rfl rfl hR
            · go_simp
              exact next_same _ rfl rfl hR
          intro x wz hR hx
          simp [AllWords] at hx
          have hx23 : x 23 = .bool true := by simp [hx]
          clear hx
          rw [hx23]
          have HBZ := Lib.hid (HD6.out.trans (hR.mono HD6.out.size))
          clear hx23 hR
          go_wp2_with fail
          go_ret
          exact ⟨rfl, HBZ.out⟩
        | true =>
          simp at E12
    | true =>
      obtain rfl := HTR.out (by first | rfl | trivial) (by first | rfl | trivial)
      have p0 := HA6.out.get 0 (.int .i64 k1)
      have p1 := HA6.out.get 1 (.string n1)
      have p2 := HA6.out.get 2 (.string a1)
      have p3 := HA6.out.get 3 (.int .i64 x1)
      have q0 := HB6.out.get 0 (.int .i64 k2)
      have q1 := HB6.out.get 1 (.string n2)
      have q2 := HB6.out.get 2 (.string a2)
      have q3 := HB6.out.get 3 (.int .i64 x2)
      have r0 := HC6.out.get 0 (.int .i64 k3)
      have r1 := HC6.out.get 1 (.string n3)
      have r2 := HC6.out.get 2 (.string a3)
      have r3 := HC6.out.get 3 (.int .i64 x3)
      go_wp2_with (go_at_call 10; refine (H13.out _).mono ?_; rintro e w7 ⟨rfl, hb7⟩; refine Hid.out ?_)
      refine Lib.hid ?_
      clear p0 q0 r0 p1 q1 r1 p2 q2 r2 p3 q3 r3
      have HA7 := Lib.hid (HA6.out.below hb7)
      have HB7 := Lib.hid (HB6.out.below hb7)
      have HC7 := Lib.hid (HC6.out.below hb7)
      have HD7 := Lib.hid (HD6.out.trans (hb7.mono HD6.out.size))
      clear hb7 HA6 HB6 HC6 HD6
      cases bn with
      | false =>
        have HNE := Lib.hid hnE
        have HAE := Lib.hid haE
        clear hnE haE
        go_upto_region 5 with fail
        refine wp_region_goesG sr_follows (fun x => by simp [putsF, Act.put]; rfl) w7.heap.size w7
          [isV (.agg #[.int .i64 k1, .string n1, .string a1, .int .i64 x1]), isV (.agg #[.int .i64 k2, .string n2, .string a2, .int .i64 x2]), isV (.bool true), isV (.bool true), isV undef, isV undef, isV undef, isV (.bool true), isV (.pointer (some ⟨w.heap.size, 1, none⟩)), isV (.string n1), isV (.pointer (some ⟨w.heap.size + 1, 1, none⟩)), isV (.string n2), isV (.bool true), isV (.bool true), isV undef, isV undef, isV undef, isV undef, isV undef, isV undef, isV undef, isV (.bool true), isV (.bool true), isV (.bool true)]
          (by kernel_rfl) (by kernel_rfl) (by kernel_rfl) rfl ?_ (Below.refl _ _) ?_ ?_
        · repeat (first | exact trivial | refine ⟨by first | exact isV_stays _ , ?_⟩)
        · refine ⟨?_, ?_, ?_, ?_, ?_, ?_, ?_, ?_, ?_, ?_, ?_, ?_, ?_, ?_, ?_, ?_, ?_, ?_, ?_, ?_, ?_, ?_, ?_, ?_, trivial⟩
          all_goals
            intro x wx hR hd
            simp at hd ⊢
            try simp [hd]
          all_goals try exact fun hX => absurd (show (false : Bool) = true from hX) (by decide)
          · have hq := HA7.out.below hR
            have q0 := hq.get 0 (.int .i64 k1)
            have q1 := hq.get 1 (.string n1)
            have q2 := hq.get 2 (.string a1)
            have q3 := hq.get 3 (.int .i64 x1)
            clear hq
            go_simp
            exact next_same _ rfl rfl hR
          · have hq := HB7.out.below hR
            have q0 := hq.get 0 (.int .i64 k2)
            have q1 := hq.get 1 (.string n2)
            have q2 := hq.get 2 (.string a2)
            have q3 := hq.get 3 (.int .i64 x2)
            clear hq
            go_simp
            exact next_same _ rfl rfl hR
          · go_simp
            go_at_call 10
            refine (H12.out wx).mono ?_
            rintro e wy ⟨rfl, hby⟩
            exact next_call _ rfl rfl hR hR.size hby
          · go_simp
            exact next_same _ rfl rfl hR
          · go_simp
            exact next_same _ rfl rfl hR
          · go_simp
            exact next_same _ rfl rfl hR
          · have hq := HA7.out.below hR
            have q0 := hq.get 0 (.int .i64 k1)
            have q1 := hq.get 1 (.string n1)
            have q2 := hq.get 2 (.string a1)
            have q3 := hq.get 3 (.int .i64 x1)
            clear hq
            go_simp
            exact next_same _ rfl rfl hR
          · go_simp
            exact next_same _ rfl rfl hR
          · have hq := HB7.out.below hR
            have q0 := hq.get 0 (.int .i64 k2)
            have q1 := hq.get 1 (.string n2)
            have q2 := hq.get 2 (.string a2)
            have q3 := hq.get 3 (.int .i64 x2)
            clear hq
            go_simp
            exact next_same _ rfl rfl hR
          · have hb := HNE.out
            go_simp
            exact next_same _ rfl rfl hR
          · go_simp
            exact next_same _ rfl rfl hR
          · go_simp
            exact next_same _ rfl rfl hR
          · go_simp
            exact next_same _ rfl rfl hR
          · go_simp
            exact next_same _ rfl rfl hR
        intro x wz hR hx
        simp [AllWords] at hx
        have hx23 : x 23 = .bool true := by simp [hx]
        clear hx
        rw [hx23]
        have HBZ := Lib.hid (HD7.out.trans (hR.mono HD7.out.size))
        clear hx23 hR
        go_wp2_with fail
        go_ret
        exact ⟨rfl, HBZ.out⟩
      | true =>
        cases ba with
        | false =>
          have HNE := Lib.hid hnE
          have HAE := Lib.hid haE
          clear hnE haE
          go_upto_region 5 with fail
          refine wp_region_goesG sr_follows (fun x => by simp [putsF, Act.put]; rfl) w7.heap.size w7
            [isV (.agg #[.int .i64 k1, .string n1, .string a1, .int .i64 x1]), isV (.agg #[.int .i64 k2, .string n2, .string a2, .int .i64 x2]), isV (.bool true), isV (.bool true), isV undef, isV undef, isV undef, isV (.bool true), isV (.pointer (some ⟨w.heap.size, 1, none⟩)), isV (.string n1), isV (.pointer (some ⟨w.heap.size + 1, 1, none⟩)), isV (.string n2), isV (.bool false), isV (.bool false), isV (.pointer (some ⟨w.heap.size, 2, none⟩)), isV (.pointer (some ⟨w.heap.size, 2, none⟩)), isV (.string a1), isV (.pointer (some ⟨w.heap.size + 1, 2, none⟩)), isV (.pointer (some ⟨w.heap.size + 1, 2, none⟩)), isV (.string a2), isV (.bool true), isV (.bool true), isV (.bool true), isV (.bool true)]
            (by kernel_rfl) (by kernel_rfl) (by kernel_rfl) rfl ?_ (Below.refl _ _) ?_ ?_
          · repeat (first | exact trivial | refine ⟨by first | exact isV_stays _ , ?_⟩)
          · refine ⟨?_, ?_, ?_, ?_, ?_, ?_, ?_, ?_, ?_, ?_, ?_, ?_, ?_, ?_, ?_, ?_, ?_, ?_, ?_, ?_, ?_, ?_, ?_, ?_, trivial⟩
            all_goals
              intro x wx hR hd
              simp at hd ⊢
              try simp [hd]
            all_goals try exact fun hX => absurd (show (false : Bool) = true from hX) (by decide)
            · have hq := HA7.out.below hR
              have q0 := hq.get 0 (.int .i64 k1)
              have q1 := hq.get 1 (.string n1)
              have q2 := hq.get 2 (.string a1)
              have q3 := hq.get 3 (.int .i64 x1)
              clear hq
              go_simp
              exact next_same _ rfl rfl hR
            · have hq := HB7.out.below hR
              have q0 := hq.get 0 (.int .i64 k2)
              have q1 := hq.get 1 (.string n2)
              have q2 := hq.get 2 (.string a2)
              have q3 := hq.get 3 (.int .i64 x2)
              clear hq
              go_simp
              exact next_same _ rfl rfl hR
            · go_simp
              go_at_call 10
              refine (H12.out wx).mono ?_
              rintro e wy ⟨rfl, hby⟩
              exact next_call _ rfl rfl hR hR.size hby
            · go_simp
              exact next_same _ rfl rfl hR
            · go_simp
              exact next_same _ rfl rfl hR
            · go_simp
              exact next_same _ rfl rfl hR
            · have hq := HA7.out.below hR
              have q0 := hq.get 0 (.int .i64 k1)
              have q1 := hq.get 1 (.string n1)
              have q2 := hq.get 2 (.string a1)
              have q3 := hq.get 3 (.int .i64 x1)
              clear hq
              go_simp
              exact next_same _ rfl rfl hR
            · go_simp
              exact next_same _ rfl rfl hR
            · have hq := HB7.out.below hR
              have q0 := hq.get 0 (.int .i64 k2)
              have q1 := hq.get 1 (.string n2)
              have q2 := hq.get 2 (.string a2)
              have q3 := hq.get 3 (.int .i64 x2)
              clear hq
              go_simp
              exact next_same _ rfl rfl hR
            · have hb := HNE.out
              go_simp
              exact next_same _ rfl rfl hR
            · go_simp
              exact next_same _ rfl rfl hR
            · go_simp
              exact next_same _ rfl rfl hR
            · go_simp
              exact next_same _ rfl rfl hR
            · have hq := HA7.out.below hR
              have q0 := hq.get 0 (.int .i64 k1)
              have q1 := hq.get 1 (.string n1)
              have q2 := hq.get 2 (.string a1)
              have q3 := hq.get 3 (.int .i64 x1)
              clear hq
              go_simp
              exact next_same _ rfl rfl hR
            · go_simp
              exact next_same _ rfl rfl hR
            · go_simp
              exact next_same _ rfl rfl hR
            · have hq := HB7.out.below hR
              have q0 := hq.get 0 (.int .i64 k2)
              have q1 := hq.get 1 (.string n2)
              have q2 := hq.get 2 (.string a2)
              have q3 := hq.get 3 (.int .i64 x2)
              clear hq
              go_simp
              exact next_same _ rfl rfl hR
            · have hb := HAE.out
              go_simp
              exact next_same _ rfl rfl hR
            · go_simp
              exact next_same _ rfl rfl hR
            · go_simp
              exact next_same _ rfl rfl hR
            · go_simp
              exact next_same _ rfl rfl hR
          intro x wz hR hx
          simp [AllWords] at hx
          have hx23 : x 23 = .bool true := by simp [hx]
          clear hx
          rw [hx23]
          have HBZ := Lib.hid (HD7.out.trans (hR.mono HD7.out.size))
          clear hx23 hR
          go_wp2_with fail
          go_ret
          exact ⟨rfl, HBZ.out⟩
        | true =>
          simp at E12
end Go.Proofs.YtkdknfedieeenaaDoor
namespace Go.Proofs.YtkdknfedieeenaaDoor
open Go.RowKit
set_option linter.unusedVariables false
set_option linter.unusedSimpArgs false
set_option maxRecDepth 20000
/-- A block of zeros that was just laid, of which nothing is used yet. -/
theorem OB.zeros (w : World) (cs : Array Value) (t : TypeId) (K : Nat) (hcs : cs.size = K) (hK : K ≤ maxLen) :
    OB w.heap.size w (.slice (some ⟨w.heap.size, 0, none⟩) 0 K) 0 [] (w.drew.alloc (.cells cs t)) := by
  refine ⟨((Below.refl w.heap.size w).drew).alloc (Nat.le_refl _) _, by simp, by simp, .inr ⟨w.heap.size, K, rfl, Nat.le_refl _, by simp, Nat.zero_le _, hK, fun j hj => ?_, fun j u hu => by simp at hu⟩⟩
  have hg : (w.drew.alloc (.cells cs t)).heap[w.heap.size]? = some (.cells cs t (0, 0)) := heap_alloc_new w.drew _
  refine ⟨?_, frozen_of_row _ _ j _ t hg⟩
  rw [cell_of_row _ _ j _ t (0, 0) hg, Array.getElem?_eq_getElem (by rw [hcs]; exact hj)]; rfl
/-- A row of records among others. -/
abbrev RowS := Option Addr × Nat × Nat × List (List UInt8)
def rowSV (r : RowS) : Value := .slice r.1 r.2.1 r.2.2.1
structure RowSOk (w : World) (r : RowS) : Prop where
  sl : Sl w w.heap.size 1 r.1 r.2.1 (r.2.2.2.map sv)
  none_ : r.1 = none → r.2.1 = 0
  len : r.2.2.2.length = r.2.1
theorem RowSOk.below {w w' : World} {r : RowS} (h : RowSOk w r) (hb : Below w.heap.size w w') : RowSOk w' r := ⟨(h.sl.below hb).more hb.size, h.none_, h.len⟩
def allS (rows : List RowS) : List (List UInt8) := rows.flatMap (·.2.2.2)
theorem allS_snoc {rows : List RowS} {k : Nat} {r : RowS} (h : rows[k]? = some r) : allS (rows.take (k + 1)) = allS (rows.take k) ++ r.2.2.2 := by
  unfold allS; rw [List.take_add_one, h]; simp
theorem allS_le (rows : List RowS) (k : Nat) : (allS (rows.take k)).length ≤ (allS rows).length := by
  have h : allS rows = allS (rows.take k) ++ allS (rows.drop k) := by unfold allS; rw [← List.flatMap_append, List.take_append_drop]
  rw [h, List.length_append]; omega
end Go.Proofs.YtkdknfedieeenaaDoor
namespace Go.Proofs.YtkdknfedieeenaaDoor
open Go.RowKit
set_option linter.unusedVariables false
set_option maxRecDepth 20000

theorem labels_len (s : ByteArray) : (labelsL s).length ≤ 254 := by
  unfold labelsL
  cases h : labelsOf s with
  | none => simp
  | some X => exact (labels_le h).1
theorem labT_len (t : Trig) : (labT t).length ≤ 256 := by
  have h1 := prefixR_len t.addr t.bits
  have h2 : ((nameLabels t.name).getD []).length ≤ 254 := labels_len (baL t.name)
  unfold labT
  repeat' split
  all_goals simp
  all_goals omega
theorem src_one {P : Program} {e' tx : TypeId} (w : World) (hk : P.underlying tx = some (.slice e')) (S : ByteArray) (e : TypeId) : Src P 1 tx (.slice (some ⟨w.heap.size, 0, none⟩) 1 1) 1 [.string S] (w.alloc (.cells #[.string S] e)) :=
  Src.ofSlice _ hk ⟨w.heap.size, 0, none⟩ 1 1 [.string S] rfl (news_at w _ _) (by intro u hu; simp at hu; subst hu; rfl)

end Go.Proofs.YtkdknfedieeenaaDoor
namespace Go.Proofs.YtkdknfedieeenaaDoor
open Go.RowKit
set_option linter.unusedVariables false
set_option maxRecDepth 20000

theorem pfx_fields : ∃ f0 f1, (Tryd.prog.fieldsOf 31).toList = [f0, f1] ∧ (Tryd.prog.underlying f0.type = some .string ∧ Tryd.prog.underlying f1.type = some (.int .i64)) ∧
    (f0.name ≠ "_" ∧ f1.name ≠ "_") ∧ (f0.offset = 0 ∧ f1.offset = 1) ∧ (Tryd.prog.cellsOf f0.type = 1 ∧ Tryd.prog.cellsOf f1.type = 1) :=
  ⟨_, _, rfl, ⟨by kernel_rfl, by kernel_rfl⟩, ⟨by decide, by decide⟩, ⟨rfl, rfl⟩, ⟨by kernel_rfl, by kernel_rfl⟩⟩
theorem trig_fields : ∃ f0 f1 f2, (Tryd.prog.fieldsOf 33).toList = [f0, f1, f2] ∧ (Tryd.prog.underlying f0.type = some (.int .i64) ∧ Tryd.prog.underlying f1.type = some .string ∧ f2.type = 31) ∧
    (f0.name ≠ "_" ∧ f1.name ≠ "_" ∧ f2.name ≠ "_") ∧ (f0.offset = 0 ∧ f1.offset = 1 ∧ f2.offset = 2) ∧ (Tryd.prog.cellsOf f0.type = 1 ∧ Tryd.prog.cellsOf f1.type = 1 ∧ Tryd.prog.cellsOf f2.type = 2) :=
  ⟨_, _, _, rfl, ⟨by kernel_rfl, by kernel_rfl, rfl⟩, ⟨by decide, by decide, by decide⟩, ⟨rfl, rfl, rfl⟩, ⟨by kernel_rfl, by kernel_rfl, by kernel_rfl⟩⟩
theorem pfx_eq (d : Nat) (a a' : ByteArray) (x x' : Int) (w : World) : (Op.equalIn (d + 2) 31 (.agg #[.string a, .int .i64 x]) (.agg #[.string a', .int .i64 x'])).run Tryd.prog w = .ok (a.toList == a'.toList && x == x') w := by
  obtain ⟨f0, f1, hf, ⟨t0, t1⟩, ⟨n0, n1⟩, ⟨o0, o1⟩, ⟨c0, c1⟩⟩ := pfx_fields
  rw [run_equalIn_agg (P := Tryd.prog) w _ _ _ _ Tryd.underlying31 (by kernel_rfl), hf]
  simp [go_sem, Op.eqFields, isAgg, run_underlying t0, run_underlying t1, t0, t1, n0, n1, o0, o1]
  by_cases e0 : a.toList = a'.toList <;> by_cases e1 : x = x' <;> simp [e0, e1]
def trigEq (k k' : Int) (n n' a a' : ByteArray) (x x' : Int) : Bool := k == k' && (n.toList == n'.toList && (a.toList == a'.toList && x == x'))
theorem trig_eq (k k' : Int) (n n' a a' : ByteArray) (x x' : Int) (w : World) : (Op.equalIn 10000 33 (.agg #[.int .i64 k, .string n, .string a, .int .i64 x]) (.agg #[.int .i64 k', .string n', .string a', .int .i64 x'])).run Tryd.prog w = .ok (trigEq k k' n n' a a' x x') w := by
  obtain ⟨f0, f1, f2, hf, ⟨t0, t1, t2⟩, ⟨n0, n1, n2⟩, ⟨o0, o1, o2⟩, ⟨c0, c1, c2⟩⟩ := trig_fields
  have hpe := fun d w => pfx_eq d a a' x x' w
  rw [run_equalIn_agg (P := Tryd.prog) w _ _ _ _ Tryd.underlying33 (by kernel_rfl), hf]
  simp [go_sem, Op.eqFields, isAgg, run_underlying t0, run_underlying t1, t0, t1, t2, n0, n1, n2, o0, o1, o2, hpe]
  unfold trigEq
  by_cases e0 : k = k' <;> by_cases e1 : n.toList = n'.toList <;> by_cases e2 : a.toList = a'.toList <;> by_cases e3 : x = x' <;> simp [e0, e1, e2, e3]
theorem trig_neq (k k' : Int) (n n' a a' : ByteArray) (x x' : Int) (w : World) : (binOp .neq 33 (.agg #[.int .i64 k, .string n, .string a, .int .i64 x]) (.agg #[.int .i64 k', .string n', .string a', .int .i64 x'])).run Tryd.prog w = .ok (.bool (!trigEq k k' n n' a a' x x')) w := by
  rw [run_neq_struct, trig_eq]; rfl
theorem trig_eql (k k' : Int) (n n' a a' : ByteArray) (x x' : Int) (w : World) : (binOp .eql 33 (.agg #[.int .i64 k, .string n, .string a, .int .i64 x]) (.agg #[.int .i64 k', .string n', .string a', .int .i64 x'])).run Tryd.prog w = .ok (.bool (trigEq k k' n n' a a' x x')) w := by
  rw [run_eql_struct, trig_eq]; rfl
theorem pfx_neq (a a' : ByteArray) (x x' : Int) (w : World) : (binOp .neq 31 (.agg #[.string a, .int .i64 x]) (.agg #[.string a', .int .i64 x'])).run Tryd.prog w = .ok (.bool (!(a.toList == a'.toList && x == x'))) w := by
  rw [run_neq_struct, pfx_eq 9998]; rfl
theorem pfx_eql (a a' : ByteArray) (x x' : Int) (w : World) : (binOp .eql 31 (.agg #[.string a, .int .i64 x]) (.agg #[.string a', .int .i64 x'])).run Tryd.prog w = .ok (.bool (a.toList == a'.toList && x == x')) w := by
  rw [run_eql_struct, pfx_eq 9998]; rfl
/-- A trigger of its parts. -/
def toT (k : Int) (n a : ByteArray) (x : Int) : Trig := ⟨k, n.data.toList, a.data.toList, x⟩
theorem trigEq_iff (k k' : Int) (n n' a a' : ByteArray) (x x' : Int) : trigEq k k' n n' a a' x x' = decide (toT k n a x = toT k' n' a' x') := by
  unfold trigEq toT
  rw [Bool.eq_iff_iff]
  simp [ByteArray.toList_eq]
theorem toT_surj (t : Trig) : t = toT t.kind (baL t.name) (baL t.addr) t.bits := by
  cases t
  simp [toT, baL]
def encV : Option (List UInt8) → Value
  | some n => .tuple #[sv n, .bool true]
  | none => .tuple #[.string ⟨#[]⟩, .bool false]
theorem trigV_shape2 (o : Option Trig) : ∃ tk TN TA tb ok, trigV o = .tuple #[.agg #[.int .i64 tk, .string TN, .string TA, .int .i64 tb], .bool ok] ∧ ok = o.isSome ∧ o.getD noTrig = toT tk TN TA tb :=
  ⟨(o.getD noTrig).kind, baL (o.getD noTrig).name, baL (o.getD noTrig).addr, (o.getD noTrig).bits, o.isSome, rfl, rfl, toT_surj _⟩
theorem digsF_len : ∀ (f b n : Nat), (digsF f b n).length ≤ f + 1
  | 0, b, n => by simp [digsF]
  | f + 1, b, n => by
    rw [digsF]
    split
    · simp
    · have := digsF_len f b (n / b)
      simp; omega
theorem labT_elem (t : Trig) : ∀ y ∈ labT t, y.length ≤ 63 := by
  have hp : ∀ y ∈ prefixR t.addr t.bits, y.length ≤ 63 := by
    intro y hy
    unfold prefixR at hy
    split at hy
    · unfold prefixL at hy
      simp only [List.mem_cons, List.mem_reverse] at hy
      rcases hy with rfl | hy
      · have := digsF_len 2 10 t.bits.toNat; unfold dec; omega
      · unfold body at hy
        split at hy
        · unfold body6 at hy
          obtain ⟨o, _, rfl⟩ := List.mem_map.1 hy
          cases o with
          | none => simp [lab, zz]
          | some k =>
            have := digsF_len 3 16 ((wordsL t.addr).getD k 0)
            show (digsF 3 16 ((wordsL t.addr).getD k 0)).length ≤ 63
            omega
        · obtain ⟨c, _, rfl⟩ := List.mem_map.1 hy
          have := digsF_len 2 10 c.toNat; unfold dec; omega
    · cases hy
  have hn : ∀ y ∈ (nameLabels t.name).getD [], y.length ≤ 63 := by
    intro y hy
    cases h : nameLabels t.name with
    | none => rw [h] at hy; cases hy
    | some X =>
      rw [h] at hy
      have := (labels_ok h).1.1 y hy
      simp only [okLabel, Bool.and_eq_true, decide_eq_true_eq] at this
      omega
  have c1 : cClient.length ≤ 63 := by decide
  have c2 : cAnswer.length ≤ 63 := by decide
  have c3 : cNsip.length ≤ 63 := by decide
  have c4 : cNsname.length ≤ 63 := by decide
  have c5 : star.length ≤ 63 := by decide
  intro y hy
  unfold labT at hy
  repeat' split at hy
  all_goals try simp only [List.mem_append, List.mem_cons, List.not_mem_nil, or_false] at hy
  · rcases hy with h | rfl
    · exact hp y h
    · exact c1
  · rcases hy with h | rfl
    · exact hp y h
    · exact c2
  · rcases hy with h | rfl
    · exact hp y h
    · exact c3
  · exact hn y hy
  · rcases hy with rfl | h
    · exact c5
    · exact hn y h
  · rcases hy with h | rfl
    · exact hn y h
    · exact c4
  · rcases hy with rfl | h | rfl
    · exact c5
    · exact hn y h
    · exact c4
/-- The trigger's value. -/
def trigA (t : Trig) : Value := .agg (trigC t).toArray

end Go.Proofs.YtkdknfedieeenaaDoor
namespace Go.Proofs.YtkdknfedieeenaaDoor
open Go.RowKit
set_option linter.unusedVariables false
set_option linter.unusedSimpArgs false
set_option maxRecDepth 20000
theorem mk19o : makeL [[114, 112, 122]] = some [3, 114, 112, 122] := by decide +kernel
theorem mk19n : makeL [[101, 120], [114, 112, 122]] = some [2, 101, 120, 3, 114, 112, 122] := by decide +kernel
theorem mk19e : makeL [[101, 120]] = some [2, 101, 120] := by decide +kernel

set_option maxHeartbeats 16000000 in
theorem awake19_any (w : World) (hL : LaidT w) : Calls Tryd.prog 5 #[] w fun e w' => e = .returned (.bool true) ∧ Below w.heap.size w w' := by
  have hM1 : ∀ A c w, Sl w w.heap.size 1 A 1 (([[114, 112, 122]] : List (List UInt8)).map sv) → Calls Tryd.prog 11 #[.slice A 1 c] w fun e w' => e = .returned (.tuple #[.string o19, .bool true]) ∧ Below w.heap.size w w' := by
    intro A c w h
    have := makeX_any A 1 c [[114, 112, 122]] w h (by decide) (by decide)
    rw [mk19o] at this; exact this
  have hM2 : ∀ A c w, Sl w w.heap.size 1 A 2 (([[101, 120], [114, 112, 122]] : List (List UInt8)).map sv) → Calls Tryd.prog 11 #[.slice A 2 c] w fun e w' => e = .returned (.tuple #[.string n19, .bool true]) ∧ Below w.heap.size w w' := by
    intro A c w h
    have := makeX_any A 2 c [[101, 120], [114, 112, 122]] w h (by decide) (by decide)
    rw [mk19n] at this; exact this
  have hM3 : ∀ A c w, Sl w w.heap.size 1 A 1 (([[101, 120]] : List (List UInt8)).map sv) → Calls Tryd.prog 11 #[.slice A 1 c] w fun e w' => e = .returned (.tuple #[.string e19, .bool true]) ∧ Below w.heap.size w w' := by
    intro A c w h
    have := makeX_any A 1 c [[101, 120]] w h (by decide) (by decide)
    rw [mk19e] at this; exact this
  have hq := fun w => trig_eql 1 1 e19 e19 ⟨#[]⟩ ⟨#[]⟩ 0 0 w
  simp only [trigEq_iff, decide_true] at hq
  have HM1 := Lib.hid hM1
  have HM2 := Lib.hid hM2
  have HM3 := Lib.hid hM3
  have HQ := Lib.hid hq
  have HLL := Lib.hid hL
  clear hM1 hM2 hM3 hq hL
  go_enter Tryd.func5, Tryd.ntmps5
  go_wp2_with (go_at_call 11; refine (HM1.out _ _ _ (Sl.fresh w _ _ 1 _ rfl rfl)).mono ?_; rintro e w1 ⟨rfl, hb1⟩; refine Hid.out ?_)
  refine Lib.hid ?_
  have HB1 := Lib.hid (below_alloc _ (Below.refl w.heap.size w) (Nat.le_refl _) hb1)
  clear hb1
  go_wp2_with (go_at_call 11; refine (HM2.out _ _ _ (Sl.fresh w1 _ _ 2 _ rfl rfl)).mono ?_; rintro e w2 ⟨rfl, hb2⟩; refine Hid.out ?_)
  refine Lib.hid ?_
  have HB2 := Lib.hid (HB1.out.trans ((below_alloc _ (Below.refl w1.heap.size w1) (Nat.le_refl _) hb2).mono HB1.out.size))
  clear hb2
  go_wp2_with (go_at_call 11; refine (HM3.out _ _ _ (Sl.fresh w2 _ _ 1 _ rfl rfl)).mono ?_; rintro e w3 ⟨rfl, hb3⟩; refine Hid.out ?_)
  refine Lib.hid ?_
  have HB3 := Lib.hid (HB2.out.trans ((below_alloc _ (Below.refl w2.heap.size w2) (Nat.le_refl _) hb3).mono HB2.out.size))
  clear hb3 HB1 HB2 HM1 HM2 HM3
  obtain ⟨W4, hW4⟩ : ∃ W, W = w3.alloc (.cells #[.string n19, .int .u16 5, .int .u32 0, .string ⟨#[]⟩] 59) := ⟨_, rfl⟩
  obtain ⟨W5, hW5⟩ : ∃ W, W = W4.alloc (.cells #[.string o19, .slice (some ⟨w3.heap.size, 0, none⟩) 1 1, .bool true, .int .i64 0] 62) := ⟨_, rfl⟩
  have e4 : W4.heap.size = w3.heap.size + 1 := by rw [hW4]; simp
  have hR5 : Cs W5 w3.heap.size [.string n19, .int .u16 5, .int .u32 0, .string ⟨#[]⟩] := by rw [hW5, hW4]; exact (Cs.new w3 _ _ _).alloc _
  have hC5 : Cs W5 (w3.heap.size + 1) [.string o19, .slice (some ⟨w3.heap.size, 0, none⟩) 1 1, .bool true, .int .i64 0] := by rw [hW5]; exact (Cs.new W4 _ _ _).at_ _ e4
  have hb5 : Below w3.heap.size w3 W5 := by
    rw [hW5, hW4]
    have h1 := (Below.refl w3.heap.size w3).alloc (Nat.le_refl _) (.cells #[.string n19, .int .u16 5, .int .u32 0, .string ⟨#[]⟩] 59)
    exact h1.alloc h1.size _
  have hWW : W5 = (w3.alloc (.cells #[.string n19, .int .u16 5, .int .u32 0, .string ⟨#[]⟩] 59)).alloc (.cells #[.string o19, .slice (some ⟨w3.heap.size, 0, none⟩) 1 1, .bool true, .int .i64 0] 62) := by rw [hW5, hW4]
  have HB5 := Lib.hid (HB3.out.trans (hb5.mono HB3.out.size))
  have HOF := Lib.hid (sof19 (w3.heap.size + 1) 1 w3.heap.size 1 W5 hC5 hR5 (HLL.out.below HB5.out (Nat.le_refl _)))
  have HWW := Lib.hid hWW
  clear hR5 hC5 hb5 hWW hW4 hW5 e4 HB3
  go_wp2_with (go_at_call 12; rw [← HWW.out]; refine HOF.out.mono ?_; rintro e w6 ⟨rfl, hb6⟩; refine Hid.out ?_)
  refine Lib.hid ?_
  have hB6 := HB5.out.trans (hb6.mono HB5.out.size)
  have HB7 := Lib.hid (hB6.alloc hB6.size (.cells #[.int .i64 0, .int .i64 1, .string e19, .string ⟨#[]⟩, .int .i64 0, .int .i64 4, .string ⟨#[]⟩, .bool false, .slice none 0 0] 52))
  have HC7 := Lib.hid (Cs.new w6 #[.int .i64 0, .int .i64 1, .string e19, .string ⟨#[]⟩, .int .i64 0, .int .i64 4, .string ⟨#[]⟩, .bool false, .slice none 0 0] 52 [.int .i64 0, .int .i64 1, .string e19, .string ⟨#[]⟩, .int .i64 0, .int .i64 4, .string ⟨#[]⟩, .bool false, .slice none 0 0])
  clear hb6 hB6 HB5 HOF HWW
  go_upto_region 5 with fail
  generalize w6.alloc (.cells #[.int .i64 0, .int .i64 1, .string e19, .string ⟨#[]⟩, .int .i64 0, .int .i64 4, .string ⟨#[]⟩, .bool false, .slice none 0 0] 52) = W7 at HB7 HC7 ⊢
  generalize w6.heap.size = P7 at HC7 ⊢
  have c0 := HC7.out.get 0 (.int .i64 0)
  have c1 := HC7.out.get 1 (.int .i64 1)
  have c2 := HC7.out.get 2 (.string e19)
  have c3 := HC7.out.get 3 (.string ⟨#[]⟩)
  have c4 := HC7.out.get 4 (.int .i64 0)
  have c5 := HC7.out.get 5 (.int .i64 4)
  have c6 := HC7.out.get 6 (.string ⟨#[]⟩)
  have c7 := HC7.out.get 7 (.bool false)
  have c8 := HC7.out.get 8 (.slice none 0 0)
  have hq := HQ.out
  go_wp2_with fail
  go_ret
  exact ⟨rfl, HB7.out⟩

theorem searchLess_walk (w : World) (hL : LaidT w) (k1 : Int) (hk1 : (Lit.int .i64 k1).wf = true) (n1 : ByteArray) (hn1 : n1.size ≤ 140737488351232) (a1 : ByteArray) (ha1 : a1.size ≤ 140737488351232) (x1 : Int) (hx1 : (Lit.int .i64 x1).wf = true)
    (k2 : Int) (hk2 : (Lit.int .i64 k2).wf = true) (n2 : ByteArray) (hn2 : n2.size ≤ 140737488351232) (a2 : ByteArray) (ha2 : a2.size ≤ 140737488351232) (x2 : Int) (hx2 : (Lit.int .i64 x2).wf = true)
    (k3 : Int) (hk3 : (Lit.int .i64 k3).wf = true) (n3 : ByteArray) (hn3 : n3.size ≤ 140737488351232) (a3 : ByteArray) (ha3 : a3.size ≤ 140737488351232) (x3 : Int) (hx3 : (Lit.int .i64 x3).wf = true) :
    Calls Tryd.prog 4 #[.agg #[.int .i64 k1, .string n1, .string a1, .int .i64 x1], .agg #[.int .i64 k2, .string n2, .string a2, .int .i64 x2], .agg #[.int .i64 k3, .string n3, .string a3, .int .i64 x3]] w fun e w' => e = .returned (.bool true) ∧ Below w.heap.size w w' :=
  searchLess_of w k1 hk1 n1 hn1 a1 ha1 x1 hx1 k2 hk2 n2 hn2 a2 ha2 x2 hx2 k3 hk3 n3 hn3 a3 ha3 x3 hx3 (fun W hb => awake19_any W (hL.below hb (Nat.le_refl _)))
end Go.Proofs.YtkdknfedieeenaaDoor
