/- Texts that walks stand on, one behind the other. -/
import Derived.Test.YtodpaejakgjblaaDoorMgSB
import Derived.BigRegion
namespace Go.Proofs.YtodpaejakgjblaaDoor
open Go.RowKit
set_option linter.unusedVariables false
set_option linter.unusedSimpArgs false
set_option maxRecDepth 20000
attribute [local simp] putsF isV wordOf Deps Region.binds Region.wanted Act.put wantedX isB

theorem Cs.other10 {w : World} {P b : Nat} {vs : List Value} (h : Cs w b vs) (hP : P ≠ b) (a' b' c' d' e' f' g' i' j' k' : Value) : Cs (World.setCell (World.setCell (World.setCell (World.setCell (World.setCell (World.setCell (World.setCell (World.setCell (World.setCell (World.setCell w ⟨P, 0, none⟩ a') ⟨P, 1, none⟩ b') ⟨P, 2, none⟩ c') ⟨P, 3, none⟩ d') ⟨P, 4, none⟩ e') ⟨P, 5, none⟩ f') ⟨P, 6, none⟩ g') ⟨P, 7, none⟩ i') ⟨P, 8, none⟩ j') ⟨P, 9, none⟩ k') b vs :=
  ((((((((((h.other P 0 a' hP).other P 1 b' hP).other P 2 c' hP).other P 3 d' hP).other P 4 e' hP).other P 5 f' hP).other P 6 g' hP).other P 7 i' hP).other P 8 j' hP).other P 9 k' hP)
theorem tt_cons {P : Program} {Q : Exit → Act → World → Prop} (o : Oper) (os : List Oper) (a : Act) (w : World) : tailWp P Q (o :: os) a w = Oper.wp P o a w (fun a' w' => ∃ v, a' = a.put o.dst v ∧ tailWp P Q os a' w') Q := rfl
theorem tt_nil {P : Program} {Q : Exit → Act → World → Prop} (a : Act) (w : World) : tailWp P Q [] a w = Q .normal a w := rfl
set_option maxHeartbeats 4000000 in
theorem store10 {Q : Exit → Act → World → Prop} {G : Act → World → Prop} (o : Oper) (i j : Nat) (ho : o.op = .store 68 (.tmp i) (.tmp j)) (hd : o.dst = none) (a : Act) (w : World) (g : Nat) (T : Int) (C N : ByteArray) (y z k : Int) (M P : ByteArray) (b e : Int)
    (hc : Cs w g [.int .i64 0, .string ⟨#[]⟩, .string ⟨#[]⟩, .int .u16 0, .int .i64 0, .int .i64 0, .string ⟨#[]⟩, .string ⟨#[]⟩, .int .i64 0, .int .i64 0]) (hp : a.tmps[i]? = some (.pointer (some ⟨g, 0, none⟩))) (hx : a.tmps[j]? = some (.agg #[.int .i64 T, .string C, .string N, .int .u16 y, .int .i64 z, .int .i64 k, .string M, .string P, .int .i64 b, .int .i64 e]))
    (h : ∀ w6, Cs w6 g [.int .i64 T, .string C, .string N, .int .u16 y, .int .i64 z, .int .i64 k, .string M, .string P, .int .i64 b, .int .i64 e] → (∀ q us, g ≠ q → Cs w q us → Cs w6 q us) → (∀ B W, B ≤ g → Below B W w → Below B W w6) → G a w6) :
    Oper.wp Tryd.prog o a w (fun a' w' => ∃ u, a' = a.put o.dst u ∧ G a' w') Q := by
  have hfin := h _ (Cs.all10 hc (.int .i64 T) (.string C) (.string N) (.int .u16 y) (.int .i64 z) (.int .i64 k) (.string M) (.string P) (.int .i64 b) (.int .i64 e)) (fun q us hb hu => Cs.other10 hu hb (.int .i64 T) (.string C) (.string N) (.int .u16 y) (.int .i64 z) (.int .i64 k) (.string M) (.string P) (.int .i64 b) (.int .i64 e)) (fun B W hB hW => below_all10 hW hB (.int .i64 T) (.string C) (.string N) (.int .u16 y) (.int .i64 z) (.int .i64 k) (.string M) (.string P) (.int .i64 b) (.int .i64 e))
  have m0 := hc.get 0 (.int .i64 0)
  have m1 := hc.get 1 (.string ⟨#[]⟩)
  have m2 := hc.get 2 (.string ⟨#[]⟩)
  have m3 := hc.get 3 (.int .u16 0)
  have m4 := hc.get 4 (.int .i64 0)
  have m5 := hc.get 5 (.int .i64 0)
  have m6 := hc.get 6 (.string ⟨#[]⟩)
  have m7 := hc.get 7 (.string ⟨#[]⟩)
  have m8 := hc.get 8 (.int .i64 0)
  have m9 := hc.get 9 (.int .i64 0)
  have f0 := hc.froz 0 (by simp)
  have f1 := hc.froz 1 (by simp)
  have f2 := hc.froz 2 (by simp)
  have f3 := hc.froz 3 (by simp)
  have f4 := hc.froz 4 (by simp)
  have f5 := hc.froz 5 (by simp)
  have f6 := hc.froz 6 (by simp)
  have f7 := hc.froz 7 (by simp)
  have f8 := hc.froz 8 (by simp)
  have f9 := hc.froz 9 (by simp)
  obtain ⟨dst, op, ty, pos, after, guard⟩ := o
  simp only at ho hd
  subst ho hd
  have HFIN := Lib.hid hfin
  clear hfin h hc
  go_simp
  exact HFIN.out
def boxE (B : Nat) (vs : List Value) : Value → World → Prop := fun v w => ∃ g, v = .pointer (some ⟨g, 0, none⟩) ∧ B ≤ g ∧ Cs w g vs
theorem boxE_stays (B : Nat) (vs : List Value) : ∀ v w w', boxE B vs v w → Goes w w' → boxE B vs v w' := by
  rintro v w w' ⟨g, hx, hB, hc⟩ he
  exact ⟨g, hx, hB, hc.below he⟩

set_option maxHeartbeats 16000000 in
theorem eventTwo_walk (w : World) (hL : LaidT w) (T_a : Int) (hT_a : (Lit.int .i64 T_a).wf = true) (C_a : ByteArray) (hC_a : C_a.size ≤ 140737488351232) (N_a : ByteArray) (hN_a : N_a.size ≤ 140737488351232) (y_a : Int) (hy_a : (Lit.int .u16 y_a).wf = true) (z_a : Int) (hz_a : (Lit.int .i64 z_a).wf = true)
    (k_a : Int) (hk_a : (Lit.int .i64 k_a).wf = true) (M_a : ByteArray) (hM_a : M_a.size ≤ 140737488351232) (P_a : ByteArray) (hP_a : P_a.size ≤ 140737488351232) (b_a : Int) (hb_a : (Lit.int .i64 b_a).wf = true) (a_a : Int) (ha_a : (Lit.int .i64 a_a).wf = true)
    (T_b : Int) (hT_b : (Lit.int .i64 T_b).wf = true) (C_b : ByteArray) (hC_b : C_b.size ≤ 140737488351232) (N_b : ByteArray) (hN_b : N_b.size ≤ 140737488351232) (y_b : Int) (hy_b : (Lit.int .u16 y_b).wf = true) (z_b : Int) (hz_b : (Lit.int .i64 z_b).wf = true)
    (k_b : Int) (hk_b : (Lit.int .i64 k_b).wf = true) (M_b : ByteArray) (hM_b : M_b.size ≤ 140737488351232) (P_b : ByteArray) (hP_b : P_b.size ≤ 140737488351232) (b_b : Int) (hb_b : (Lit.int .i64 b_b).wf = true) (a_b : Int) (ha_b : (Lit.int .i64 a_b).wf = true)
    (wh : Int) (hwh : (Lit.int .u32 wh).wf = true) (A1 : Option Addr) (n1 c1 : Nat) (zs1 : List Int) (S1 : SlView w A1 n1 c1 (zs1.map (Value.int .u8))) (hl1 : zs1.length = n1) (hw1 : ∀ z ∈ zs1, (Lit.int .u8 z).wf = true) (hc1 : c1 ≤ 140737488351232)
    (A2 : Option Addr) (n2 c2 : Nat) (zs2 : List Int) (S2 : SlView w A2 n2 c2 (zs2.map (Value.int .u8))) (hl2 : zs2.length = n2) (hw2 : ∀ z ∈ zs2, (Lit.int .u8 z).wf = true) (hc2 : c2 ≤ 140737488351232)
    (kd : Int) (hkd : (Lit.int .u16 kd).wf = true) (zo : Int) (hzo : (Lit.int .u8 zo).wf = true) (k : Int) (hk : (Lit.int .u8 k).wf = true)
    (A3 : Option Addr) (n3 c3 : Nat) (zs3 : List Int) (S3 : SlView w A3 n3 c3 (zs3.map (Value.int .u8))) (hl3 : zs3.length = n3) (hw3 : ∀ z ∈ zs3, (Lit.int .u8 z).wf = true) (hc3 : c3 ≤ 140737488351232) (six : Bool) (bt : Int) (hbt : (Lit.int .u8 bt).wf = true)
    (ac : Int) (hac : (Lit.int .u8 ac).wf = true)
    (ok : Int) (hok : (Lit.int .u8 ok).wf = true) (A4 : Option Addr) (n4 c4 : Nat) (zs4 : List Int) (S4 : SlView w A4 n4 c4 (zs4.map (Value.int .u8))) (hl4 : zs4.length = n4) (hw4 : ∀ z ∈ zs4, (Lit.int .u8 z).wf = true) (hc4 : c4 ≤ 140737488351232) (sx : Bool) (ob : Int) (hob : (Lit.int .u8 ob).wf = true) :
    Calls Tryd.prog 13 #[.agg #[.int .i64 T_a, .string C_a, .string N_a, .int .u16 y_a, .int .i64 z_a, .int .i64 k_a, .string M_a, .string P_a, .int .i64 b_a, .int .i64 a_a], .agg #[.int .i64 T_b, .string C_b, .string N_b, .int .u16 y_b, .int .i64 z_b, .int .i64 k_b, .string M_b, .string P_b, .int .i64 b_b, .int .i64 a_b], .agg #[.int .u32 wh, .slice A1 n1 c1, .slice A2 n2 c2, .int .u16 kd, .int .u8 zo, .int .u8 k, .slice A3 n3 c3, .bool six, .int .u8 bt, .int .u8 ac], .agg #[.int .u8 ok, .slice A4 n4 c4, .bool sx, .int .u8 ob]] w fun e w' => e = .returned (.bool true) ∧ Below w.heap.size w w' := by
  have HMK := Lib.hid (make25_arg w wh hwh A1 n1 c1 zs1 S1 hl1 hw1 hc1 A2 n2 c2 zs2 S2 hl2 hw2 hc2 kd hkd zo hzo k hk A3 n3 c3 zs3 S3 hl3 hw3 hc3 six bt hbt ac hac)
  have HMK2 := Lib.hid (make25_arg w wh hwh A1 n1 c1 zs1 S1 hl1 hw1 hc1 A2 n2 c2 zs2 S2 hl2 hw2 hc2 kd hkd zo hzo ok hok A4 n4 c4 zs4 S4 hl4 hw4 hc4 six ob hob ac hac)
  have hya := bounds_u16 hy_a
  have hyb := bounds_u16 hy_b
  have HEA := Lib.hid (fun w h => evenc_any T_a C_a N_a y_a z_a k_a M_a P_a b_a a_a w (by omega) (by omega) (by omega) (by omega) (by omega) h)
  have HEB := Lib.hid (fun w h => evenc_any T_b C_b N_b y_b z_b k_b M_b P_b b_b a_b w (by omega) (by omega) (by omega) (by omega) (by omega) h)
  have HYA := Lib.hid (show 0 ≤ y_a ∧ y_a < 65536 by omega)
  have HYB := Lib.hid (show 0 ≤ y_b ∧ y_b < 65536 by omega)
  obtain ⟨W1, hW1⟩ : ∃ W, W = w.alloc (.cells #[.int .i64 T_a, .string C_a, .string N_a, .int .u16 y_a, .int .i64 z_a, .int .i64 k_a, .string M_a, .string P_a, .int .i64 b_a, .int .i64 a_a] 68) := ⟨_, rfl⟩
  obtain ⟨W2, hW2⟩ : ∃ W, W = W1.alloc (.cells #[.int .i64 T_b, .string C_b, .string N_b, .int .u16 y_b, .int .i64 z_b, .int .i64 k_b, .string M_b, .string P_b, .int .i64 b_b, .int .i64 a_b] 68) := ⟨_, rfl⟩
  obtain ⟨W3, hW3⟩ : ∃ W, W = W2.alloc (.cells #[.int .u32 wh, .slice A1 n1 c1, .slice A2 n2 c2, .int .u16 kd, .int .u8 zo, .int .u8 k, .slice A3 n3 c3, .bool six, .int .u8 bt, .int .u8 ac] 64) := ⟨_, rfl⟩
  obtain ⟨W0, hW0⟩ : ∃ W, W = W3.alloc (.cells #[.int .u8 ok, .slice A4 n4 c4, .bool sx, .int .u8 ob] 55) := ⟨_, rfl⟩
  have e1 : W1.heap.size = w.heap.size + 1 := by rw [hW1]; simp
  have e2 : W2.heap.size = w.heap.size + 2 := by rw [hW2]; simp [e1]
  have e3 : W3.heap.size = w.heap.size + 3 := by rw [hW3]; simp [e2]
  have hA0 : Cs W0 w.heap.size [.int .i64 T_a, .string C_a, .string N_a, .int .u16 y_a, .int .i64 z_a, .int .i64 k_a, .string M_a, .string P_a, .int .i64 b_a, .int .i64 a_a] := by rw [hW0, hW3, hW2, hW1]; exact (((Cs.new w _ _ _).alloc _).alloc _).alloc _
  have hB0' : Cs W0 (w.heap.size + 1) [.int .i64 T_b, .string C_b, .string N_b, .int .u16 y_b, .int .i64 z_b, .int .i64 k_b, .string M_b, .string P_b, .int .i64 b_b, .int .i64 a_b] := by rw [hW0, hW3, hW2]; exact ((((Cs.new W1 _ _ _).at_ _ e1).alloc _).alloc _)
  have hS0 : Cs W0 (w.heap.size + 2) [.int .u32 wh, .slice A1 n1 c1, .slice A2 n2 c2, .int .u16 kd, .int .u8 zo, .int .u8 k, .slice A3 n3 c3, .bool six, .int .u8 bt, .int .u8 ac] := by rw [hW0, hW3]; exact ((Cs.new W2 _ _ _).at_ _ e2).alloc _
  have hO0 : Cs W0 (w.heap.size + 3) [.int .u8 ok, .slice A4 n4 c4, .bool sx, .int .u8 ob] := by rw [hW0]; exact (Cs.new W3 _ _ _).at_ _ e3
  have hB0 : Below w.heap.size w W0 := by
    rw [hW0, hW3, hW2, hW1]
    have h1 := (Below.refl w.heap.size w).alloc (Nat.le_refl _) (.cells #[.int .i64 T_a, .string C_a, .string N_a, .int .u16 y_a, .int .i64 z_a, .int .i64 k_a, .string M_a, .string P_a, .int .i64 b_a, .int .i64 a_a] 68)
    have h2 := h1.alloc h1.size (.cells #[.int .i64 T_b, .string C_b, .string N_b, .int .u16 y_b, .int .i64 z_b, .int .i64 k_b, .string M_b, .string P_b, .int .i64 b_b, .int .i64 a_b] 68)
    have h3 := h2.alloc h2.size (.cells #[.int .u32 wh, .slice A1 n1 c1, .slice A2 n2 c2, .int .u16 kd, .int .u8 zo, .int .u8 k, .slice A3 n3 c3, .bool six, .int .u8 bt, .int .u8 ac] 64)
    exact h3.alloc h3.size _
  have hWW : W0 = (((w.alloc (.cells #[.int .i64 T_a, .string C_a, .string N_a, .int .u16 y_a, .int .i64 z_a, .int .i64 k_a, .string M_a, .string P_a, .int .i64 b_a, .int .i64 a_a] 68)).alloc (.cells #[.int .i64 T_b, .string C_b, .string N_b, .int .u16 y_b, .int .i64 z_b, .int .i64 k_b, .string M_b, .string P_b, .int .i64 b_b, .int .i64 a_b] 68)).alloc (.cells #[.int .u32 wh, .slice A1 n1 c1, .slice A2 n2 c2, .int .u16 kd, .int .u8 zo, .int .u8 k, .slice A3 n3 c3, .bool six, .int .u8 bt, .int .u8 ac] 64)).alloc (.cells #[.int .u8 ok, .slice A4 n4 c4, .bool sx, .int .u8 ob] 55) := by rw [hW0, hW3, hW2, hW1]
  have HAW := Lib.hid (awake25_any W0 (hL.below hB0 (Nat.le_refl _)))
  have HL0 := Lib.hid hL
  have HB0 := Lib.hid hB0
  have HA0 := Lib.hid hA0
  have HBB0 := Lib.hid hB0'
  have HS0 := Lib.hid hS0
  have HO0 := Lib.hid hO0
  have HWW := Lib.hid hWW
  clear hW0 hW1 hW2 hW3 e1 e2 e3 hA0 hB0' hS0 hO0 hB0 hWW hL hya hyb
  clear hT_a hC_a hN_a hy_a hz_a hk_a hM_a hP_a hb_a ha_a hT_b hC_b hN_b hy_b hz_b hk_b hM_b hP_b hb_b ha_b hok S4 hl4 hw4 hc4 hob
  clear hwh S1 hl1 hw1 hc1 S2 hl2 hw2 hc2 hkd hzo hk S3 hl3 hw3 hc3 hbt hac
  go_enter Tryd.func13, Tryd.ntmps13
  go_wp2_with (go_at_call 29; rw [← HWW.out]; refine HAW.out.mono ?_; rintro e w1 ⟨rfl, hb1⟩; refine Hid.out ?_)
  refine Lib.hid ?_
  have HB1 := Lib.hid (HB0.out.trans (hb1.mono HB0.out.size))
  have HA1 := Lib.hid (HA0.out.below hb1)
  have HBB1 := Lib.hid (HBB0.out.below hb1)
  have HS1 := Lib.hid (HS0.out.below hb1)
  have HO1 := Lib.hid (HO0.out.below hb1)
  clear hb1 HB0 HA0 HBB0 HS0 HO0 HAW HWW
  have k0 := HS1.out.get 0 (.int .u32 wh)
  have k1 := HS1.out.get 1 (.slice A1 n1 c1)
  have k2 := HS1.out.get 2 (.slice A2 n2 c2)
  have k3 := HS1.out.get 3 (.int .u16 kd)
  have k4 := HS1.out.get 4 (.int .u8 zo)
  have k5 := HS1.out.get 5 (.int .u8 k)
  have k6 := HS1.out.get 6 (.slice A3 n3 c3)
  have k7 := HS1.out.get 7 (.bool six)
  have k8 := HS1.out.get 8 (.int .u8 bt)
  have k9 := HS1.out.get 9 (.int .u8 ac)
  go_upto_region 4 with fail
  clear k0 k1 k2 k3 k4 k5 k6 k7 k8 k9
  have hD2 := Cs.new w1 #[.int .u32 wh, .slice A1 n1 c1, .slice A2 n2 c2, .int .u16 kd, .int .u8 zo, .int .u8 k, .slice A3 n3 c3, .bool six, .int .u8 bt, .int .u8 ac] 64 [.int .u32 wh, .slice A1 n1 c1, .slice A2 n2 c2, .int .u16 kd, .int .u8 zo, .int .u8 k, .slice A3 n3 c3, .bool six, .int .u8 bt, .int .u8 ac]
  have hal := (Below.refl w1.heap.size w1).alloc (Nat.le_refl _) (.cells #[.int .u32 wh, .slice A1 n1 c1, .slice A2 n2 c2, .int .u16 kd, .int .u8 zo, .int .u8 k, .slice A3 n3 c3, .bool six, .int .u8 bt, .int .u8 ac] 64)
  have HB2 := Lib.hid (HB1.out.trans (hal.mono HB1.out.size))
  have HBW := Lib.hid hal
  have hO2 := HO1.out.alloc (.cells #[.int .u32 wh, .slice A1 n1 c1, .slice A2 n2 c2, .int .u16 kd, .int .u8 zo, .int .u8 k, .slice A3 n3 c3, .bool six, .int .u8 bt, .int .u8 ac] 64)
  have HA2 := Lib.hid (HA1.out)
  generalize hw2 : w1.alloc (.cells #[.int .u32 wh, .slice A1 n1 c1, .slice A2 n2 c2, .int .u16 kd, .int .u8 zo, .int .u8 k, .slice A3 n3 c3, .bool six, .int .u8 bt, .int .u8 ac] 64) = w2 at HB2 HBW hD2 hO2 ⊢
  have HD2 := Lib.hid hD2
  have HO2 := Lib.hid hO2
  have d5 := hD2.get 5 (.int .u8 k)
  have d6 := hD2.get 6 (.slice A3 n3 c3)
  have d8 := hD2.get 8 (.int .u8 bt)
  have f5 := hD2.froz 5 (by simp)
  have f6 := hD2.froz 6 (by simp)
  have f8 := hD2.froz 8 (by simp)
  have o0 := hO2.get 0 (.int .u8 ok)
  have o1 := hO2.get 1 (.slice A4 n4 c4)
  have o3 := hO2.get 3 (.int .u8 ob)
  clear hD2 hO2 hal hw2
  go_region
  have hD3 := ((HD2.out.set' 5 (.int .u8 ok) (by simp)).set' 6 (.slice A4 n4 c4) (by simp)).set' 8 (.int .u8 ob) (by simp)
  have hb3 := ((HBW.out.setCell (p := ⟨w1.heap.size, 5, none⟩) (Nat.le_refl _) (.int .u8 ok)).setCell (p := ⟨w1.heap.size, 6, none⟩) (Nat.le_refl _) (.slice A4 n4 c4)).setCell (p := ⟨w1.heap.size, 8, none⟩) (Nat.le_refl _) (.int .u8 ob)
  obtain ⟨w3, hw3⟩ : ∃ v, v = (((w2.setCell ⟨w1.heap.size, 5, none⟩ (.int .u8 ok)).setCell ⟨w1.heap.size, 6, none⟩ (.slice A4 n4 c4)).setCell ⟨w1.heap.size, 8, none⟩ (.int .u8 ob)) := ⟨_, rfl⟩
  rw [← hw3] at hD3 hb3 ⊢
  have hD3 : Cs w3.drew w1.heap.size [.int .u32 wh, .slice A1 n1 c1, .slice A2 n2 c2, .int .u16 kd, .int .u8 zo, .int .u8 ok, .slice A4 n4 c4, .bool six, .int .u8 ob, .int .u8 ac] := hD3.drewN 1
  have hb3 : Below w1.heap.size w1 w3.drew := hb3.trans ((drewN_below w3 1).mono hb3.size)
  have HD3 := Lib.hid hD3
  have HB3 := Lib.hid (HB1.out.trans (hb3.mono HB1.out.size))
  have HA3 := Lib.hid (HA1.out.below hb3)
  have HBB3 := Lib.hid (HBB1.out.below hb3)
  have HS3 := Lib.hid (HS1.out.below hb3)
  clear hD3 hb3 hw3 d5 d6 d8 f5 f6 f8 o0 o1 o3 HD2 HO2 HB2 HBW HA2 HA1 HBB1 HS1 HO1 HB1
  go_upto_region 5 with fail
  generalize w3.drew = w4 at HD3 HB3 HA3 HBB3 HS3 ⊢
  generalize w1.heap.size = P9 at HD3 ⊢
  refine wp_region_tail ev_follows (fun x => by simp [putsF, Act.put]; rfl) (fun v => Below w4.heap.size w4 v)
    [isV (.agg #[.int .u32 wh, .slice A1 n1 c1, .slice A2 n2 c2, .int .u16 kd, .int .u8 zo, .int .u8 k, .slice A3 n3 c3, .bool six, .int .u8 bt, .int .u8 ac]), seedW, isV (.agg #[.int .u32 wh, .slice A1 n1 c1, .slice A2 n2 c2, .int .u16 kd, .int .u8 zo, .int .u8 ok, .slice A4 n4 c4, .bool six, .int .u8 ob, .int .u8 ac]), seedW, boxE w4.heap.size [.int .i64 0, .string ⟨#[]⟩, .string ⟨#[]⟩, .int .u16 0, .int .i64 0, .int .i64 0, .string ⟨#[]⟩, .string ⟨#[]⟩, .int .i64 0, .int .i64 0], boxE w4.heap.size [.int .i64 0, .string ⟨#[]⟩, .string ⟨#[]⟩, .int .u16 0, .int .i64 0, .int .i64 0, .string ⟨#[]⟩, .string ⟨#[]⟩, .int .i64 0, .int .i64 0]]
    6 [4, 5] (by kernel_rfl) (by kernel_rfl) (by kernel_rfl) rfl (by kernel_rfl) (by kernel_rfl) ?_ (Below.refl _ _).drew ?_ ?_
  · repeat (first | exact trivial | refine ⟨by first | exact isV_stays _ | exact fun _ _ _ h _ => h | exact boxE_stays _ _, ?_⟩)
  · refine ⟨?_, ?_, ?_, ?_, ?_, ?_, skipped rfl, skipped rfl, trivial⟩
    all_goals
      intro _ x wx hR hd
      refine ⟨fun _ => ?_, fun hX => by simp at hX⟩
      simp at hd ⊢
    · have hq := HS3.out.below hR
      have q0 := hq.get 0 (.int .u32 wh)
      have q1 := hq.get 1 (.slice A1 n1 c1)
      have q2 := hq.get 2 (.slice A2 n2 c2)
      have q3 := hq.get 3 (.int .u16 kd)
      have q4 := hq.get 4 (.int .u8 zo)
      have q5 := hq.get 5 (.int .u8 k)
      have q6 := hq.get 6 (.slice A3 n3 c3)
      have q7 := hq.get 7 (.bool six)
      have q8 := hq.get 8 (.int .u8 bt)
      have q9 := hq.get 9 (.int .u8 ac)
      clear hq
      go_simp
      exact nextL _ rfl rfl hR (Below.refl _ _)
    · try obtain ⟨hd, hd2⟩ := hd
      have hb := HB3.out.trans (hR.mono HB3.out.size)
      go_simp
      go_at_call 30
      refine (HMK.out _ hb).mono ?_
      rintro e wy ⟨v, rfl, hse, hby⟩
      exact nextL _ rfl hse (hR.trans (hby.mono hR.size)) hby
    · have hq := HD3.out.below hR
      have q0 := hq.get 0 (.int .u32 wh)
      have q1 := hq.get 1 (.slice A1 n1 c1)
      have q2 := hq.get 2 (.slice A2 n2 c2)
      have q3 := hq.get 3 (.int .u16 kd)
      have q4 := hq.get 4 (.int .u8 zo)
      have q5 := hq.get 5 (.int .u8 ok)
      have q6 := hq.get 6 (.slice A4 n4 c4)
      have q7 := hq.get 7 (.bool six)
      have q8 := hq.get 8 (.int .u8 ob)
      have q9 := hq.get 9 (.int .u8 ac)
      clear hq
      go_simp
      exact nextL _ rfl rfl hR (Below.refl _ _)
    · try obtain ⟨hd, hd2⟩ := hd
      have hb := HB3.out.trans (hR.mono HB3.out.size)
      go_simp
      go_at_call 30
      refine (HMK2.out _ hb).mono ?_
      rintro e wy ⟨v, rfl, hse, hby⟩
      exact nextL _ rfl hse (hR.trans (hby.mono hR.size)) hby
    · go_simp
      exact nextL_new _ rfl ⟨_, rfl, hR.size, Cs.new _ _ _ _⟩ (hR.alloc hR.size _)
    · go_simp
      exact nextL_new _ rfl ⟨_, rfl, hR.size, Cs.new _ _ _ _⟩ (hR.alloc hR.size _)
  intro x w5 hR5 hx hap
  obtain ⟨-, x1, -, x3, ⟨g10, x4, hB10, hc10⟩, ⟨g11, x5, hB11, hc11⟩, -⟩ := hx
  have x1 : SeedIs (x 1) := x1
  have x3 : SeedIs (x 3) := x3
  have hne : g10 ≠ g11 := by
    have := hap 4 (by simp) 5 (by simp) (by decide)
    rw [x4, x5] at this
    intro e; subst e; exact this rfl
  obtain ⟨T1, C1, N1, y1, z1, k1, M1, P1, b1, a1, hx1, hm1, s1, s2, s3, s4, s5, s6⟩ := x1
  obtain ⟨T2, C2, N2, y2, z2, k2, M2, P2, b2, a2, hx3, hm2, r1, r2, r3, r4, r5, r6⟩ := x3
  rw [hx1, hx3, x4, x5]
  change tailWp _ _ [_, _] _ _
  rw [tt_cons]
  refine store10 _ 10 36 rfl rfl _ w5 g10 T1 C1 N1 y1 z1 k1 M1 P1 b1 a1 hc10 rfl rfl ?_
  intro w6 hq10 hoth6 hb6
  have hq11 := hoth6 g11 _ hne hc11
  have hbq := hb6 _ _ hB10 hR5
  rw [tt_cons]
  refine store10 _ 11 38 rfl rfl _ w6 g11 T2 C2 N2 y2 z2 k2 M2 P2 b2 a2 hq11 rfl rfl ?_
  intro w7 hp11 hoth7 hb7
  have hp10 := hoth7 g10 _ (Ne.symm hne) hq10
  have hbp := hb7 _ _ hB11 hbq
  rw [tt_nil]
  have HC7 := Lib.hid hp10
  have HD7 := Lib.hid hp11
  have HB7 := Lib.hid (HB3.out.trans (hbp.mono HB3.out.size))
  have HA7 := Lib.hid (HA3.out.below hbp)
  have HBB7 := Lib.hid (HBB3.out.below hbp)
  have HL7 := Lib.hid (HL0.out.below HB7.out (Nat.le_refl _))
  have hmE1 := mayE_iff.1 hm1
  have hmE2 := mayE_iff.1 hm2
  have he1 := fun w h => evenc_any T1 C1 N1 y1 z1 k1 M1 P1 b1 a1 w (by omega) (by omega) (by omega) (by omega) ⟨s5, s6⟩ h
  have he2 := fun w h => evenc_any T2 C2 N2 y2 z2 k2 M2 P2 b2 a2 w (by omega) (by omega) (by omega) (by omega) ⟨r5, r6⟩ h
  rw [hm1] at he1
  rw [hm2] at he2
  obtain ⟨L1, hL1⟩ : ∃ L, L = evB (toE T1 C1 N1 y1 z1 k1 M1 P1 b1 a1) := ⟨_, rfl⟩
  obtain ⟨L2, hL2⟩ : ∃ L, L = evB (toE T2 C2 N2 y2 z2 k2 M2 P2 b2 a2) := ⟨_, rfl⟩
  have hinj := ev_inj hmE1 ⟨s5, s6⟩ hmE2 ⟨r5, r6⟩
  rw [← hL1] at he1 hinj
  rw [← hL2] at he2 hinj
  obtain ⟨X1, hX1⟩ : ∃ X, X = baL L1 := ⟨_, rfl⟩
  obtain ⟨X2, hX2⟩ : ∃ X, X = baL L2 := ⟨_, rfl⟩
  obtain ⟨d, hd⟩ : ∃ d, d = decide (toE T1 C1 N1 y1 z1 k1 M1 P1 b1 a1 = toE T2 C2 N2 y2 z2 k2 M2 P2 b2 a2) := ⟨_, rfl⟩
  have hstr : (X1.toList == X2.toList) = d := by
    rw [hd, hX1, hX2, ByteArray.toList_eq, ByteArray.toList_eq, Bool.eq_iff_iff, beq_iff_eq, decide_eq_true_iff, ← hinj]
    simp [baL]
  have hev := fun w => ev_eql T1 T2 C1 C2 N1 N2 y1 y2 z1 z2 k1 k2 M1 M2 P1 P2 b1 b2 a1 a2 w
  rw [← hd] at hev
  have HE1 := Lib.hid he1
  have HE2 := Lib.hid he2
  have HSTR := Lib.hid hstr
  have HEV := Lib.hid hev
  have HX1 := Lib.hid hX1
  have HX2 := Lib.hid hX2
  clear he1 he2 hstr hev hX1 hX2 hd hinj hL1 hL2 hmE1 hmE2 hm1 hm2 s1 s2 s3 s4 s5 s6 r1 r2 r3 r4 r5 r6 hp10 hp11 hbp hq10 hq11 hbq hoth6 hoth7 hb6 hb7 hR5 hc10 hc11 hap x4 x5 hne hB10 hB11 hx1 hx3 HA3 HBB3 HS3 HD3 HB3 HL0 HMK HMK2
  have c0 := HC7.out.get 0 (.int .i64 T1)
  have c1 := HC7.out.get 1 (.string C1)
  have c2 := HC7.out.get 2 (.string N1)
  have c3 := HC7.out.get 3 (.int .u16 y1)
  have c4 := HC7.out.get 4 (.int .i64 z1)
  have c5 := HC7.out.get 5 (.int .i64 k1)
  have c6 := HC7.out.get 6 (.string M1)
  have c7 := HC7.out.get 7 (.string P1)
  have c8 := HC7.out.get 8 (.int .i64 b1)
  have c9 := HC7.out.get 9 (.int .i64 a1)

  go_wp2_with (go_at_call 31; refine (HE1.out _ HL7.out).mono ?_; rintro e w8 ⟨v8, rfl, hyes8, hno8, hb8⟩; refine Hid.out ?_)
  refine Lib.hid ?_
  clear c0 c1 c2 c3 c4 c5 c6 c7 c8 c9
  have HB8 := Lib.hid (HB7.out.trans (hb8.mono HB7.out.size))
  have HL8 := Lib.hid (HL7.out.below hb8 (Nat.le_refl _))
  have HC8 := Lib.hid (HC7.out.below hb8)
  have HD8 := Lib.hid (HD7.out.below hb8)
  have HA8 := Lib.hid (HA7.out.below hb8)
  have HBB8 := Lib.hid (HBB7.out.below hb8)
  have hob8 := hyes8 (by first | rfl | trivial)
  obtain ⟨A8, d8, rfl, hx1, hx2, hx3⟩ := hob8.slice
  have HT8 := Lib.hid (show Txt w8 A8 L1.length L1 from ⟨hob8.sl, fun h => (hx3 h).1⟩)
  generalize L1.length = q1 at *
  clear hob8 hx1 hx2 hx3 hyes8 hno8 hb8 HC7 HD7 HA7 HBB7 HL7 HB7 HE1
  have c0 := HD8.out.get 0 (.int .i64 T2)
  have c1 := HD8.out.get 1 (.string C2)
  have c2 := HD8.out.get 2 (.string N2)
  have c3 := HD8.out.get 3 (.int .u16 y2)
  have c4 := HD8.out.get 4 (.int .i64 z2)
  have c5 := HD8.out.get 5 (.int .i64 k2)
  have c6 := HD8.out.get 6 (.string M2)
  have c7 := HD8.out.get 7 (.string P2)
  have c8 := HD8.out.get 8 (.int .i64 b2)
  have c9 := HD8.out.get 9 (.int .i64 a2)
  go_wp2_with (go_at_call 31; refine (HE2.out _ HL8.out).mono ?_; rintro e w9 ⟨v9, rfl, hyes9, hno9, hb9⟩; refine Hid.out ?_)
  refine Lib.hid ?_
  clear c0 c1 c2 c3 c4 c5 c6 c7 c8 c9
  have HB9 := Lib.hid (HB8.out.trans (hb9.mono HB8.out.size))
  have HL9 := Lib.hid (HL8.out.below hb9 (Nat.le_refl _))
  have HC9 := Lib.hid (HC8.out.below hb9)
  have HD9 := Lib.hid (HD8.out.below hb9)
  have HA9 := Lib.hid (HA8.out.below hb9)
  have HBB9 := Lib.hid (HBB8.out.below hb9)
  have HT9 := Lib.hid (HT8.out.goes hb9)
  have hob9 := hyes9 (by first | rfl | trivial)
  obtain ⟨A9, d9, rfl, hx1, hx2, hx3⟩ := hob9.slice
  have HU9 := Lib.hid (show Txt w9 A9 L2.length L2 from ⟨hob9.sl, fun h => (hx3 h).1⟩)
  generalize L2.length = q2 at *
  clear hob9 hx1 hx2 hx3 hyes9 hno9 hb9 HC8 HD8 HA8 HBB8 HL8 HB8 HE2 HT8
  have c0 := HA9.out.get 0 (.int .i64 T_a)
  have c1 := HA9.out.get 1 (.string C_a)
  have c2 := HA9.out.get 2 (.string N_a)
  have c3 := HA9.out.get 3 (.int .u16 y_a)
  have c4 := HA9.out.get 4 (.int .i64 z_a)
  have c5 := HA9.out.get 5 (.int .i64 k_a)
  have c6 := HA9.out.get 6 (.string M_a)
  have c7 := HA9.out.get 7 (.string P_a)
  have c8 := HA9.out.get 8 (.int .i64 b_a)
  have c9 := HA9.out.get 9 (.int .i64 a_a)
  go_wp2_with (go_at_call 31; refine (HEA.out _ HL9.out).mono ?_; rintro e w10 ⟨v10, rfl, hyes10, hno10, hb10⟩; refine Hid.out ?_)
  refine Lib.hid ?_
  clear c0 c1 c2 c3 c4 c5 c6 c7 c8 c9
  have HB10 := Lib.hid (HB9.out.trans (hb10.mono HB9.out.size))
  have HL10 := Lib.hid (HL9.out.below hb10 (Nat.le_refl _))
  have HC10 := Lib.hid (HC9.out.below hb10)
  have HD10 := Lib.hid (HD9.out.below hb10)
  have HA10 := Lib.hid (HA9.out.below hb10)
  have HBB10 := Lib.hid (HBB9.out.below hb10)
  have HT10 := Lib.hid (HT9.out.goes hb10)
  have HU10 := Lib.hid (HU9.out.goes hb10)
  have HY10 := Lib.hid hyes10
  have HN10 := Lib.hid hno10
  clear hyes10 hno10 HC9 HD9 HA9 HBB9 HL9 HB9 HEA HT9 HU9
  have c0 := HBB10.out.get 0 (.int .i64 T_b)
  have c1 := HBB10.out.get 1 (.string C_b)
  have c2 := HBB10.out.get 2 (.string N_b)
  have c3 := HBB10.out.get 3 (.int .u16 y_b)
  have c4 := HBB10.out.get 4 (.int .i64 z_b)
  have c5 := HBB10.out.get 5 (.int .i64 k_b)
  have c6 := HBB10.out.get 6 (.string M_b)
  have c7 := HBB10.out.get 7 (.string P_b)
  have c8 := HBB10.out.get 8 (.int .i64 b_b)
  have c9 := HBB10.out.get 9 (.int .i64 a_b)
  go_wp2_with (go_at_call 31; refine (HEB.out _ HL10.out).mono ?_; rintro e w11 ⟨v11, rfl, hyes11, hno11, hb11⟩; refine Hid.out ?_)
  refine Lib.hid ?_
  clear c0 c1 c2 c3 c4 c5 c6 c7 c8 c9
  have HB11 := Lib.hid (HB10.out.trans (hb11.mono HB10.out.size))
  have HL11 := Lib.hid (HL10.out.below hb11 (Nat.le_refl _))
  have HC11 := Lib.hid (HC10.out.below hb11)
  have HD11 := Lib.hid (HD10.out.below hb11)
  have HA11 := Lib.hid (HA10.out.below hb11)
  have HBB11 := Lib.hid (HBB10.out.below hb11)
  have HT11 := Lib.hid (HT10.out.goes hb11)
  have HU11 := Lib.hid (HU10.out.goes hb11)
  have HY11 := Lib.hid hyes11
  clear hyes11 hno11 HC10 HD10 HA10 HBB10 HL10 HB10 HEB HT10 HU10
  obtain ⟨m3, hm3⟩ : ∃ m, mayE (toE T_a C_a N_a y_a z_a k_a M_a P_a b_a a_a) = m := ⟨_, rfl⟩
  obtain ⟨m4, hm4⟩ : ∃ m, mayE (toE T_b C_b N_b y_b z_b k_b M_b P_b b_b a_b) = m := ⟨_, rfl⟩
  rw [hm3] at HY10 ⊢
  rw [hm4] at HY11 ⊢
  cases m3 with
  | false =>
    clear hm3 hm4
    clear HY10 HY11 HN10 hb10 hb11
    go_upto_region 10 with fail
    refine wp_region_goesG ev_follows (fun x => by simp [putsF, Act.put]; rfl) w11.heap.size w11
      [isV (.bool true), isV (.bool true), isV (.bool true), isV (.bool true), isV (.bool true), isV (.slice A8 q1 d8), isV (.string X1), isV (.slice A9 q2 d9), isV (.string X2), isV (.bool d), isV (.agg #[.int .i64 T1, .string C1, .string N1, .int .u16 y1, .int .i64 z1, .int .i64 k1, .string M1, .string P1, .int .i64 b1, .int .i64 a1]), isV (.agg #[.int .i64 T2, .string C2, .string N2, .int .u16 y2, .int .i64 z2, .int .i64 k2, .string M2, .string P2, .int .i64 b2, .int .i64 a2]), isV (.bool d), isV (.bool true), isV (.bool true), isV (.bool true), isV (.bool false), isV (.bool true), isV (.bool true), isV undef, isV undef, isV (.bool true), isV (.bool true), isV undef, isV undef, isV undef, isV undef, isV undef, isV undef, isV undef, isV undef, isV undef, isV (.bool true), isV (.bool true), isV (.bool true)]
      (by kernel_rfl) (by kernel_rfl) (by kernel_rfl) rfl ?_ (Below.refl _ _) ?_ ?_
    · repeat (first | exact trivial | refine ⟨by first | exact isV_stays _ , ?_⟩)
    · refine ⟨?_, ?_, ?_, ?_, ?_, ?_, ?_, ?_, ?_, ?_, ?_, ?_, ?_, ?_, ?_, ?_, ?_, ?_, ?_, ?_, ?_, ?_, ?_, ?_, ?_, ?_, ?_, ?_, ?_, ?_, ?_, ?_, ?_, ?_, ?_, trivial⟩
      all_goals
        intro x wx hR hd
        simp at hd ⊢
        try simp [hd]
      all_goals try exact fun hX => absurd (show (false : Bool) = true from hX) (by decide)
      · go_simp
        exact next_same _ rfl rfl hR
      · go_simp
        exact next_same _ rfl rfl hR
      · go_simp
        exact next_same _ rfl rfl hR
      · go_simp
        exact next_same _ rfl rfl hR
      · go_simp
        exact next_same _ rfl rfl hR
      · go_simp
        exact next_same _ rfl rfl hR
      · have hcv := Txt.conv (P := Tryd.prog) (HT11.out.goes hR) 22 9 5 Tryd.underlying22 Tryd.underlying5 Tryd.underlying9 d8
        rw [show (⟨L1.toArray⟩ : ByteArray) = X1 from HX1.out.symm] at hcv
        go_simp
        exact next_same _ rfl rfl hR
      · go_simp
        exact next_same _ rfl rfl hR
      · have hcv := Txt.conv (P := Tryd.prog) (HU11.out.goes hR) 22 9 5 Tryd.underlying22 Tryd.underlying5 Tryd.underlying9 d9
        rw [show (⟨L2.toArray⟩ : ByteArray) = X2 from HX2.out.symm] at hcv
        go_simp
        exact next_same _ rfl rfl hR
      · have hb := HSTR.out
        go_simp
        exact next_same _ rfl rfl hR
      · have hq := HC11.out.below hR
        have q0 := hq.get 0 (.int .i64 T1)
        have q1 := hq.get 1 (.string C1)
        have q2 := hq.get 2 (.string N1)
        have q3 := hq.get 3 (.int .u16 y1)
        have q4 := hq.get 4 (.int .i64 z1)
        have q5 := hq.get 5 (.int .i64 k1)
        have q6 := hq.get 6 (.string M1)
        have q7 := hq.get 7 (.string P1)
        have q8 := hq.get 8 (.int .i64 b1)
        have q9 := hq.get 9 (.int .i64 a1)
        clear hq
        go_simp
        exact next_same _ rfl rfl hR
      · have hq := HD11.out.below hR
        have q0 := hq.get 0 (.int .i64 T2)
        have q1 := hq.get 1 (.string C2)
        have q2 := hq.get 2 (.string N2)
        have q3 := hq.get 3 (.int .u16 y2)
        have q4 := hq.get 4 (.int .i64 z2)
        have q5 := hq.get 5 (.int .i64 k2)
        have q6 := hq.get 6 (.string M2)
        have q7 := hq.get 7 (.string P2)
        have q8 := hq.get 8 (.int .i64 b2)
        have q9 := hq.get 9 (.int .i64 a2)
        clear hq
        go_simp
        exact next_same _ rfl rfl hR
      · have hb := HEV.out
        go_simp
        exact next_same _ rfl rfl hR
      · go_simp
        exact next_same _ rfl rfl hR
      · go_simp
        exact next_same _ rfl rfl hR
      · go_simp
        exact next_same _ rfl rfl hR
      · go_simp
        exact next_same _ rfl rfl hR
      · go_simp
        exact next_same _ rfl rfl hR
      · go_simp
        exact next_same _ rfl rfl hR
      · go_simp
        exact next_same _ rfl rfl hR
      · go_simp
        exact next_same _ rfl rfl hR
      · go_simp
        exact next_same _ rfl rfl hR
      · go_simp
        exact next_same _ rfl rfl hR
      · go_simp
        exact next_same _ rfl rfl hR
    intro x w12 hR hx
    simp [AllWords] at hx
    have hx34 : x 34 = .bool true := by simp [hx]
    clear hx
    rw [hx34]
    have HB12 := Lib.hid (HB11.out.trans (hR.mono HB11.out.size))
    clear hx34 hR
    go_wp2_with fail
    go_ret
    exact ⟨rfl, HB12.out⟩
  | true =>
    cases m4 with
    | false =>
      clear hm3 hm4
      clear HY10 HY11 HN10 hb10 hb11
      go_upto_region 10 with fail
      refine wp_region_goesG ev_follows (fun x => by simp [putsF, Act.put]; rfl) w11.heap.size w11
        [isV (.bool true), isV (.bool true), isV (.bool true), isV (.bool true), isV (.bool true), isV (.slice A8 q1 d8), isV (.string X1), isV (.slice A9 q2 d9), isV (.string X2), isV (.bool d), isV (.agg #[.int .i64 T1, .string C1, .string N1, .int .u16 y1, .int .i64 z1, .int .i64 k1, .string M1, .string P1, .int .i64 b1, .int .i64 a1]), isV (.agg #[.int .i64 T2, .string C2, .string N2, .int .u16 y2, .int .i64 z2, .int .i64 k2, .string M2, .string P2, .int .i64 b2, .int .i64 a2]), isV (.bool d), isV (.bool true), isV (.bool true), isV (.bool true), isV (.bool true), isV (.bool false), isV (.bool false), isV (.bool false), isV (.bool true), isV (.bool true), isV (.bool true), isV undef, isV undef, isV undef, isV undef, isV undef, isV undef, isV undef, isV undef, isV undef, isV (.bool true), isV (.bool true), isV (.bool true)]
        (by kernel_rfl) (by kernel_rfl) (by kernel_rfl) rfl ?_ (Below.refl _ _) ?_ ?_
      · repeat (first | exact trivial | refine ⟨by first | exact isV_stays _ , ?_⟩)
      · refine ⟨?_, ?_, ?_, ?_, ?_, ?_, ?_, ?_, ?_, ?_, ?_, ?_, ?_, ?_, ?_, ?_, ?_, ?_, ?_, ?_, ?_, ?_, ?_, ?_, ?_, ?_, ?_, ?_, ?_, ?_, ?_, ?_, ?_, ?_, ?_, trivial⟩
        all_goals
          intro x wx hR hd
          simp at hd ⊢
          try simp [hd]
        all_goals try exact fun hX => absurd (show (false : Bool) = true from hX) (by decide)
        · go_simp
          exact next_same _ rfl rfl hR
        · go_simp
          exact next_same _ rfl rfl hR
        · go_simp
          exact next_same _ rfl rfl hR
        · go_simp
          exact next_same _ rfl rfl hR
        · go_simp
          exact next_same _ rfl rfl hR
        · go_simp
          exact next_same _ rfl rfl hR
        · have hcv := Txt.conv (P := Tryd.prog) (HT11.out.goes hR) 22 9 5 Tryd.underlying22 Tryd.underlying5 Tryd.underlying9 d8
          rw [show (⟨L1.toArray⟩ : ByteArray) = X1 from HX1.out.symm] at hcv
          go_simp
          exact next_same _ rfl rfl hR
        · go_simp
          exact next_same _ rfl rfl hR
        · have hcv := Txt.conv (P := Tryd.prog) (HU11.out.goes hR) 22 9 5 Tryd.underlying22 Tryd.underlying5 Tryd.underlying9 d9
          rw [show (⟨L2.toArray⟩ : ByteArray) = X2 from HX2.out.symm] at hcv
          go_simp
          exact next_same _ rfl rfl hR
        · have hb := HSTR.out
          go_simp
          exact next_same _ rfl rfl hR
        · have hq := HC11.out.below hR
          have q0 := hq.get 0 (.int .i64 T1)
          have q1 := hq.get 1 (.string C1)
          have q2 := hq.get 2 (.string N1)
          have q3 := hq.get 3 (.int .u16 y1)
          have q4 := hq.get 4 (.int .i64 z1)
          have q5 := hq.get 5 (.int .i64 k1)
          have q6 := hq.get 6 (.string M1)
          have q7 := hq.get 7 (.string P1)
          have q8 := hq.get 8 (.int .i64 b1)
          have q9 := hq.get 9 (.int .i64 a1)
          clear hq
          go_simp
          exact next_same _ rfl rfl hR
        · have hq := HD11.out.below hR
          have q0 := hq.get 0 (.int .i64 T2)
          have q1 := hq.get 1 (.string C2)
          have q2 := hq.get 2 (.string N2)
          have q3 := hq.get 3 (.int .u16 y2)
          have q4 := hq.get 4 (.int .i64 z2)
          have q5 := hq.get 5 (.int .i64 k2)
          have q6 := hq.get 6 (.string M2)
          have q7 := hq.get 7 (.string P2)
          have q8 := hq.get 8 (.int .i64 b2)
          have q9 := hq.get 9 (.int .i64 a2)
          clear hq
          go_simp
          exact next_same _ rfl rfl hR
        · have hb := HEV.out
          go_simp
          exact next_same _ rfl rfl hR
        · go_simp
          exact next_same _ rfl rfl hR
        · go_simp
          exact next_same _ rfl rfl hR
        · go_simp
          exact next_same _ rfl rfl hR
        · go_simp
          exact next_same _ rfl rfl hR
        · go_simp
          exact next_same _ rfl rfl hR
        · go_simp
          exact next_same _ rfl rfl hR
        · go_simp
          exact next_same _ rfl rfl hR
        · go_simp
          exact next_same _ rfl rfl hR
        · go_simp
          exact next_same _ rfl rfl hR
        · go_simp
          exact next_same _ rfl rfl hR
        · go_simp
          exact next_same _ rfl rfl hR
        · go_simp
          exact next_same _ rfl rfl hR
        · go_simp
          exact next_same _ rfl rfl hR
      intro x w12 hR hx
      simp [AllWords] at hx
      have hx34 : x 34 = .bool true := by simp [hx]
      clear hx
      rw [hx34]
      have HB12 := Lib.hid (HB11.out.trans (hR.mono HB11.out.size))
      clear hx34 hR
      go_wp2_with fail
      go_ret
      exact ⟨rfl, HB12.out⟩
    | true =>
      obtain ⟨L3, hL3⟩ : ∃ L, L = evB (toE T_a C_a N_a y_a z_a k_a M_a P_a b_a a_a) := ⟨_, rfl⟩
      obtain ⟨L4, hL4⟩ : ∃ L, L = evB (toE T_b C_b N_b y_b z_b k_b M_b P_b b_b a_b) := ⟨_, rfl⟩
      have hinj := ev_inj (mayE_iff.1 hm3) HYA.out (mayE_iff.1 hm4) HYB.out
      have ho3 := HY10.out (by first | rfl | trivial)
      have ho4 := HY11.out (by first | rfl | trivial)
      rw [← hL3] at hinj ho3
      rw [← hL4] at hinj ho4
      obtain ⟨X3, hX3⟩ : ∃ X, X = baL L3 := ⟨_, rfl⟩
      obtain ⟨X4, hX4⟩ : ∃ X, X = baL L4 := ⟨_, rfl⟩
      obtain ⟨d2, hd2⟩ : ∃ d, d = decide (toE T_a C_a N_a y_a z_a k_a M_a P_a b_a a_a = toE T_b C_b N_b y_b z_b k_b M_b P_b b_b a_b) := ⟨_, rfl⟩
      have hstr : (X3.toList == X4.toList) = d2 := by
        rw [hd2, hX3, hX4, ByteArray.toList_eq, ByteArray.toList_eq, Bool.eq_iff_iff, beq_iff_eq, decide_eq_true_iff, ← hinj]
        simp [baL]
      have hev := fun w => ev_eql T_a T_b C_a C_b N_a N_b y_a y_b z_a z_b k_a k_b M_a M_b P_a P_b b_a b_b a_a a_b w
      rw [← hd2] at hev
      obtain ⟨A10, d10, rfl, hx1, hx2, hx3⟩ := ho3.slice
      obtain ⟨A11, d11, rfl, hx1', hx2', hx3'⟩ := ho4.slice
      have HV3 := Lib.hid ((show Txt w10 A10 L3.length L3 from ⟨ho3.sl, fun h => (hx3 h).1⟩).goes hb11)
      have HV4 := Lib.hid (show Txt w11 A11 L4.length L4 from ⟨ho4.sl, fun h => (hx3' h).1⟩)
      have HSTR2 := Lib.hid hstr
      have HEV2 := Lib.hid hev
      have HX3 := Lib.hid hX3
      have HX4 := Lib.hid hX4
      generalize L3.length = q3 at *
      generalize L4.length = q4 at *
      clear hstr hev hX3 hX4 hd2 hinj ho3 ho4 hx3 hx3' hL3 hL4 hm3 hm4
      clear HY10 HY11 HN10 hb10 hb11
      go_upto_region 10 with fail
      refine wp_region_goesG ev_follows (fun x => by simp [putsF, Act.put]; rfl) w11.heap.size w11
        [isV (.bool true), isV (.bool true), isV (.bool true), isV (.bool true), isV (.bool true), isV (.slice A8 q1 d8), isV (.string X1), isV (.slice A9 q2 d9), isV (.string X2), isV (.bool d), isV (.agg #[.int .i64 T1, .string C1, .string N1, .int .u16 y1, .int .i64 z1, .int .i64 k1, .string M1, .string P1, .int .i64 b1, .int .i64 a1]), isV (.agg #[.int .i64 T2, .string C2, .string N2, .int .u16 y2, .int .i64 z2, .int .i64 k2, .string M2, .string P2, .int .i64 b2, .int .i64 a2]), isV (.bool d), isV (.bool true), isV (.bool true), isV (.bool true), isV (.bool true), isV (.bool false), isV (.bool false), isV (.bool true), isV (.bool false), isV (.bool false), isV (.bool false), isV (.slice A10 q3 d10), isV (.string X3), isV (.slice A11 q4 d11), isV (.string X4), isV (.bool d2), isV (.agg #[.int .i64 T_a, .string C_a, .string N_a, .int .u16 y_a, .int .i64 z_a, .int .i64 k_a, .string M_a, .string P_a, .int .i64 b_a, .int .i64 a_a]), isV (.agg #[.int .i64 T_b, .string C_b, .string N_b, .int .u16 y_b, .int .i64 z_b, .int .i64 k_b, .string M_b, .string P_b, .int .i64 b_b, .int .i64 a_b]), isV (.bool d2), isV (.bool true), isV (.bool true), isV (.bool true), isV (.bool true)]
        (by kernel_rfl) (by kernel_rfl) (by kernel_rfl) rfl ?_ (Below.refl _ _) ?_ ?_
      · repeat (first | exact trivial | refine ⟨by first | exact isV_stays _ , ?_⟩)
      · refine ⟨?_, ?_, ?_, ?_, ?_, ?_, ?_, ?_, ?_, ?_, ?_, ?_, ?_, ?_, ?_, ?_, ?_, ?_, ?_, ?_, ?_, ?_, ?_, ?_, ?_, ?_, ?_, ?_, ?_, ?_, ?_, ?_, ?_, ?_, ?_, trivial⟩
        all_goals
          intro x wx hR hd
          simp at hd ⊢
          try simp [hd]
        all_goals try exact fun hX => absurd (show (false : Bool) = true from hX) (by decide)
        · go_simp
          exact next_same _ rfl rfl hR
        · go_simp
          exact next_same _ rfl rfl hR
        · go_simp
          exact next_same _ rfl rfl hR
        · go_simp
          exact next_same _ rfl rfl hR
        · go_simp
          exact next_same _ rfl rfl hR
        · go_simp
          exact next_same _ rfl rfl hR
        · have hcv := Txt.conv (P := Tryd.prog) (HT11.out.goes hR) 22 9 5 Tryd.underlying22 Tryd.underlying5 Tryd.underlying9 d8
          rw [show (⟨L1.toArray⟩ : ByteArray) = X1 from HX1.out.symm] at hcv
          go_simp
          exact next_same _ rfl rfl hR
        · go_simp
          exact next_same _ rfl rfl hR
        · have hcv := Txt.conv (P := Tryd.prog) (HU11.out.goes hR) 22 9 5 Tryd.underlying22 Tryd.underlying5 Tryd.underlying9 d9
          rw [show (⟨L2.toArray⟩ : ByteArray) = X2 from HX2.out.symm] at hcv
          go_simp
          exact next_same _ rfl rfl hR
        · have hb := HSTR.out
          go_simp
          exact next_same _ rfl rfl hR
        · have hq := HC11.out.below hR
          have q0 := hq.get 0 (.int .i64 T1)
          have q1 := hq.get 1 (.string C1)
          have q2 := hq.get 2 (.string N1)
          have q3 := hq.get 3 (.int .u16 y1)
          have q4 := hq.get 4 (.int .i64 z1)
          have q5 := hq.get 5 (.int .i64 k1)
          have q6 := hq.get 6 (.string M1)
          have q7 := hq.get 7 (.string P1)
          have q8 := hq.get 8 (.int .i64 b1)
          have q9 := hq.get 9 (.int .i64 a1)
          clear hq
          go_simp
          exact next_same _ rfl rfl hR
        · have hq := HD11.out.below hR
          have q0 := hq.get 0 (.int .i64 T2)
          have q1 := hq.get 1 (.string C2)
          have q2 := hq.get 2 (.string N2)
          have q3 := hq.get 3 (.int .u16 y2)
          have q4 := hq.get 4 (.int .i64 z2)
          have q5 := hq.get 5 (.int .i64 k2)
          have q6 := hq.get 6 (.string M2)
          have q7 := hq.get 7 (.string P2)
          have q8 := hq.get 8 (.int .i64 b2)
          have q9 := hq.get 9 (.int .i64 a2)
          clear hq
          go_simp
          exact next_same _ rfl rfl hR
        · have hb := HEV.out
          go_simp
          exact next_same _ rfl rfl hR
        · go_simp
          exact next_same _ rfl rfl hR
        · go_simp
          exact next_same _ rfl rfl hR
        · go_simp
          exact next_same _ rfl rfl hR
        · go_simp
          exact next_same _ rfl rfl hR
        · go_simp
          exact next_same _ rfl rfl hR
        · go_simp
          exact next_same _ rfl rfl hR
        · go_simp
          exact next_same _ rfl rfl hR
        · go_simp
          exact next_same _ rfl rfl hR
        · go_simp
          exact next_same _ rfl rfl hR
        · go_simp
          exact next_same _ rfl rfl hR
        · go_simp
          exact next_same _ rfl rfl hR
        · have hcv := Txt.conv (P := Tryd.prog) (HV3.out.goes hR) 22 9 5 Tryd.underlying22 Tryd.underlying5 Tryd.underlying9 d10
          rw [show (⟨L3.toArray⟩ : ByteArray) = X3 from HX3.out.symm] at hcv
          go_simp
          exact next_same _ rfl rfl hR
        · go_simp
          exact next_same _ rfl rfl hR
        · have hcv := Txt.conv (P := Tryd.prog) (HV4.out.goes hR) 22 9 5 Tryd.underlying22 Tryd.underlying5 Tryd.underlying9 d11
          rw [show (⟨L4.toArray⟩ : ByteArray) = X4 from HX4.out.symm] at hcv
          go_simp
          exact next_same _ rfl rfl hR
        · have hb := HSTR2.out
          go_simp
          exact next_same _ rfl rfl hR
        · have hq := HA11.out.below hR
          have q0 := hq.get 0 (.int .i64 T_a)
          have q1 := hq.get 1 (.string C_a)
          have q2 := hq.get 2 (.string N_a)
          have q3 := hq.get 3 (.int .u16 y_a)
          have q4 := hq.get 4 (.int .i64 z_a)
          have q5 := hq.get 5 (.int .i64 k_a)
          have q6 := hq.get 6 (.string M_a)
          have q7 := hq.get 7 (.string P_a)
          have q8 := hq.get 8 (.int .i64 b_a)
          have q9 := hq.get 9 (.int .i64 a_a)
          clear hq
          go_simp
          exact next_same _ rfl rfl hR
        · have hq := HBB11.out.below hR
          have q0 := hq.get 0 (.int .i64 T_b)
          have q1 := hq.get 1 (.string C_b)
          have q2 := hq.get 2 (.string N_b)
          have q3 := hq.get 3 (.int .u16 y_b)
          have q4 := hq.get 4 (.int .i64 z_b)
          have q5 := hq.get 5 (.int .i64 k_b)
          have q6 := hq.get 6 (.string M_b)
          have q7 := hq.get 7 (.string P_b)
          have q8 := hq.get 8 (.int .i64 b_b)
          have q9 := hq.get 9 (.int .i64 a_b)
          clear hq
          go_simp
          exact next_same _ rfl rfl hR
        · have hb := HEV2.out
          go_simp
          exact next_same _ rfl rfl hR
        · go_simp
          exact next_same _ rfl rfl hR
        · go_simp
          exact next_same _ rfl rfl hR
        · go_simp
          exact next_same _ rfl rfl hR
        · go_simp
          exact next_same _ rfl rfl hR
      intro x w12 hR hx
      simp [AllWords] at hx
      have hx34 : x 34 = .bool true := by simp [hx]
      clear hx
      rw [hx34]
      have HB12 := Lib.hid (HB11.out.trans (hR.mono HB11.out.size))
      clear hx34 hR
      go_wp2_with fail
      go_ret
      exact ⟨rfl, HB12.out⟩
end Go.Proofs.YtodpaejakgjblaaDoor
