/- The contracts of layer 9: when a transfer is all there. -/
import Derived.Test.YtpbbnpglcadimaaDoorZonB
import Derived.Test.YtpbbnpglcadimaaDoorMid
import Derived.Test.YtpbbnpglcadimaaDoorRecC
import Derived.Outline
namespace Go.Proofs.YtpbbnpglcadimaaDoor
open Go.RowKit
set_option linter.unusedVariables false
set_option linter.unusedSimpArgs false
set_option maxRecDepth 20000
attribute [local simp] putsF isV wordOf Deps Region.binds Region.wanted Act.put wantedX isB
theorem wp_binop {P : Program} {o : Oper} {a : Act} {w : World} {K : Act → World → Prop} {Q : Exit → Act → World → Prop} (k : BinOp) (t t' : TypeId) (x y : Operand) (ho : o.op = .binOp k t x y t') {vx vy v : Value} (hx : a.eval x = vx) (hy : a.eval y = vy)
    (hg : (eqGuard k t x y vx vy).run P w = .ok () w) (hr : (binOp k t vx vy).run P w = .ok v w) (h : K (a.put o.dst v) w) : Oper.wp P o a w K Q := by
  unfold Oper.wp execOp
  simp only [ho, hx, hy, hr, hg, Sem.run_bind, Sem.run_pure, Result.andThen_ok]
  exact h
def soaB (r : RecT) : Bool := r.2.1 == 6
theorem isSoa_any (r : RecT) (w : World) : Calls Tryd.prog 37 #[recV r] w fun e w' => e = .returned (.bool (soaB r)) ∧ Below w.heap.size w w' := by
  obtain ⟨r0, r1, r2, r3⟩ := r
  unfold recV soaB
  simp only
  have hb := (Below.refl w.heap.size w).alloc (Nat.le_refl _) (.cells #[.string r0, .int .u16 r1, .int .u32 r2, .string r3] 41)
  have HB := Lib.hid hb
  clear hb
  cases hq : (r1 == 6) with
  | true =>
    go_enter Tryd.func37, Tryd.ntmps37
    go_wp2_with fail
    go_ret
    exact ⟨rfl, HB.out⟩
  | false =>
    go_enter Tryd.func37, Tryd.ntmps37
    go_wp2_with fail
    go_ret
    exact ⟨rfl, HB.out⟩
/-- How often a record stands among others. -/
def cntR (a : RecT) (rs : List RecT) : Nat := (rs.filter fun r => eqB r a).length
theorem cntR_next (a : RecT) {rs : List RecT} {k : Nat} {r : RecT} (hr : rs[k]? = some r) : cntR a (rs.take (k + 1)) = cntR a (rs.take k) + (if eqB r a then 1 else 0) := by
  unfold cntR
  rw [List.take_add_one, hr, Option.toList_some, List.filter_append, List.length_append]
  cases h : eqB r a <;> simp [h]
theorem cntR_le (a : RecT) (rs : List RecT) : cntR a rs ≤ rs.length := List.length_filter_le _ _
/-- Is a transfer all there? -/
def doneR : List RecT → Bool
  | [] => false
  | [_] => true
  | a :: b :: t => if (soaB b && !(eqB b a)) = true then decide (3 ≤ cntR a (a :: b :: t)) else decide (2 ≤ cntR a (a :: b :: t))
theorem Recs.range {w : World} {A : Option Addr} {rs : List RecT} (h : Recs w A rs) {i : Nat} {r : RecT} (hr : rs[i]? = some r) : ∃ b off, A = some ⟨b, off, none⟩ ∧ b < w.heap.size ∧ w.rangeAt b (off + i * 4) (recCells r) := by
  obtain ⟨b, off, hA, hb, g0, g1, g2, g3⟩ := h i r hr
  refine ⟨b, off, hA, hb, fun j v hv => ?_⟩
  unfold recCells at hv
  match j, hv with
  | 0, hv => simp at hv; subst hv; exact g0
  | 1, hv => simp at hv; subst hv; exact g1
  | 2, hv => simp at hv; subst hv; exact g2
  | 3, hv => simp at hv; subst hv; exact g3
  | j + 4, hv => simp at hv
set_option maxHeartbeats 3200000 in
theorem done_any (A : Option Addr) (n c : Nat) (rs : List RecT) (w : World) (h : Recs w A rs) (hl : rs.length = n) (hn : n ≤ 1048576) :
    Calls Tryd.prog 19 #[.slice A n c] w fun e w' => e = .returned (.bool (doneR rs)) ∧ Below w.heap.size w w' := by
  match rs, h, hl with
  | [], h, hl =>
    obtain rfl : n = 0 := by simpa using hl.symm
    go_enter Tryd.func19, Tryd.ntmps19
    go_wp2_with fail
    go_ret
    exact ⟨rfl, Below.refl _ _⟩
  | [_], h, hl =>
    obtain rfl : n = 1 := by simpa using hl.symm
    go_enter Tryd.func19, Tryd.ntmps19
    go_wp2_with fail
    go_ret
    exact ⟨rfl, Below.refl _ _⟩
  | a :: b :: t, h, hl =>
    obtain ⟨rs, hrs⟩ : ∃ l, l = a :: b :: t := ⟨_, rfl⟩
    have h0 : rs[0]? = some a := by rw [hrs]; rfl
    have h1 : rs[1]? = some b := by rw [hrs]; rfl
    obtain ⟨res, hres⟩ : ∃ r, r = doneR (a :: b :: t) := ⟨_, rfl⟩
    have HRES : Hid (res = if (soaB b && !(eqB b a)) = true then decide (3 ≤ cntR a rs) else decide (2 ≤ cntR a rs)) := Lib.hid (by rw [hres, hrs]; rfl)
    rw [← hres]
    rw [← hrs] at h hl
    clear hres hrs
    have H := Lib.hid h
    have HL := Lib.hid hl
    have H0 := Lib.hid h0
    have H1 := Lib.hid h1
    have hn2 : ¬ (n : Int) < 2 := by
      have := (List.getElem?_eq_some_iff.1 h1).1
      omega
    have HN2 := Lib.hid (show 2 ≤ n by omega)
    clear h hl h0 h1
    go_enter Tryd.func19, Tryd.ntmps19
    go_wp2_with fail
    go_loopw [3, 14] (fun tv i wr => ∃ (k m : Nat), k ≤ n ∧ i = .int .i64 k ∧ tv = .int .i64 m ∧ Hid (m = cntR a (rs.take k)) ∧ Hid (Below w.heap.size w wr)) (fun _ i _ => n - (intOf i).toNat)
    case atStart => exact ⟨0, 0, Nat.zero_le _, rfl, rfl, Lib.hid rfl, Lib.hid (Below.refl _ _)⟩
    case round =>
      obtain ⟨k, m, hk, rfl, rfl, HM, HB⟩ := hrel
      have hmk : m ≤ k := by rw [HM.out]; exact Nat.le_trans (cntR_le _ _) (by rw [List.length_take]; omega)
      by_cases hlt : k < n
      · have hlt' : (k : Int) < n := by omega
        obtain ⟨r, hr⟩ : ∃ r, rs[k]? = some r := ⟨_, List.getElem?_eq_getElem (by rw [HL.out]; omega)⟩
        obtain ⟨bb, off, rfl, hbb, hrg⟩ := H.out.range hr
        obtain ⟨_, _, hAe, _, hrg0⟩ := H.out.range H0.out
        injection hAe with hAe; injection hAe with q1 q2; subst q1 q2
        have hnx := cntR_next a hr
        have HNX := Lib.hid hnx
        obtain ⟨x0, x1, x2, x3⟩ := r
        have HRG : Hid (wr.rangeAt bb (off + k * 4) [.string x0, .int .u16 x1, .int .u32 x2, .string x3]) := Lib.hid (fun j v hv => (HB.out.cell (p := ⟨bb, off + k * 4 + j, none⟩) hbb).trans (hrg j v hv))
        have HR0 : Hid (∀ wx, Below w.heap.size w wx → wx.rangeAt bb off (recCells a)) := Lib.hid (fun wx hb j v hv => (hb.cell (p := ⟨bb, off + j, none⟩) hbb).trans (by have := hrg0 j v hv; simpa using this))
        clear hr hrg hrg0 hnx
        have k0 := HRG.out 0 _ rfl
        have k1 := HRG.out 1 _ rfl
        have k2 := HRG.out 2 _ rfl
        have k3 := HRG.out 3 _ rfl
        rw [Nat.add_zero] at k0
        go_upto_region 7 with fail
        have hCB := Cs.new wr #[.string x0, .int .u16 x1, .int .u32 x2, .string x3] 41 [.string x0, .int .u16 x1, .int .u32 x2, .string x3]
        have hbB := (Below.refl wr.heap.size wr).alloc (Nat.le_refl _) (.cells #[.string x0, .int .u16 x1, .int .u32 x2, .string x3] 41)
        generalize wr.alloc (.cells #[.string x0, .int .u16 x1, .int .u32 x2, .string x3] 41) = w6 at *
        obtain ⟨g, hg⟩ : ∃ g, g = wr.heap.size := ⟨_, rfl⟩
        rw [← hg] at hCB ⊢
        have HCB := Lib.hid hCB
        have HB6 := Lib.hid (below_trans HB.out HB.out.size hbB)
        obtain ⟨VX, hVX⟩ : ∃ v, v = recV (x0, x1, x2, x3) := ⟨_, rfl⟩
        obtain ⟨VA, hVA⟩ : ∃ v, v = recV a := ⟨_, rfl⟩
        have HVX := Lib.hid hVX
        have HVA := Lib.hid hVA
        have HEQ : Hid (∀ w, (binOp .eql 41 VX VA).run Tryd.prog w = .ok (.bool (eqB (x0, x1, x2, x3) a)) w) := Lib.hid (fun w => by rw [HVX.out, HVA.out]; exact rec_eql (x0, x1, x2, x3) a w)
        have hn0 : (0 : Int) < n := by omega
        have hn0' : 0 < n := by omega
        clear hCB hbB hg hVX hVA k0 k1 k2 k3
        refine wp_region_goesG data_follows (fun x => by simp [putsF, Act.put]; rfl) w6.heap.size w6
          [isV VX, isV (.slice (some ⟨bb, off, none⟩) n c), isV (.pointer (some ⟨bb, off, none⟩)), isV VA, isV (.bool (eqB (x0, x1, x2, x3) a))]
          (by kernel_rfl) (by kernel_rfl) (by kernel_rfl) rfl ?_ (Below.refl _ _) ?_ ?_
        · repeat (first | exact trivial | refine ⟨isV_stays _, ?_⟩)
        · refine ⟨?_, ?_, ?_, ?_, ?_, trivial⟩
          all_goals
            intro x wx hR hd
            refine ⟨fun _ => ?_, fun hX => by simp at hX⟩
            simp at hd ⊢
          · refine wp_load_mid 41 _ rfl g 0 (by simp [go_sem]) _ _ (HCB.out.below hR).range Tryd.underlying41 rfl (by kernel_rfl) ?_
            exact next_same _ rfl HVX.out.symm hR
          · go_simp; exact next_same _ rfl rfl hR
          · go_simp; exact next_same _ rfl rfl hR
          · refine wp_load_mid 41 _ rfl bb off (by simp [go_sem, hd]) _ _ (HR0.out wx (below_trans HB6.out HB6.out.size hR)) Tryd.underlying41 rfl (by kernel_rfl) ?_
            exact next_same _ rfl HVA.out.symm hR
          · obtain ⟨hd0, hd1⟩ := hd
            exact wp_binop _ _ _ _ _ rfl hd0 hd1 (by rw [HVX.out, HVA.out]; first | kernel_rfl | rfl) (HEQ.out wx) (next_same _ rfl rfl hR)
        intro x w7 hR hx
        simp [AllWords] at hx
        have h4 : x 4 = .bool (eqB (x0, x1, x2, x3) a) := by simp [hx]
        rw [h4]
        clear hx h4
        have HB7 := Lib.hid (below_trans HB6.out HB6.out.size hR)
        clear hR
        cases hq : eqB (x0, x1, x2, x3) a with
        | true =>
          have HQ := Lib.hid hq
          clear hq
          go_wp2_with fail
          go_round
          case rel => exact ⟨k + 1, m + 1, by omega, by go_num, by go_num, Lib.hid (by rw [HNX.out, HQ.out, if_pos rfl, HM.out]), HB7⟩
          case measure => simp [intOf]; omega
        | false =>
          have HQ := Lib.hid hq
          clear hq
          go_wp2_with fail
          go_round
          case rel => exact ⟨k + 1, m, by omega, by go_num, rfl, Lib.hid (by rw [HNX.out, HQ.out, HM.out]; simp), HB7⟩
          case measure => simp [intOf]; omega
      · have hlt' : ¬ (k : Int) < n := by omega
        obtain rfl : k = n := by omega
        have htk : rs.take k = rs := List.take_of_length_le (by rw [HL.out]; omega)
        rw [htk] at HM
        obtain ⟨bb, off, rfl, hbb, hrg0⟩ := H.out.range H0.out
        obtain ⟨_, _, hAe, _, hrg1⟩ := H.out.range H1.out
        injection hAe with hAe; injection hAe with q1 q2; subst q1 q2
        have HR0 : Hid (∀ wx, Below w.heap.size w wx → wx.rangeAt bb off (recCells a)) := Lib.hid (fun wx hb j v hv => (hb.cell (p := ⟨bb, off + j, none⟩) hbb).trans (by have := hrg0 j v hv; simpa using this))
        have HR1 : Hid (∀ wx, Below w.heap.size w wx → wx.rangeAt bb (off + 4) (recCells b)) := Lib.hid (fun wx hb j v hv => (hb.cell (p := ⟨bb, off + 4 + j, none⟩) hbb).trans (by have := hrg1 j v hv; simpa using this))
        obtain ⟨VB, hVB⟩ : ∃ v, v = recV b := ⟨_, rfl⟩
        obtain ⟨VA, hVA⟩ : ∃ v, v = recV a := ⟨_, rfl⟩
        have HVB := Lib.hid hVB
        have HVA := Lib.hid hVA
        have HNQ : Hid (∀ w, (binOp .neq 41 VB VA).run Tryd.prog w = .ok (.bool (!eqB b a)) w) := Lib.hid (fun w => by rw [HVB.out, HVA.out]; exact rec_neq b a w)
        have IS : Hid (∀ w, Calls Tryd.prog 37 #[VB] w fun e w' => e = .returned (.bool (soaB b)) ∧ Below w.heap.size w w') := Lib.hid (fun w => by rw [HVB.out]; exact isSoa_any b w)
        have hn1 : (1 : Int) < k := by have := HN2.out; omega
        have hn0 : (0 : Int) < k := by omega
        have hn1' : 1 < k := by have := HN2.out; omega
        have hn0' : 0 < k := by omega
        clear htk hrg0 hrg1 hVA hVB hk hbb
        cases hsb : soaB b with
        | true =>
          rw [hsb] at IS
          have HSB := Lib.hid hsb
          clear hsb
          go_upto_region 10 with fail
          refine wp_region_goesG data_follows (fun x => by simp [putsF, Act.put]; rfl) wr.heap.size wr
            [isV (.slice (some ⟨bb, off, none⟩) k c), isV (.pointer (some ⟨bb, off + 4, none⟩)), isV VB, isV (.bool true), isV (.bool true), isV (.slice (some ⟨bb, off, none⟩) k c), isV (.pointer (some ⟨bb, off + 4, none⟩)), isV VB, isV (.slice (some ⟨bb, off, none⟩) k c), isV (.pointer (some ⟨bb, off, none⟩)), isV VA, isV (.bool (!eqB b a)), isV (.bool (!eqB b a))]
            (by kernel_rfl) (by kernel_rfl) (by kernel_rfl) rfl ?_ (Below.refl _ _) ?_ ?_
          · repeat (first | exact trivial | refine ⟨isV_stays _, ?_⟩)
          · refine ⟨?_, ?_, ?_, ?_, ?_, ?_, ?_, ?_, ?_, ?_, ?_, ?_, ?_, trivial⟩
            all_goals
              intro x wx hR hd
              simp at hd
              refine ⟨fun _ => ?_, fun hX => ?_⟩
              rotate_left
              focus (exfalso; first | (simp at hX; done) | (simp [hd] at hX; done))
            · (try simp [hd]); go_simp; exact next_same _ rfl rfl hR
            · (try simp [hd]); go_simp; exact next_same _ rfl rfl hR
            · refine wp_load_mid 41 _ rfl bb (off + 4) (by simp [go_sem, hd]) _ _ (HR1.out wx (below_trans HB.out HB.out.size hR)) Tryd.underlying41 rfl (by kernel_rfl) ?_
              exact next_same _ rfl HVB.out.symm hR
            · try simp [hd]
              go_simp
              go_at_call 37
              refine (IS.out wx).mono ?_
              rintro r wy ⟨rfl, hb⟩
              exact next_call _ rfl rfl hR hR.size hb
            · (try simp [hd]); go_simp; exact next_same _ rfl rfl hR
            · (try simp [hd]); go_simp; exact next_same _ rfl rfl hR
            · (try simp [hd]); go_simp; exact next_same _ rfl rfl hR
            · refine wp_load_mid 41 _ rfl bb (off + 4) (by simp [go_sem, hd]) _ _ (HR1.out wx (below_trans HB.out HB.out.size hR)) Tryd.underlying41 rfl (by kernel_rfl) ?_
              exact next_same _ rfl HVB.out.symm hR
            · (try simp [hd]); go_simp; exact next_same _ rfl rfl hR
            · (try simp [hd]); go_simp; exact next_same _ rfl rfl hR
            · refine wp_load_mid 41 _ rfl bb off (by simp [go_sem, hd]) _ _ (HR0.out wx (below_trans HB.out HB.out.size hR)) Tryd.underlying41 rfl (by kernel_rfl) ?_
              exact next_same _ rfl HVA.out.symm hR
            · obtain ⟨hd0, hd1, -⟩ := hd
              exact wp_binop _ _ _ _ _ rfl hd0 hd1 (by rw [HVB.out, HVA.out]; first | kernel_rfl | rfl) (HNQ.out wx) (next_same _ rfl rfl hR)
            · (try simp [hd]); go_simp; exact next_same _ rfl rfl hR
          intro x w7 hR hx
          simp [AllWords] at hx
          have h12 : x 12 = .bool (!eqB b a) := by simp [hx]
          rw [h12]
          clear hx h12
          have HB7 := Lib.hid (below_trans HB.out HB.out.size hR)
          clear hR
          cases hq : eqB b a with
          | true =>
            have hre : res = decide (2 ≤ m) := by rw [HRES.out, HSB.out, hq, HM.out]; rfl
            clear hq
            by_cases h2 : 2 ≤ m
            · have h2' : (2 : Int) ≤ m := by omega
              rw [decide_eq_true h2] at hre
              subst hre
              go_wp2_with fail
              go_ret
              exact ⟨rfl, HB7.out⟩
            · have h2' : ¬ (2 : Int) ≤ m := by omega
              rw [decide_eq_false h2] at hre
              subst hre
              go_wp2_with fail
              go_ret
              exact ⟨rfl, HB7.out⟩
          | false =>
            have hre : res = decide (3 ≤ m) := by rw [HRES.out, HSB.out, hq, HM.out]; rfl
            clear hq
            by_cases h2 : 3 ≤ m
            · have h2' : (3 : Int) ≤ m := by omega
              rw [decide_eq_true h2] at hre
              subst hre
              go_wp2_with fail
              go_ret
              exact ⟨rfl, HB7.out⟩
            · have h2' : ¬ (3 : Int) ≤ m := by omega
              rw [decide_eq_false h2] at hre
              subst hre
              go_wp2_with fail
              go_ret
              exact ⟨rfl, HB7.out⟩
        | false =>
          rw [hsb] at IS
          have HSB := Lib.hid hsb
          clear hsb
          go_upto_region 10 with fail
          refine wp_region_goesG data_follows (fun x => by simp [putsF, Act.put]; rfl) wr.heap.size wr
            [isV (.slice (some ⟨bb, off, none⟩) k c), isV (.pointer (some ⟨bb, off + 4, none⟩)), isV VB, isV (.bool false), isV (.bool false), isV undef, isV undef, isV undef, isV undef, isV undef, isV undef, isV undef, isV (.bool false)]
            (by kernel_rfl) (by kernel_rfl) (by kernel_rfl) rfl ?_ (Below.refl _ _) ?_ ?_
          · repeat (first | exact trivial | refine ⟨isV_stays _, ?_⟩)
          · refine ⟨?_, ?_, ?_, ?_, ?_, ?_, ?_, ?_, ?_, ?_, ?_, ?_, ?_, trivial⟩
            all_goals
              intro x wx hR hd
              simp at hd
            · refine ⟨fun _ => ?_, fun hX => by first | (simp at hX; done) | (simp [hd] at hX; done)⟩
              (try simp [hd]); go_simp; exact next_same _ rfl rfl hR
            · refine ⟨fun _ => ?_, fun hX => by first | (simp at hX; done) | (simp [hd] at hX; done)⟩
              (try simp [hd]); go_simp; exact next_same _ rfl rfl hR
            · refine ⟨fun _ => ?_, fun hX => by first | (simp at hX; done) | (simp [hd] at hX; done)⟩
              refine wp_load_mid 41 _ rfl bb (off + 4) (by simp [go_sem, hd]) _ _ (HR1.out wx (below_trans HB.out HB.out.size hR)) Tryd.underlying41 rfl (by kernel_rfl) ?_
              exact next_same _ rfl HVB.out.symm hR
            · refine ⟨fun _ => ?_, fun hX => by first | (simp at hX; done) | (simp [hd] at hX; done)⟩
              try simp [hd]
              go_simp
              go_at_call 37
              refine (IS.out wx).mono ?_
              rintro r wy ⟨rfl, hb⟩
              exact next_call _ rfl rfl hR hR.size hb
            · refine ⟨fun _ => ?_, fun hX => by first | (simp at hX; done) | (simp [hd] at hX; done)⟩
              (try simp [hd]); go_simp; exact next_same _ rfl rfl hR
            · refine ⟨fun hX => ?_, fun _ => rfl⟩
              exfalso; first | (simp [hd] at hX; done) | (simp [hd, undef] at hX; done)
            · refine ⟨fun hX => ?_, fun _ => rfl⟩
              exfalso; first | (simp [hd] at hX; done) | (simp [hd, undef] at hX; done)
            · refine ⟨fun hX => ?_, fun _ => rfl⟩
              exfalso; first | (simp [hd] at hX; done) | (simp [hd, undef] at hX; done)
            · refine ⟨fun hX => ?_, fun _ => rfl⟩
              exfalso; first | (simp [hd] at hX; done) | (simp [hd, undef] at hX; done)
            · refine ⟨fun hX => ?_, fun _ => rfl⟩
              exfalso; first | (simp [hd] at hX; done) | (simp [hd, undef] at hX; done)
            · refine ⟨fun hX => ?_, fun _ => rfl⟩
              exfalso; first | (simp [hd] at hX; done) | (simp [hd, undef] at hX; done)
            · refine ⟨fun hX => ?_, fun _ => rfl⟩
              exfalso; first | (simp [hd] at hX; done) | (simp [hd, undef] at hX; done)
            · refine ⟨fun _ => ?_, fun hX => by first | (simp at hX; done) | (simp [hd] at hX; done)⟩
              (try simp [hd]); go_simp; exact next_same _ rfl rfl hR
          intro x w7 hR hx
          simp [AllWords] at hx
          have h12 : x 12 = .bool false := by simp [hx]
          rw [h12]
          clear hx h12
          have HB7 := Lib.hid (below_trans HB.out HB.out.size hR)
          clear hR
          have hre : res = decide (2 ≤ m) := by rw [HRES.out, HSB.out, HM.out]; rfl
          by_cases h2 : 2 ≤ m
          · have h2' : (2 : Int) ≤ m := by omega
            rw [decide_eq_true h2] at hre
            subst hre
            go_wp2_with fail
            go_ret
            exact ⟨rfl, HB7.out⟩
          · have h2' : ¬ (2 : Int) ≤ m := by omega
            rw [decide_eq_false h2] at hre
            subst hre
            go_wp2_with fail
            go_ret
            exact ⟨rfl, HB7.out⟩
end Go.Proofs.YtpbbnpglcadimaaDoor
