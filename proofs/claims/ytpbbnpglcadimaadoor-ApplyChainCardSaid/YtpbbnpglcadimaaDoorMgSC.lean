/- Texts that walks stand on, one behind the other. -/
import Derived.Test.YtpbbnpglcadimaaDoorMgSB
import Derived.Test.YtpbbnpglcadimaaDoorZonF
import Derived.Test.YtpbbnpglcadimaaDoorLawZonC
import Derived.Test.YtpbbnpglcadimaaDoorMgSA
import Derived.Test.YtpbbnpglcadimaaDoorActC
import Derived.Outline
namespace Go.Proofs.YtpbbnpglcadimaaDoor
open Go.RowKit
set_option linter.unusedVariables false
set_option linter.unusedSimpArgs false
set_option maxRecDepth 20000
attribute [local simp] putsF isV wordOf Deps Region.binds Region.wanted Act.put wantedX isB
def badR (m : RecT → Bool) (o : ByteArray) (prev : Option RecT) (r : RecT) : Bool := (match prev with | none => false | some p => decide (0 ≤ cmpR p r)) || !m r || !(stripOf r.1 o).isSome || (r.2.1 == 6 && !(r.1.toList == o.toList))
def scanR (m : RecT → Bool) (o : ByteArray) : Option RecT → Nat → List RecT → Option Nat
  | _, n, [] => some n
  | prev, n, r :: rs => if badR m o prev r = true then none else scanR m o (some r) (if r.2.1 == 6 then n + 1 else n) rs
def prevOf (z : List RecT) (k : Nat) : Option RecT := if k = 0 then none else z[k - 1]?
theorem scan_next {m : RecT → Bool} {o : ByteArray} {z : List RecT} {k s : Nat} {r : RecT} (h : z[k]? = some r) : scanR m o (prevOf z k) s (z.drop k) = if badR m o (prevOf z k) r = true then none else scanR m o (prevOf z (k + 1)) (if r.2.1 == 6 then s + 1 else s) (z.drop (k + 1)) := by
  obtain ⟨hlt, he⟩ := List.getElem?_eq_some_iff.1 h
  rw [List.drop_eq_getElem_cons hlt, he]
  show (if badR m o (prevOf z k) r = true then none else scanR m o (some r) _ _) = _
  have : prevOf z (k + 1) = some r := by unfold prevOf; simp [h]
  rw [this]
/-- Whether they are a zone. -/
def rightR (m : RecT → Bool) (o : ByteArray) (z : List RecT) : Bool := match scanR m o none 0 z with | none => false | some n => n == 1 && (decide (z.length ≤ 256) && decide (sizeR z ≤ 16384))
set_option maxHeartbeats 12800000 in
theorem right_any (m : RecT → Bool) (o : ByteArray) (A : Option Addr) (M c : Nat) (z : List RecT) (w : World) (h : Recs w A z) (hl : z.length = M) (hn : M ≤ 1000) (hs : sizeR z ≤ 1000000000000) (ho : o.size ≤ 100000) (hzs : ∀ r ∈ z, r.1.size ≤ 254)
    (hm : ∀ r ∈ z, ∀ w, Calls Tryd.prog 40 #[recV r] w fun e w' => e = .returned (.bool (m r)) ∧ Below w.heap.size w w') :
    Calls Tryd.prog 58 #[.slice A M c, .string o] w fun e w' => e = .returned (.bool (rightR m o z)) ∧ Below w.heap.size w w' := by
  obtain ⟨R, hRR⟩ : ∃ R, rightR m o z = R := ⟨_, rfl⟩
  rw [hRR]
  have HRR := Lib.hid hRR
  have FT := Lib.hid (fun w h => fits_any A M c z w h hl (by unfold maxLen; omega) hs)
  have H := Lib.hid h
  have HL := Lib.hid hl
  have HM := Lib.hid hm
  have HZS := Lib.hid hzs
  clear hRR h hl hs hm hzs
  go_enter Tryd.func58, Tryd.ntmps58
  go_wp2_with fail
  go_loopw [5, 10] (fun sv i wr => ∃ k s : Nat, k ≤ M ∧ i = .int .i64 k ∧ sv = .int .i64 s ∧ s ≤ k ∧ Hid (scanR m o none 0 z = scanR m o (prevOf z k) s (z.drop k)) ∧ Hid (Below w.heap.size w wr)) (fun _ i _ => M - (intOf i).toNat)
  case atStart => exact ⟨0, 0, Nat.zero_le _, rfl, rfl, Nat.le_refl _, Lib.hid (by simp [prevOf]), Lib.hid (Below.refl _ _)⟩
  case round =>
    obtain ⟨k, s, hk, rfl, rfl, hsk, HK, HB⟩ := hrel
    by_cases hlt : k < M
    · obtain ⟨r, hq⟩ : ∃ q, z[k]? = some q := ⟨_, List.getElem?_eq_getElem (by rw [HL.out]; exact hlt)⟩
      have HN := Lib.hid (scan_next (m := m) (o := o) (s := s) hq)
      have hmem := List.mem_of_getElem? hq
      have CM := Lib.hid (HM.out r hmem)
      have hrs := HZS.out r hmem
      have CB := Lib.hid (fun w => below_any r.1 o w (by unfold maxLen; omega) (by unfold maxLen; omega))
      obtain ⟨bb, off, rfl, hbb, y0, y1, y2, y3⟩ := (H.out.below HB.out) k _ hq
      obtain ⟨r0, r1, r2, r3⟩ := r
      simp only at y0 y1 y2 y3 hrs CB
      unfold recV at CM
      simp only at CM
      obtain ⟨W5, hW5⟩ : ∃ W, W = wr.alloc (.cells #[.string r0, .int .u16 r1, .int .u32 r2, .string r3] 41) := ⟨_, rfl⟩
      have HW5 := Lib.hid hW5
      have HBX : Hid (Cs W5 wr.heap.size [.string r0, .int .u16 r1, .int .u32 r2, .string r3]) := Lib.hid (by rw [hW5]; exact Cs.new _ _ _ _)
      have HB5 : Hid (Below w.heap.size w W5) := Lib.hid (by rw [hW5]; exact HB.out.alloc HB.out.size _)
      have HR5 := Lib.hid (H.out.below HB5.out)
      clear hW5 hmem hrs
      rcases Nat.eq_zero_or_pos k with rfl | hkp
      · have hlt' : ((0 : Nat) : Int) < M := by omega
        simp only [Nat.zero_mul, Nat.add_zero] at y0 y1 y2 y3
        clear hq
        cases em : m (r0, r1, r2, r3) with
        | false =>
          rw [em] at CM
          go_upto_region 5 with fail
          rw [← HW5.out]
          refine wp_region_goesG data_follows (fun x => by simp [putsF, Act.put]; rfl) W5.heap.size W5
            [isV (.int .i64 (0 : Nat)), isV (.bool false), isV (.bool false), isV undef, isV undef, isV undef, isV undef, isV undef, isV undef, isV undef, isV undef, isV (.bool false), isV (.bool false), isV (.agg #[.string r0, .int .u16 r1, .int .u32 r2, .string r3]), isV (.bool false), isV (.bool true), isV (.bool true), isV (.bool true), isV undef, isV undef, isV undef, isV undef, isV undef, isV (.bool true)]
            (by kernel_rfl) (by kernel_rfl) (by kernel_rfl) rfl ?_ (Below.refl _ _) ?_ ?_
          · repeat (first | exact trivial | refine ⟨isV_stays _, ?_⟩)
          · refine ⟨?_, ?_, ?_, ?_, ?_, ?_, ?_, ?_, ?_, ?_, ?_, ?_, ?_, ?_, ?_, ?_, ?_, ?_, ?_, ?_, ?_, ?_, ?_, ?_, trivial⟩
            all_goals
              intro x wx hR hd
              simp at hd
              first
              | (refine ⟨fun hX => ?_, fun _ => rfl⟩; simp [hd] at hX; done)
              | (refine ⟨fun hX => ?_, fun _ => rfl⟩; simp [hd, undef] at hX; done)
              | (refine ⟨fun _ => ?_, fun hX => ?_⟩; rotate_left; (focus simp [hd] at hX); have hc := HBX.out.below hR; have u0 := hc.get 0 _; have u1 := hc.get 1 _; have u2 := hc.get 2 _; have u3 := hc.get 3 _;  clear hc; (try simp [hd]); go_simp; exact next_same _ rfl rfl hR)
              | (refine ⟨fun _ => ?_, fun hX => ?_⟩; rotate_left; (focus simp [hd] at hX); (try simp [hd]); go_simp; go_at_call 40; refine (CM.out wx).mono ?_; rintro e w2 ⟨rfl, hb⟩; exact next_call _ rfl rfl hR hR.size hb)
              | (refine ⟨fun _ => ?_, fun hX => ?_⟩; rotate_left; (focus simp [hd] at hX); (try simp [hd]); go_simp; go_at_call 41; refine (CB.out wx).mono ?_; rintro e w2 ⟨rfl, hb⟩; exact next_call _ rfl rfl hR hR.size hb)
              | (refine ⟨fun _ => ?_, fun hX => ?_⟩; rotate_left; (focus simp [hd] at hX); (try simp [hd]); go_simp; go_at_call 72; refine (CC.out wx).mono ?_; rintro e w2 ⟨rfl, hb⟩; exact next_call _ rfl rfl hR hR.size hb)
          intro x wx hR hx
          simp [AllWords] at hx
          have hlast : x 23 = .bool true := by simp [hx]
          rw [hlast]
          clear hx hlast
          have hc := HBX.out.below hR
          have u0 := hc.get 0 _
          have u1 := hc.get 1 _
          have u2 := hc.get 2 _
          have u3 := hc.get 3 _
          have HBN := Lib.hid (below_trans HB5.out HB5.out.size hR)
          clear hc hR
          have hR0 : R = false := by
            rw [← HRR.out]; unfold rightR
            rw [HK.out, HN.out, if_pos (by simp [badR, prevOf, em])]
          go_wp2_with fail
          go_ret
          exact ⟨by first | rfl | rw [hR0], HBN.out⟩
        | true =>
          rw [em] at CM
          cases eb : (stripOf r0 o).isSome with
          | false =>
            rw [eb] at CB
            go_upto_region 5 with fail
            rw [← HW5.out]
            refine wp_region_goesG data_follows (fun x => by simp [putsF, Act.put]; rfl) W5.heap.size W5
              [isV (.int .i64 (0 : Nat)), isV (.bool false), isV (.bool false), isV undef, isV undef, isV undef, isV undef, isV undef, isV undef, isV undef, isV undef, isV (.bool false), isV (.bool false), isV (.agg #[.string r0, .int .u16 r1, .int .u32 r2, .string r3]), isV (.bool true), isV (.bool false), isV (.bool false), isV (.bool false), isV (.pointer (some ⟨wr.heap.size, 0, none⟩)), isV (.string r0), isV (.string o), isV (.bool false), isV (.bool true), isV (.bool true)]
              (by kernel_rfl) (by kernel_rfl) (by kernel_rfl) rfl ?_ (Below.refl _ _) ?_ ?_
            · repeat (first | exact trivial | refine ⟨isV_stays _, ?_⟩)
            · refine ⟨?_, ?_, ?_, ?_, ?_, ?_, ?_, ?_, ?_, ?_, ?_, ?_, ?_, ?_, ?_, ?_, ?_, ?_, ?_, ?_, ?_, ?_, ?_, ?_, trivial⟩
              all_goals
                intro x wx hR hd
                simp at hd
                first
                | (refine ⟨fun hX => ?_, fun _ => rfl⟩; simp [hd] at hX; done)
                | (refine ⟨fun hX => ?_, fun _ => rfl⟩; simp [hd, undef] at hX; done)
                | (refine ⟨fun _ => ?_, fun hX => ?_⟩; rotate_left; (focus simp [hd] at hX); have hc := HBX.out.below hR; have u0 := hc.get 0 _; have u1 := hc.get 1 _; have u2 := hc.get 2 _; have u3 := hc.get 3 _;  clear hc; (try simp [hd]); go_simp; exact next_same _ rfl rfl hR)
                | (refine ⟨fun _ => ?_, fun hX => ?_⟩; rotate_left; (focus simp [hd] at hX); (try simp [hd]); go_simp; go_at_call 40; refine (CM.out wx).mono ?_; rintro e w2 ⟨rfl, hb⟩; exact next_call _ rfl rfl hR hR.size hb)
                | (refine ⟨fun _ => ?_, fun hX => ?_⟩; rotate_left; (focus simp [hd] at hX); (try simp [hd]); go_simp; go_at_call 41; refine (CB.out wx).mono ?_; rintro e w2 ⟨rfl, hb⟩; exact next_call _ rfl rfl hR hR.size hb)
                | (refine ⟨fun _ => ?_, fun hX => ?_⟩; rotate_left; (focus simp [hd] at hX); (try simp [hd]); go_simp; go_at_call 72; refine (CC.out wx).mono ?_; rintro e w2 ⟨rfl, hb⟩; exact next_call _ rfl rfl hR hR.size hb)
            intro x wx hR hx
            simp [AllWords] at hx
            have hlast : x 23 = .bool true := by simp [hx]
            rw [hlast]
            clear hx hlast
            have hc := HBX.out.below hR
            have u0 := hc.get 0 _
            have u1 := hc.get 1 _
            have u2 := hc.get 2 _
            have u3 := hc.get 3 _
            have HBN := Lib.hid (below_trans HB5.out HB5.out.size hR)
            clear hc hR
            have hR0 : R = false := by
              rw [← HRR.out]; unfold rightR
              rw [HK.out, HN.out, if_pos (by simp [badR, prevOf, em, eb])]
            go_wp2_with fail
            go_ret
            exact ⟨by first | rfl | rw [hR0], HBN.out⟩
          | true =>
            rw [eb] at CB
            go_upto_region 5 with fail
            rw [← HW5.out]
            refine wp_region_goesG data_follows (fun x => by simp [putsF, Act.put]; rfl) W5.heap.size W5
              [isV (.int .i64 (0 : Nat)), isV (.bool false), isV (.bool false), isV undef, isV undef, isV undef, isV undef, isV undef, isV undef, isV undef, isV undef, isV (.bool false), isV (.bool false), isV (.agg #[.string r0, .int .u16 r1, .int .u32 r2, .string r3]), isV (.bool true), isV (.bool false), isV (.bool false), isV (.bool false), isV (.pointer (some ⟨wr.heap.size, 0, none⟩)), isV (.string r0), isV (.string o), isV (.bool true), isV (.bool false), isV (.bool false)]
              (by kernel_rfl) (by kernel_rfl) (by kernel_rfl) rfl ?_ (Below.refl _ _) ?_ ?_
            · repeat (first | exact trivial | refine ⟨isV_stays _, ?_⟩)
            · refine ⟨?_, ?_, ?_, ?_, ?_, ?_, ?_, ?_, ?_, ?_, ?_, ?_, ?_, ?_, ?_, ?_, ?_, ?_, ?_, ?_, ?_, ?_, ?_, ?_, trivial⟩
              all_goals
                intro x wx hR hd
                simp at hd
                first
                | (refine ⟨fun hX => ?_, fun _ => rfl⟩; simp [hd] at hX; done)
                | (refine ⟨fun hX => ?_, fun _ => rfl⟩; simp [hd, undef] at hX; done)
                | (refine ⟨fun _ => ?_, fun hX => ?_⟩; rotate_left; (focus simp [hd] at hX); have hc := HBX.out.below hR; have u0 := hc.get 0 _; have u1 := hc.get 1 _; have u2 := hc.get 2 _; have u3 := hc.get 3 _;  clear hc; (try simp [hd]); go_simp; exact next_same _ rfl rfl hR)
                | (refine ⟨fun _ => ?_, fun hX => ?_⟩; rotate_left; (focus simp [hd] at hX); (try simp [hd]); go_simp; go_at_call 40; refine (CM.out wx).mono ?_; rintro e w2 ⟨rfl, hb⟩; exact next_call _ rfl rfl hR hR.size hb)
                | (refine ⟨fun _ => ?_, fun hX => ?_⟩; rotate_left; (focus simp [hd] at hX); (try simp [hd]); go_simp; go_at_call 41; refine (CB.out wx).mono ?_; rintro e w2 ⟨rfl, hb⟩; exact next_call _ rfl rfl hR hR.size hb)
                | (refine ⟨fun _ => ?_, fun hX => ?_⟩; rotate_left; (focus simp [hd] at hX); (try simp [hd]); go_simp; go_at_call 72; refine (CC.out wx).mono ?_; rintro e w2 ⟨rfl, hb⟩; exact next_call _ rfl rfl hR hR.size hb)
            intro x wx hR hx
            simp [AllWords] at hx
            have hlast : x 23 = .bool false := by simp [hx]
            rw [hlast]
            clear hx hlast
            have hc := HBX.out.below hR
            have u0 := hc.get 0 _
            have u1 := hc.get 1 _
            have u2 := hc.get 2 _
            have u3 := hc.get 3 _
            have HBN := Lib.hid (below_trans HB5.out HB5.out.size hR)
            clear hc hR
            have HGB : Hid (badR m o (prevOf z 0) (r0, r1, r2, r3) = (r1 == 6 && !(r0.toList == o.toList))) := Lib.hid (by simp [badR, prevOf, em, eb])
            cases e6 : (r1 == 6) with
            | false =>
              rw [HGB.out, e6] at HN
              have HN2 : Hid (scanR m o (prevOf z 0) s (z.drop 0) = scanR m o (prevOf z (0 + 1)) s (z.drop (0 + 1))) := Lib.hid (by rw [HN.out]; simp [e6])
              go_wp2_with fail
              go_round
              case rel => exact ⟨0 + 1, s, by omega, by first | rfl | go_num, rfl, by omega, Lib.hid (HK.out.trans HN2.out), HBN⟩
              case measure => simp [intOf]; omega
            | true =>
              cases eo : (r0.toList == o.toList) with
              | true =>
                rw [HGB.out, e6, eo] at HN
                have HN2 : Hid (scanR m o (prevOf z 0) s (z.drop 0) = scanR m o (prevOf z (0 + 1)) (s + 1) (z.drop (0 + 1))) := Lib.hid (by rw [HN.out]; simp [e6])
                have hw1 : IntKind.i64.wrap ((s : Int) + 1) = ((s + 1 : Nat) : Int) := by rw [IntKind.wrap_i64]; omega
                go_wp2_with fail
                go_round
                case rel => exact ⟨0 + 1, s + 1, by omega, by first | rfl | go_num, by first | rfl | go_num, by omega, Lib.hid (HK.out.trans HN2.out), HBN⟩
                case measure => simp [intOf]; omega
              | false =>
                have hR0 : R = false := by
                  rw [← HRR.out]; unfold rightR
                  rw [HK.out, HN.out, if_pos (by rw [HGB.out, e6, eo]; rfl)]
                go_wp2_with fail
                go_ret
                exact ⟨by first | rfl | rw [hR0], HBN.out⟩
      · obtain ⟨j, rfl⟩ : ∃ j, k = j + 1 := ⟨k - 1, by omega⟩
        have hlt' : ((j + 1 : Nat) : Int) < M := by omega
        have hlt2 : (j : Int) + 1 < M := by omega
        have hlt3 : (j : Int) < M := by omega
        have hj0 : ¬ (j : Int) < 0 := by omega
        have hjp : (0 : Int) < (j : Int) + 1 := by omega
        obtain ⟨p, hp⟩ : ∃ q, z[j]? = some q := ⟨_, List.getElem?_eq_getElem (by rw [HL.out]; omega)⟩
        have PV : Hid (∀ wx, Below W5.heap.size W5 wx → wx.cell? ⟨bb, off + j * 4, none⟩ = some (.string p.1) ∧ wx.cell? ⟨bb, off + j * 4 + 1, none⟩ = some (.int .u16 p.2.1) ∧ wx.cell? ⟨bb, off + j * 4 + 2, none⟩ = some (.int .u32 p.2.2.1) ∧ wx.cell? ⟨bb, off + j * 4 + 3, none⟩ = some (.string p.2.2.2)) := Lib.hid (fun wx hb => by
          obtain ⟨b2, off2, he, _, q0, q1, q2, q3⟩ := (HR5.out.below hb) j _ hp
          injection he with he; injection he with he1 he2 he3
          subst he1 he2
          exact ⟨q0, q1, q2, q3⟩)
        have hpv : prevOf z (j + 1) = some p := by unfold prevOf; simp [hp]
        obtain ⟨p0, p1, p2, p3⟩ := p
        simp only at PV
        obtain ⟨x, hx⟩ : ∃ x, cmpR (p0, p1, p2, p3) (r0, r1, r2, r3) = x := ⟨_, rfl⟩
        have hrg : x = -1 ∨ x = 0 ∨ x = 1 := by rw [← hx]; exact cmpR_is.range _ _
        have CC := Lib.hid (fun w => compare_any (p0, p1, p2, p3) (r0, r1, r2, r3) w)
        rw [hx] at CC
        unfold recV at CC
        simp only at CC
        have hwj : IntKind.i64.wrap (((j + 1 : Nat) : Int) - 1) = (j : Int) := by rw [IntKind.wrap_i64]; omega
        have hwj2 : IntKind.i64.wrap (((j : Int) + 1) - 1) = (j : Int) := by rw [IntKind.wrap_i64]; omega
        have hwj3 : IntKind.i64.wrap (j : Int) = (j : Int) := by rw [IntKind.wrap_i64]; omega
        clear hp hq hkp
        rcases hrg with rfl | rfl | rfl
        · cases em : m (r0, r1, r2, r3) with
          | false =>
            rw [em] at CM
            go_upto_region 5 with fail
            rw [← HW5.out]
            refine wp_region_goesG data_follows (fun x => by simp [putsF, Act.put]; rfl) W5.heap.size W5
              [isV (.int .i64 ((j + 1 : Nat) : Int)), isV (.bool true), isV (.bool true), isV (.slice (some ⟨bb, off, none⟩) M c), isV (.int .i64 ((j + 1 : Nat) : Int)), isV (.int .i64 (j : Nat)), isV (.pointer (some ⟨bb, off + j * 4, none⟩)), isV (.agg #[.string p0, .int .u16 p1, .int .u32 p2, .string p3]), isV (.agg #[.string r0, .int .u16 r1, .int .u32 r2, .string r3]), isV (.int .i64 (-1)), isV (.bool false), isV (.bool false), isV (.bool false), isV (.agg #[.string r0, .int .u16 r1, .int .u32 r2, .string r3]), isV (.bool false), isV (.bool true), isV (.bool true), isV (.bool true), isV undef, isV undef, isV undef, isV undef, isV undef, isV (.bool true)]
              (by kernel_rfl) (by kernel_rfl) (by kernel_rfl) rfl ?_ (Below.refl _ _) ?_ ?_
            · repeat (first | exact trivial | refine ⟨isV_stays _, ?_⟩)
            · refine ⟨?_, ?_, ?_, ?_, ?_, ?_, ?_, ?_, ?_, ?_, ?_, ?_, ?_, ?_, ?_, ?_, ?_, ?_, ?_, ?_, ?_, ?_, ?_, ?_, trivial⟩
              all_goals
                intro x wx hR hd
                simp at hd
                first
                | (refine ⟨fun hX => ?_, fun _ => rfl⟩; simp [hd] at hX; done)
                | (refine ⟨fun hX => ?_, fun _ => rfl⟩; simp [hd, undef] at hX; done)
                | (refine ⟨fun _ => ?_, fun hX => ?_⟩; rotate_left; (focus simp [hd] at hX); have hc := HBX.out.below hR; have u0 := hc.get 0 _; have u1 := hc.get 1 _; have u2 := hc.get 2 _; have u3 := hc.get 3 _; obtain ⟨v0, v1, v2, v3⟩ := PV.out wx hR; clear hc; (try simp [hd]); go_simp; exact next_same _ rfl rfl hR)
                | (refine ⟨fun _ => ?_, fun hX => ?_⟩; rotate_left; (focus simp [hd] at hX); (try simp [hd]); go_simp; go_at_call 40; refine (CM.out wx).mono ?_; rintro e w2 ⟨rfl, hb⟩; exact next_call _ rfl rfl hR hR.size hb)
                | (refine ⟨fun _ => ?_, fun hX => ?_⟩; rotate_left; (focus simp [hd] at hX); (try simp [hd]); go_simp; go_at_call 41; refine (CB.out wx).mono ?_; rintro e w2 ⟨rfl, hb⟩; exact next_call _ rfl rfl hR hR.size hb)
                | (refine ⟨fun _ => ?_, fun hX => ?_⟩; rotate_left; (focus simp [hd] at hX); (try simp [hd]); go_simp; go_at_call 72; refine (CC.out wx).mono ?_; rintro e w2 ⟨rfl, hb⟩; exact next_call _ rfl rfl hR hR.size hb)
            intro x wx hR hx
            simp [AllWords] at hx
            have hlast : x 23 = .bool true := by simp [hx]
            rw [hlast]
            clear hx hlast
            have hc := HBX.out.below hR
            have u0 := hc.get 0 _
            have u1 := hc.get 1 _
            have u2 := hc.get 2 _
            have u3 := hc.get 3 _
            have HBN := Lib.hid (below_trans HB5.out HB5.out.size hR)
            clear hc hR
            have hR0 : R = false := by
              rw [← HRR.out]; unfold rightR
              rw [HK.out, HN.out, if_pos (by simp [badR, hpv, hx, em])]
            go_wp2_with fail
            go_ret
            exact ⟨by first | rfl | rw [hR0], HBN.out⟩
          | true =>
            rw [em] at CM
            cases eb : (stripOf r0 o).isSome with
            | false =>
              rw [eb] at CB
              go_upto_region 5 with fail
              rw [← HW5.out]
              refine wp_region_goesG data_follows (fun x => by simp [putsF, Act.put]; rfl) W5.heap.size W5
                [isV (.int .i64 ((j + 1 : Nat) : Int)), isV (.bool true), isV (.bool true), isV (.slice (some ⟨bb, off, none⟩) M c), isV (.int .i64 ((j + 1 : Nat) : Int)), isV (.int .i64 (j : Nat)), isV (.pointer (some ⟨bb, off + j * 4, none⟩)), isV (.agg #[.string p0, .int .u16 p1, .int .u32 p2, .string p3]), isV (.agg #[.string r0, .int .u16 r1, .int .u32 r2, .string r3]), isV (.int .i64 (-1)), isV (.bool false), isV (.bool false), isV (.bool false), isV (.agg #[.string r0, .int .u16 r1, .int .u32 r2, .string r3]), isV (.bool true), isV (.bool false), isV (.bool false), isV (.bool false), isV (.pointer (some ⟨wr.heap.size, 0, none⟩)), isV (.string r0), isV (.string o), isV (.bool false), isV (.bool true), isV (.bool true)]
                (by kernel_rfl) (by kernel_rfl) (by kernel_rfl) rfl ?_ (Below.refl _ _) ?_ ?_
              · repeat (first | exact trivial | refine ⟨isV_stays _, ?_⟩)
              · refine ⟨?_, ?_, ?_, ?_, ?_, ?_, ?_, ?_, ?_, ?_, ?_, ?_, ?_, ?_, ?_, ?_, ?_, ?_, ?_, ?_, ?_, ?_, ?_, ?_, trivial⟩
                all_goals
                  intro x wx hR hd
                  simp at hd
                  first
                  | (refine ⟨fun hX => ?_, fun _ => rfl⟩; simp [hd] at hX; done)
                  | (refine ⟨fun hX => ?_, fun _ => rfl⟩; simp [hd, undef] at hX; done)
                  | (refine ⟨fun _ => ?_, fun hX => ?_⟩; rotate_left; (focus simp [hd] at hX); have hc := HBX.out.below hR; have u0 := hc.get 0 _; have u1 := hc.get 1 _; have u2 := hc.get 2 _; have u3 := hc.get 3 _; obtain ⟨v0, v1, v2, v3⟩ := PV.out wx hR; clear hc; (try simp [hd]); go_simp; exact next_same _ rfl rfl hR)
                  | (refine ⟨fun _ => ?_, fun hX => ?_⟩; rotate_left; (focus simp [hd] at hX); (try simp [hd]); go_simp; go_at_call 40; refine (CM.out wx).mono ?_; rintro e w2 ⟨rfl, hb⟩; exact next_call _ rfl rfl hR hR.size hb)
                  | (refine ⟨fun _ => ?_, fun hX => ?_⟩; rotate_left; (focus simp [hd] at hX); (try simp [hd]); go_simp; go_at_call 41; refine (CB.out wx).mono ?_; rintro e w2 ⟨rfl, hb⟩; exact next_call _ rfl rfl hR hR.size hb)
                  | (refine ⟨fun _ => ?_, fun hX => ?_⟩; rotate_left; (focus simp [hd] at hX); (try simp [hd]); go_simp; go_at_call 72; refine (CC.out wx).mono ?_; rintro e w2 ⟨rfl, hb⟩; exact next_call _ rfl rfl hR hR.size hb)
              intro x wx hR hx
              simp [AllWords] at hx
              have hlast : x 23 = .bool true := by simp [hx]
              rw [hlast]
              clear hx hlast
              have hc := HBX.out.below hR
              have u0 := hc.get 0 _
              have u1 := hc.get 1 _
              have u2 := hc.get 2 _
              have u3 := hc.get 3 _
              have HBN := Lib.hid (below_trans HB5.out HB5.out.size hR)
              clear hc hR
              have hR0 : R = false := by
                rw [← HRR.out]; unfold rightR
                rw [HK.out, HN.out, if_pos (by simp [badR, hpv, hx, em, eb])]
              go_wp2_with fail
              go_ret
              exact ⟨by first | rfl | rw [hR0], HBN.out⟩
            | true =>
              rw [eb] at CB
              go_upto_region 5 with fail
              rw [← HW5.out]
              refine wp_region_goesG data_follows (fun x => by simp [putsF, Act.put]; rfl) W5.heap.size W5
                [isV (.int .i64 ((j + 1 : Nat) : Int)), isV (.bool true), isV (.bool true), isV (.slice (some ⟨bb, off, none⟩) M c), isV (.int .i64 ((j + 1 : Nat) : Int)), isV (.int .i64 (j : Nat)), isV (.pointer (some ⟨bb, off + j * 4, none⟩)), isV (.agg #[.string p0, .int .u16 p1, .int .u32 p2, .string p3]), isV (.agg #[.string r0, .int .u16 r1, .int .u32 r2, .string r3]), isV (.int .i64 (-1)), isV (.bool false), isV (.bool false), isV (.bool false), isV (.agg #[.string r0, .int .u16 r1, .int .u32 r2, .string r3]), isV (.bool true), isV (.bool false), isV (.bool false), isV (.bool false), isV (.pointer (some ⟨wr.heap.size, 0, none⟩)), isV (.string r0), isV (.string o), isV (.bool true), isV (.bool false), isV (.bool false)]
                (by kernel_rfl) (by kernel_rfl) (by kernel_rfl) rfl ?_ (Below.refl _ _) ?_ ?_
              · repeat (first | exact trivial | refine ⟨isV_stays _, ?_⟩)
              · refine ⟨?_, ?_, ?_, ?_, ?_, ?_, ?_, ?_, ?_, ?_, ?_, ?_, ?_, ?_, ?_, ?_, ?_, ?_, ?_, ?_, ?_, ?_, ?_, ?_, trivial⟩
                all_goals
                  intro x wx hR hd
                  simp at hd
                  first
                  | (refine ⟨fun hX => ?_, fun _ => rfl⟩; simp [hd] at hX; done)
                  | (refine ⟨fun hX => ?_, fun _ => rfl⟩; simp [hd, undef] at hX; done)
                  | (refine ⟨fun _ => ?_, fun hX => ?_⟩; rotate_left; (focus simp [hd] at hX); have hc := HBX.out.below hR; have u0 := hc.get 0 _; have u1 := hc.get 1 _; have u2 := hc.get 2 _; have u3 := hc.get 3 _; obtain ⟨v0, v1, v2, v3⟩ := PV.out wx hR; clear hc; (try simp [hd]); go_simp; exact next_same _ rfl rfl hR)
                  | (refine ⟨fun _ => ?_, fun hX => ?_⟩; rotate_left; (focus simp [hd] at hX); (try simp [hd]); go_simp; go_at_call 40; refine (CM.out wx).mono ?_; rintro e w2 ⟨rfl, hb⟩; exact next_call _ rfl rfl hR hR.size hb)
                  | (refine ⟨fun _ => ?_, fun hX => ?_⟩; rotate_left; (focus simp [hd] at hX); (try simp [hd]); go_simp; go_at_call 41; refine (CB.out wx).mono ?_; rintro e w2 ⟨rfl, hb⟩; exact next_call _ rfl rfl hR hR.size hb)
                  | (refine ⟨fun _ => ?_, fun hX => ?_⟩; rotate_left; (focus simp [hd] at hX); (try simp [hd]); go_simp; go_at_call 72; refine (CC.out wx).mono ?_; rintro e w2 ⟨rfl, hb⟩; exact next_call _ rfl rfl hR hR.size hb)
              intro x wx hR hx
              simp [AllWords] at hx
              have hlast : x 23 = .bool false := by simp [hx]
              rw [hlast]
              clear hx hlast
              have hc := HBX.out.below hR
              have u0 := hc.get 0 _
              have u1 := hc.get 1 _
              have u2 := hc.get 2 _
              have u3 := hc.get 3 _
              have HBN := Lib.hid (below_trans HB5.out HB5.out.size hR)
              clear hc hR
              have HGB : Hid (badR m o (prevOf z (j + 1)) (r0, r1, r2, r3) = (r1 == 6 && !(r0.toList == o.toList))) := Lib.hid (by simp [badR, hpv, hx, em, eb])
              cases e6 : (r1 == 6) with
              | false =>
                rw [HGB.out, e6] at HN
                have HN2 : Hid (scanR m o (prevOf z (j + 1)) s (z.drop (j + 1)) = scanR m o (prevOf z ((j + 1) + 1)) s (z.drop ((j + 1) + 1))) := Lib.hid (by rw [HN.out]; simp [e6])
                go_wp2_with fail
                go_round
                case rel => exact ⟨(j + 1) + 1, s, by omega, by first | rfl | go_num, rfl, by omega, Lib.hid (HK.out.trans HN2.out), HBN⟩
                case measure => simp [intOf]; omega
              | true =>
                cases eo : (r0.toList == o.toList) with
                | true =>
                  rw [HGB.out, e6, eo] at HN
                  have HN2 : Hid (scanR m o (prevOf z (j + 1)) s (z.drop (j + 1)) = scanR m o (prevOf z ((j + 1) + 1)) (s + 1) (z.drop ((j + 1) + 1))) := Lib.hid (by rw [HN.out]; simp [e6])
                  have hw1 : IntKind.i64.wrap ((s : Int) + 1) = ((s + 1 : Nat) : Int) := by rw [IntKind.wrap_i64]; omega
                  go_wp2_with fail
                  go_round
                  case rel => exact ⟨(j + 1) + 1, s + 1, by omega, by first | rfl | go_num, by first | rfl | go_num, by omega, Lib.hid (HK.out.trans HN2.out), HBN⟩
                  case measure => simp [intOf]; omega
                | false =>
                  have hR0 : R = false := by
                    rw [← HRR.out]; unfold rightR
                    rw [HK.out, HN.out, if_pos (by rw [HGB.out, e6, eo]; rfl)]
                  go_wp2_with fail
                  go_ret
                  exact ⟨by first | rfl | rw [hR0], HBN.out⟩
        · go_upto_region 5 with fail
          rw [← HW5.out]
          refine wp_region_goesG data_follows (fun x => by simp [putsF, Act.put]; rfl) W5.heap.size W5
            [isV (.int .i64 ((j + 1 : Nat) : Int)), isV (.bool true), isV (.bool true), isV (.slice (some ⟨bb, off, none⟩) M c), isV (.int .i64 ((j + 1 : Nat) : Int)), isV (.int .i64 (j : Nat)), isV (.pointer (some ⟨bb, off + j * 4, none⟩)), isV (.agg #[.string p0, .int .u16 p1, .int .u32 p2, .string p3]), isV (.agg #[.string r0, .int .u16 r1, .int .u32 r2, .string r3]), isV (.int .i64 (0)), isV (.bool true), isV (.bool true), isV (.bool true), isV undef, isV undef, isV undef, isV (.bool true), isV (.bool true), isV undef, isV undef, isV undef, isV undef, isV undef, isV (.bool true)]
            (by kernel_rfl) (by kernel_rfl) (by kernel_rfl) rfl ?_ (Below.refl _ _) ?_ ?_
          · repeat (first | exact trivial | refine ⟨isV_stays _, ?_⟩)
          · refine ⟨?_, ?_, ?_, ?_, ?_, ?_, ?_, ?_, ?_, ?_, ?_, ?_, ?_, ?_, ?_, ?_, ?_, ?_, ?_, ?_, ?_, ?_, ?_, ?_, trivial⟩
            all_goals
              intro x wx hR hd
              simp at hd
              first
              | (refine ⟨fun hX => ?_, fun _ => rfl⟩; simp [hd] at hX; done)
              | (refine ⟨fun hX => ?_, fun _ => rfl⟩; simp [hd, undef] at hX; done)
              | (refine ⟨fun _ => ?_, fun hX => ?_⟩; rotate_left; (focus simp [hd] at hX); have hc := HBX.out.below hR; have u0 := hc.get 0 _; have u1 := hc.get 1 _; have u2 := hc.get 2 _; have u3 := hc.get 3 _; obtain ⟨v0, v1, v2, v3⟩ := PV.out wx hR; clear hc; (try simp [hd]); go_simp; exact next_same _ rfl rfl hR)
              | (refine ⟨fun _ => ?_, fun hX => ?_⟩; rotate_left; (focus simp [hd] at hX); (try simp [hd]); go_simp; go_at_call 40; refine (CM.out wx).mono ?_; rintro e w2 ⟨rfl, hb⟩; exact next_call _ rfl rfl hR hR.size hb)
              | (refine ⟨fun _ => ?_, fun hX => ?_⟩; rotate_left; (focus simp [hd] at hX); (try simp [hd]); go_simp; go_at_call 41; refine (CB.out wx).mono ?_; rintro e w2 ⟨rfl, hb⟩; exact next_call _ rfl rfl hR hR.size hb)
              | (refine ⟨fun _ => ?_, fun hX => ?_⟩; rotate_left; (focus simp [hd] at hX); (try simp [hd]); go_simp; go_at_call 72; refine (CC.out wx).mono ?_; rintro e w2 ⟨rfl, hb⟩; exact next_call _ rfl rfl hR hR.size hb)
          intro x wx hR hx
          simp [AllWords] at hx
          have hlast : x 23 = .bool true := by simp [hx]
          rw [hlast]
          clear hx hlast
          have hc := HBX.out.below hR
          have u0 := hc.get 0 _
          have u1 := hc.get 1 _
          have u2 := hc.get 2 _
          have u3 := hc.get 3 _
          have HBN := Lib.hid (below_trans HB5.out HB5.out.size hR)
          clear hc hR
          have hR0 : R = false := by
            rw [← HRR.out]; unfold rightR
            rw [HK.out, HN.out, if_pos (by simp [badR, hpv, hx])]
          go_wp2_with fail
          go_ret
          exact ⟨by first | rfl | rw [hR0], HBN.out⟩
        · go_upto_region 5 with fail
          rw [← HW5.out]
          refine wp_region_goesG data_follows (fun x => by simp [putsF, Act.put]; rfl) W5.heap.size W5
            [isV (.int .i64 ((j + 1 : Nat) : Int)), isV (.bool true), isV (.bool true), isV (.slice (some ⟨bb, off, none⟩) M c), isV (.int .i64 ((j + 1 : Nat) : Int)), isV (.int .i64 (j : Nat)), isV (.pointer (some ⟨bb, off + j * 4, none⟩)), isV (.agg #[.string p0, .int .u16 p1, .int .u32 p2, .string p3]), isV (.agg #[.string r0, .int .u16 r1, .int .u32 r2, .string r3]), isV (.int .i64 (1)), isV (.bool true), isV (.bool true), isV (.bool true), isV undef, isV undef, isV undef, isV (.bool true), isV (.bool true), isV undef, isV undef, isV undef, isV undef, isV undef, isV (.bool true)]
            (by kernel_rfl) (by kernel_rfl) (by kernel_rfl) rfl ?_ (Below.refl _ _) ?_ ?_
          · repeat (first | exact trivial | refine ⟨isV_stays _, ?_⟩)
          · refine ⟨?_, ?_, ?_, ?_, ?_, ?_, ?_, ?_, ?_, ?_, ?_, ?_, ?_, ?_, ?_, ?_, ?_, ?_, ?_, ?_, ?_, ?_, ?_, ?_, trivial⟩
            all_goals
              intro x wx hR hd
              simp at hd
              first
              | (refine ⟨fun hX => ?_, fun _ => rfl⟩; simp [hd] at hX; done)
              | (refine ⟨fun hX => ?_, fun _ => rfl⟩; simp [hd, undef] at hX; done)
              | (refine ⟨fun _ => ?_, fun hX => ?_⟩; rotate_left; (focus simp [hd] at hX); have hc := HBX.out.below hR; have u0 := hc.get 0 _; have u1 := hc.get 1 _; have u2 := hc.get 2 _; have u3 := hc.get 3 _; obtain ⟨v0, v1, v2, v3⟩ := PV.out wx hR; clear hc; (try simp [hd]); go_simp; exact next_same _ rfl rfl hR)
              | (refine ⟨fun _ => ?_, fun hX => ?_⟩; rotate_left; (focus simp [hd] at hX); (try simp [hd]); go_simp; go_at_call 40; refine (CM.out wx).mono ?_; rintro e w2 ⟨rfl, hb⟩; exact next_call _ rfl rfl hR hR.size hb)
              | (refine ⟨fun _ => ?_, fun hX => ?_⟩; rotate_left; (focus simp [hd] at hX); (try simp [hd]); go_simp; go_at_call 41; refine (CB.out wx).mono ?_; rintro e w2 ⟨rfl, hb⟩; exact next_call _ rfl rfl hR hR.size hb)
              | (refine ⟨fun _ => ?_, fun hX => ?_⟩; rotate_left; (focus simp [hd] at hX); (try simp [hd]); go_simp; go_at_call 72; refine (CC.out wx).mono ?_; rintro e w2 ⟨rfl, hb⟩; exact next_call _ rfl rfl hR hR.size hb)
          intro x wx hR hx
          simp [AllWords] at hx
          have hlast : x 23 = .bool true := by simp [hx]
          rw [hlast]
          clear hx hlast
          have hc := HBX.out.below hR
          have u0 := hc.get 0 _
          have u1 := hc.get 1 _
          have u2 := hc.get 2 _
          have u3 := hc.get 3 _
          have HBN := Lib.hid (below_trans HB5.out HB5.out.size hR)
          clear hc hR
          have hR0 : R = false := by
            rw [← HRR.out]; unfold rightR
            rw [HK.out, HN.out, if_pos (by simp [badR, hpv, hx])]
          go_wp2_with fail
          go_ret
          exact ⟨by first | rfl | rw [hR0], HBN.out⟩
    · have hlt' : ¬ (k : Int) < M := by omega
      obtain rfl : k = M := by omega
      have hdk : z.drop k = [] := List.drop_eq_nil_of_le (by rw [HL.out]; exact Nat.le_refl _)
      have hfin : R = (s == 1 && fitsR k (sizeR z)) := by
        rw [← HRR.out]; unfold rightR
        rw [HK.out, hdk]
        simp [scanR, fitsR, HL.out]
      have HRW := Lib.hid (H.out.below HB.out)
      clear hdk
      cases e1 : (s == 1) with
      | false =>
        have he1 : ((s : Int) == 1) = false := by simp at e1 ⊢; omega
        rw [e1] at hfin
        go_wp2_with fail
        go_ret
        exact ⟨by first | rfl | (rw [hfin]; rfl), HB.out⟩
      | true =>
        obtain rfl : s = 1 := by simpa using e1
        rw [e1] at hfin
        go_wp2_with fail
        refine (FT.out _ HRW.out).mono ?_
        rintro e w2 ⟨rfl, hb⟩
        have HBF := Lib.hid (below_trans HB.out HB.out.size hb)
        clear hb
        go_wp2_with fail
        go_ret
        exact ⟨by first | rfl | (rw [hfin]; rfl), HBF.out⟩
end Go.Proofs.YtpbbnpglcadimaaDoor
namespace Go.Proofs.YtpbbnpglcadimaaDoor
open Go.RowKit
set_option linter.unusedVariables false
set_option linter.unusedSimpArgs false
set_option maxRecDepth 20000
theorem dataOf_ty10 (q : Nat) (X s : ByteArray) : (dataOf q X s).1 < 65536 := by
  unfold dataOf
  (repeat' split) <;> first | decide | (simp; done) | omega
def fit10 (r : RecT) : Prop := (0 ≤ r.2.1 ∧ r.2.1 < 65536) ∧ r.1.size ≤ 254 ∧ r.2.2.2.size ≤ 100000
theorem fit10_soa (o : ByteArray) (ho : o.size ≤ 254) (n : Nat) : fit10 (soaR o n) := by
  refine ⟨⟨by show (0 : Int) ≤ 6; decide, by show (6 : Int) < 65536; decide⟩, ho, ?_⟩
  have hl := nameZ_len [] (by simp)
  show (soaD n).size ≤ 100000
  unfold soaD
  rw [mk_size, dataL_len9]
  simp
  omega
theorem fit10_rec (a : ActT) : fit10 (recOf a) := ⟨⟨Int.natCast_nonneg _, by
  have := dataOf_ty10 (a.2.1.toNat % 8) (nmB a.2.2.2.1.2.2.2) (txtB a.2.2.2.2)
  show ((dataOf _ _ _).1 : Int) < 65536
  omega⟩, recOf_name a, Nat.le_trans (recOf_data a) (by decide)⟩
theorem underN_le10 (o s : ByteArray) (ho : o.size ≤ 254) : (underN o s).size ≤ 254 := by
  unfold underN
  split
  · rename_i h
    unfold joinOf at h ⊢
    split
    · rename_i h2
      show (s ++ o).size ≤ 254
      rw [ByteArray.size_append]; exact h2.2.2
    · rename_i h2
      rw [if_neg h2] at h; cases h
  · exact ho
theorem fit10_under (o : ByteArray) (ho : o.size ≤ 254) (s : Bool) (a : ActT) : fit10 (underR o s a) := by
  have h := fit10_rec a
  unfold underR
  split
  · split
    · exact fit10_soa o ho _
    · exact ⟨⟨by show (0 : Int) ≤ 16; decide, by show (16 : Int) < 65536; decide⟩, ho, by show (ByteArray.mk #[1, 120]).size ≤ 100000; decide⟩
  · exact ⟨h.1, underN_le10 o _ ho, h.2.2⟩
theorem fit10_unders (o : ByteArray) (ho : o.size ≤ 254) (s : Bool) (ds : List ActT) (most : Nat) : ∀ r ∈ undersOf o s ds most, fit10 r := by
  intro r hr
  unfold undersOf at hr
  obtain ⟨a, -, rfl⟩ := List.mem_map.1 hr
  exact fit10_under o ho s a
theorem sizeR_fit : ∀ (z : List RecT), (∀ r ∈ z, fit10 r) → sizeR z ≤ z.length * 100264
  | [], _ => by simp [sizeR]
  | r :: z, h => by
    have h1 := sizeR_fit z (fun q hq => h q (by simp [hq]))
    have h2 := h r (by simp)
    have e : sizeR (r :: z) = (10 + r.1.size + r.2.2.2.size) + sizeR z := by simp [sizeR]
    rw [e, List.length_cons]
    have := h2.2.1; have := h2.2.2
    omega
theorem may10 : ∃ m : RecT → Bool, ∀ r, fit10 r → ∀ w, Calls Tryd.prog 40 #[recV r] w fun e w' => e = .returned (.bool (m r)) ∧ Below w.heap.size w w' := by
  have key : ∀ r : RecT, ∃ q : Bool, fit10 r → ∀ w, Calls Tryd.prog 40 #[recV r] w fun e w' => e = .returned (.bool q) ∧ Below w.heap.size w w' := fun r => by
    by_cases h : fit10 r
    · obtain ⟨q, hq⟩ := mayrec_any r h.1 (Nat.le_trans h.2.1 (by decide)) h.2.2
      exact ⟨q, fun _ => hq⟩
    · exact ⟨false, fun h' => absurd h' h⟩
  exact ⟨fun r => Classical.choose (key r), fun r => Classical.choose_spec (key r)⟩
/-- The error of a zone that was made: 0, if there is none. -/
def checkR (m : RecT → Bool) (o : ByteArray) (z : List RecT) : Nat := if fitsR z.length (sizeR z) = true then (if rightR m o z = true then 0 else 4) else 8
/-- What check leaves. -/
def CheckA (v : Value) (k : Nat) (w : World) (e : Ending) (w' : World) : Prop :=
  Below w.heap.size w w' ∧ ((k = 0 ∧ e = .returned (.tuple #[v, .nilIface])) ∨ (k ≠ 0 ∧ e = .returned (.tuple #[.slice none 0 0, errV (k : Int)])))
section
variable (m : RecT → Bool) (o : ByteArray) (A : Option Addr) (n c : Nat) (z : List RecT) (w : World) (h : Recs w A z) (hl : z.length = n) (hn : n ≤ 1000) (ho : o.size ≤ 100000) (hf : ∀ r ∈ z, fit10 r)
  (hm : ∀ r, fit10 r → ∀ w, Calls Tryd.prog 40 #[recV r] w fun e w' => e = .returned (.bool (m r)) ∧ Below w.heap.size w w')
set_option maxHeartbeats 1600000 in
include h hl hn ho hf hm in
theorem check_any : Calls Tryd.prog 33 #[.string o, .slice A n c] w (CheckA (.slice A n c) (checkR m o z) w) := by
  have hs : sizeR z ≤ 1000000000000 := Nat.le_trans (sizeR_fit z hf) (by omega)
  have FT := Lib.hid (fun w h => fits_any A n c z w h hl (by unfold maxLen; omega) hs)
  have RT := Lib.hid (fun w h => right_any m o A n c z w h hl hn hs ho (fun r hr => (hf r hr).2.1) (fun r hr => hm r (hf r hr)))
  have H := Lib.hid h
  have HK : Hid (checkR m o z = if fitsR n (sizeR z) = true then (if rightR m o z = true then 0 else 4) else 8) := Lib.hid (by unfold checkR; rw [hl])
  obtain ⟨q, hq⟩ : ∃ q, fitsR n (sizeR z) = q := ⟨_, rfl⟩
  obtain ⟨p, hp⟩ : ∃ p, rightR m o z = p := ⟨_, rfl⟩
  rw [hq] at FT HK
  rw [hp] at RT HK
  generalize checkR m o z = K at *
  obtain ⟨AR, hAR⟩ : ∃ R, R = CheckA (.slice A n c) K w := ⟨_, rfl⟩
  rw [← hAR]
  have HA0 : Hid (K = 0 → ∀ w', Below w.heap.size w w' → AR (.returned (.tuple #[.slice A n c, .nilIface])) w') := Lib.hid (fun hk w' hb => by rw [hAR]; exact ⟨hb, .inl ⟨hk, rfl⟩⟩)
  have HA1 : Hid (∀ k : Nat, K = k → k ≠ 0 → ∀ w', Below w.heap.size w w' → AR (.returned (.tuple #[.slice none 0 0, errV (k : Int)])) w') := Lib.hid (fun k hk h0 w' hb => by rw [hAR]; exact ⟨hb, .inr ⟨by rw [hk]; exact h0, by rw [hk]⟩⟩)
  clear hAR
  clear h hl hf hm hs hq hp
  go_enter Tryd.func33, Tryd.ntmps33
  go_wp2_with fail
  refine (FT.out w H.out).mono ?_
  rintro e w1 ⟨rfl, hb1⟩
  have HB1 := Lib.hid hb1
  clear hb1
  cases q with
  | false =>
    have hk : K = 8 := HK.out
    have HKK := Lib.hid hk
    clear hk
    go_wp2_with fail
    exact HA1.out 8 HKK.out (by decide) _ HB1.out
  | true =>
    go_wp2_with fail
    refine (RT.out w1 (H.out.below HB1.out)).mono ?_
    rintro e w2 ⟨rfl, hb2⟩
    have HB2 := Lib.hid (below_trans HB1.out HB1.out.size hb2)
    clear hb2
    cases p with
    | false =>
      have hk : K = 4 := HK.out
      have HKK := Lib.hid hk
      clear hk
      go_wp2_with fail
      exact HA1.out 4 HKK.out (by decide) _ HB2.out
    | true =>
      have hk : K = 0 := HK.out
      have HKK := Lib.hid hk
      clear hk
      go_wp2_with fail
      exact HA0.out HKK.out _ HB2.out
end
end Go.Proofs.YtpbbnpglcadimaaDoor
namespace Go.Proofs.YtpbbnpglcadimaaDoor
open Go.RowKit
set_option linter.unusedVariables false
set_option linter.unusedSimpArgs false
set_option maxRecDepth 20000
open Classical in
/-- What may be data of a type. -/
noncomputable def mayD (t : Int) (d : ByteArray) : Bool :=
  if t = 1 then decide (d.size = 4) else if t = 28 then decide (d.size = 16) else if t = 2 ∨ t = 5 then (labelsOf d).isSome else if t = 6 then decide (∃ a b t, IsSoa d.data.toList a b t)
  else if t = 16 then (if d.size ≤ 512 then decide (d.size ≠ 0) && decide (runT d d.size = d.size) else false) else decide (d.size ≤ 512)
set_option maxHeartbeats 3200000 in
theorem cutSoa_iff (s : ByteArray) (hs : s.size ≤ 100000) : ∀ w, Calls Tryd.prog 77 #[.string s] w fun e w' => (∃ a b c q, e = .returned (.tuple #[a, b, c, .bool q]) ∧ (q = true ↔ ∃ a b t, IsSoa s.data.toList a b t)) ∧ Below w.heap.size w w' := by
  intro w
  have HC := Lib.hid (fun w => cutp_any s w (by omega))
  go_enter Tryd.func77, Tryd.ntmps77
  go_wp2_with fail
  refine (HC.out w).mono ?_
  rintro e w1 ⟨hb1, ⟨n, t, hnt, rfl⟩ | ⟨hno, rfl⟩⟩
  · have HB1 := Lib.hid hb1
    have HNT := Lib.hid hnt
    have htl : t.length ≤ 100000 := by have := congrArg List.length hnt.2; simp at this; omega
    have HC2 := Lib.hid (fun w => cutp_any ⟨t.toArray⟩ w (by show t.toArray.size ≤ _; simp; omega))
    clear hb1 hnt
    rw [show sv t = .string ⟨t.toArray⟩ from rfl]
    go_wp2_with fail
    refine (HC2.out w1).mono ?_
    rintro e w2 ⟨hb2, ⟨n2, t2, hnt2, rfl⟩ | ⟨hno, rfl⟩⟩
    · have hnt2' : IsCut t n2 t2 := by simpa using hnt2
      have HB2 := Lib.hid (below_trans HB1.out HB1.out.size hb2)
      have HNT2 := Lib.hid hnt2'
      have htl2 : t2.length ≤ 100000 := by have := congrArg List.length hnt2'.2; simp at this; omega
      clear hb2 hnt2 hnt2'
      obtain ⟨T, hT⟩ : ∃ T : ByteArray, T = ⟨t2.toArray⟩ := ⟨_, rfl⟩
      have hTs : T.size = t2.length := by rw [hT]; simp [ByteArray.size]
      rw [show sv t2 = .string ⟨t2.toArray⟩ from rfl, ← hT]
      by_cases h20 : T.size = 20
      · have heq : ((T.size : Int) != 20) = false := by simp [h20]
        go_wp2_with fail
        refine bodyPost_ret (v := .tuple #[sv n, sv n2, .string T, .bool true]) (by simp [results, Tryd.results77, go_sem, hT]) rfl ?_
        exact ⟨⟨_, _, _, _, rfl, by simp; exact ⟨n, n2, t2, by have h := HNT.out; have h2 := HNT2.out; exact ⟨⟨h.1, by rw [h.2, h2.2]⟩, h2.1, by omega⟩⟩⟩, HB2.out⟩
      · have heq : ((T.size : Int) != 20) = true := by simp; omega
        go_wp2_with fail
        refine bodyPost_ret (v := .tuple #[.string ⟨#[]⟩, .string ⟨#[]⟩, .string ⟨#[]⟩, .bool false]) (by simp [results, Tryd.results77, go_sem]) rfl ?_
        refine ⟨⟨_, _, _, _, rfl, by
          simp
          intro a b t' hh
          have h1 := At.one hh.1 HNT.out
          have h2 := At.one (show IsCut t b t' from ⟨hh.2.1, h1.2.symm⟩) HNT2.out
          have := hh.2.2
          rw [h2.2] at this
          omega⟩, HB2.out⟩
    · have hno' : ∀ n2 t2, ¬ IsCut t n2 t2 := by simpa using hno
      have HB2 := Lib.hid (below_trans HB1.out HB1.out.size hb2)
      have HNO := Lib.hid hno'
      clear hb2 hno hno'
      go_wp2_with fail
      refine bodyPost_ret (v := .tuple #[.string ⟨#[]⟩, .string ⟨#[]⟩, .string ⟨#[]⟩, .bool false]) (by simp [results, Tryd.results77, go_sem]) rfl ?_
      refine ⟨⟨_, _, _, _, rfl, by
        simp
        intro a b t' hh
        have h1 := At.one hh.1 HNT.out
        exact HNO.out b t' ⟨hh.2.1, h1.2.symm⟩⟩, HB2.out⟩
  · have HB1 := Lib.hid hb1
    have HNO := Lib.hid hno
    clear hb1 hno
    go_wp2_with fail
    refine bodyPost_ret (v := .tuple #[.string ⟨#[]⟩, .string ⟨#[]⟩, .string ⟨#[]⟩, .bool false]) (by simp [results, Tryd.results77, go_sem]) rfl ?_
    exact ⟨⟨_, _, _, _, rfl, by simp; intro a b t' hh; exact HNO.out _ _ hh.1⟩, HB1.out⟩
theorem cutSoa_is (s : ByteArray) (hs : s.size ≤ 100000) : ∃ q : Bool, q = mayD 6 s ∧ ∀ w, Calls Tryd.prog 77 #[.string s] w fun e w' => (∃ a b c, e = .returned (.tuple #[a, b, c, .bool q])) ∧ Below w.heap.size w w' := by
  refine ⟨mayD 6 s, rfl, fun w => (cutSoa_iff s hs w).mono ?_⟩
  rintro e w' ⟨⟨a, b, c, q, rfl, hq⟩, hb⟩
  have : q = mayD 6 s := by
    unfold mayD
    rw [if_neg (by decide), if_neg (by decide), if_neg (by decide), if_pos rfl]
    cases q with
    | true => classical exact (decide_eq_true (hq.1 rfl)).symm
    | false => classical exact (decide_eq_false (fun h => by have := hq.2 h; cases this)).symm
  rw [← this]
  exact ⟨⟨a, b, c, rfl⟩, hb⟩
set_option maxHeartbeats 3200000 in
theorem rmay_is (t : Int) (ht : 0 ≤ t ∧ t < 65536) (d : ByteArray) (hd : d.size ≤ 100000) : ∀ w, Calls Tryd.prog 61 #[.int .u16 t, .string d] w fun e w' => e = .returned (.bool (mayD t d)) ∧ Below w.heap.size w w' := by
  suffices h : ∃ q : Bool, q = mayD t d ∧ ∀ w, Calls Tryd.prog 61 #[.int .u16 t, .string d] w fun e w' => e = .returned (.bool q) ∧ Below w.heap.size w w' by
    obtain ⟨q, rfl, h⟩ := h
    exact h
  by_cases h1 : t = 1
  · subst h1
    refine ⟨decide (d.size = 4), rfl, fun w => ?_⟩
    have heq : ((d.size : Int) == 4) = decide (d.size = 4) := by by_cases h : d.size = 4 <;> simp [h]; omega
    go_enter Tryd.func61, Tryd.ntmps61
    go_wp2_with fail
    go_ret
    exact ⟨rfl, Below.refl _ _⟩
  have e1 : (t == 1) = false := by simp; omega
  by_cases h28 : t = 28
  · subst h28
    refine ⟨decide (d.size = 16), rfl, fun w => ?_⟩
    have heq : ((d.size : Int) == 16) = decide (d.size = 16) := by by_cases h : d.size = 16 <;> simp [h]; omega
    go_enter Tryd.func61, Tryd.ntmps61
    go_wp2_with fail
    go_ret
    exact ⟨rfl, Below.refl _ _⟩
  have e28 : (t == 28) = false := by simp; omega
  by_cases h2 : t = 2
  · subst h2
    refine ⟨(labelsOf d).isSome, rfl, fun w => ?_⟩
    have HM := Lib.hid (fun w => may_any d w (by unfold maxLen; omega))
    go_enter Tryd.func61, Tryd.ntmps61
    go_wp2_with fail
    refine (HM.out w).mono ?_
    rintro e w1 ⟨rfl, hb⟩
    go_wp2_with fail
    go_ret
    exact ⟨rfl, hb⟩
  have e2 : (t == 2) = false := by simp; omega
  by_cases h5 : t = 5
  · subst h5
    refine ⟨(labelsOf d).isSome, rfl, fun w => ?_⟩
    have HM := Lib.hid (fun w => may_any d w (by unfold maxLen; omega))
    go_enter Tryd.func61, Tryd.ntmps61
    go_wp2_with fail
    refine (HM.out w).mono ?_
    rintro e w1 ⟨rfl, hb⟩
    go_wp2_with fail
    go_ret
    exact ⟨rfl, hb⟩
  have e5 : (t == 5) = false := by simp; omega
  by_cases h6 : t = 6
  · subst h6
    obtain ⟨q, hqd, hq⟩ := cutSoa_is d hd
    refine ⟨q, hqd, fun w => ?_⟩
    clear hqd
    have HM := Lib.hid hq
    clear hq
    go_enter Tryd.func61, Tryd.ntmps61
    go_wp2_with fail
    refine (HM.out w).mono ?_
    rintro e w1 ⟨⟨a, b, c, rfl⟩, hb⟩
    go_wp2_with fail
    go_ret
    exact ⟨rfl, hb⟩
  have e6 : (t == 6) = false := by simp; omega
  by_cases h16 : t = 16
  · subst h16
    by_cases hl : d.size ≤ 512
    · refine ⟨decide (d.size ≠ 0) && decide (runT d d.size = d.size), by show _ = mayD 16 d; unfold mayD; simp [hl], fun w => ?_⟩
      have HM := Lib.hid (fun w => texts_any d w hl)
      obtain ⟨Q, hQ⟩ : ∃ Q, (decide (d.size ≠ 0) && decide (runT d d.size = d.size)) = Q := ⟨_, rfl⟩
      rw [hQ] at HM ⊢
      clear hQ
      have hl' : (d.size : Int) ≤ 512 := by omega
      go_enter Tryd.func61, Tryd.ntmps61
      go_wp2_with fail
      refine (HM.out w).mono ?_
      rintro e w1 ⟨rfl, hb⟩
      go_wp2_with fail
      go_ret
      exact ⟨rfl, hb⟩
    · refine ⟨false, by show _ = mayD 16 d; unfold mayD; simp [hl], fun w => ?_⟩
      have hl' : ¬ (d.size : Int) ≤ 512 := by omega
      have hl2 : (512 : Int) < d.size := by omega
      go_enter Tryd.func61, Tryd.ntmps61
      go_wp2_with fail
      go_ret
      exact ⟨rfl, Below.refl _ _⟩
  have e16 : (t == 16) = false := by simp; omega
  refine ⟨decide (d.size ≤ 512), by unfold mayD; rw [if_neg h1, if_neg h28, if_neg (by omega), if_neg h6, if_neg h16], fun w => ?_⟩
  have heq : decide ((d.size : Int) ≤ 512) = decide (d.size ≤ 512) := by by_cases h : d.size ≤ 512 <;> simp [h] <;> omega
  go_enter Tryd.func61, Tryd.ntmps61
  go_wp2_with fail
  go_ret
  exact ⟨rfl, Below.refl _ _⟩
/-- Which record may be in a message. -/
noncomputable def mayR (r : RecT) : Bool := (labelsOf r.1).isSome && ((r.2.1 != 41) && mayD r.2.1 r.2.2.2)
set_option maxHeartbeats 1600000 in
theorem mayrec_is (r : RecT) (ht : 0 ≤ r.2.1 ∧ r.2.1 < 65536) (hn : r.1.size ≤ 100000) (hd : r.2.2.2.size ≤ 100000) : ∀ w, Calls Tryd.prog 40 #[recV r] w fun e w' => e = .returned (.bool (mayR r)) ∧ Below w.heap.size w w' := by
  suffices h : ∃ q : Bool, q = mayR r ∧ ∀ w, Calls Tryd.prog 40 #[recV r] w fun e w' => e = .returned (.bool q) ∧ Below w.heap.size w w' by
    obtain ⟨q, rfl, h⟩ := h
    exact h
  obtain ⟨m, hm⟩ : ∃ m, (labelsOf r.1).isSome = m := ⟨_, rfl⟩
  have HM := Lib.hid (fun w => may_any r.1 w (by unfold maxLen; omega))
  rw [hm] at HM
  have hmr : mayR r = (m && ((r.2.1 != 41) && mayD r.2.1 r.2.2.2)) := by unfold mayR; rw [hm]
  have HMR := Lib.hid hmr
  clear hm hmr
  unfold recV
  cases m with
  | false =>
    refine ⟨false, by rw [HMR.out]; rfl, fun w => ?_⟩
    go_enter Tryd.func40, Tryd.ntmps40
    go_wp2_with fail
    refine (HM.out _).mono ?_
    rintro e w1 ⟨rfl, hb⟩
    have HB := Lib.hid (below_alloc _ (Below.refl _ _) (Nat.le_refl _) hb)
    clear hb
    go_wp2_with fail
    go_ret
    exact ⟨rfl, HB.out⟩
  | true =>
    by_cases h41 : r.2.1 = 41
    · have e41 : (r.2.1 != 41) = false := by simp [h41]
      clear h41
      refine ⟨false, by rw [HMR.out, e41]; rfl, fun w => ?_⟩
      go_enter Tryd.func40, Tryd.ntmps40
      go_wp2_with fail
      refine (HM.out _).mono ?_
      rintro e w1 ⟨rfl, hb⟩
      have hc := (Cs.new w #[.string r.1, .int .u16 r.2.1, .int .u32 r.2.2.1, .string r.2.2.2] 41 [.string r.1, .int .u16 r.2.1, .int .u32 r.2.2.1, .string r.2.2.2]).below hb
      have c1 := hc.get 1 _
      have c3 := hc.get 3 _
      have HB := Lib.hid (below_alloc _ (Below.refl _ _) (Nat.le_refl _) hb)
      clear hb hc
      go_wp2_with fail
      go_ret
      exact ⟨rfl, HB.out⟩
    · have e41 : (r.2.1 != 41) = true := by simp [h41]
      have hq := rmay_is r.2.1 ht r.2.2.2 hd
      have hmr := HMR.out
      rw [e41] at hmr
      generalize mayD r.2.1 r.2.2.2 = q at *
      have HQ := Lib.hid hq
      have HMR2 := Lib.hid hmr
      clear hq HMR hmr
      refine ⟨q, by rw [HMR2.out]; simp, fun w => ?_⟩
      go_enter Tryd.func40, Tryd.ntmps40
      go_wp2_with fail
      refine (HM.out _).mono ?_
      rintro e w1 ⟨rfl, hb⟩
      have hc := (Cs.new w #[.string r.1, .int .u16 r.2.1, .int .u32 r.2.2.1, .string r.2.2.2] 41 [.string r.1, .int .u16 r.2.1, .int .u32 r.2.2.1, .string r.2.2.2]).below hb
      have c1 := hc.get 1 _
      have c3 := hc.get 3 _
      have HB := Lib.hid (below_alloc _ (Below.refl _ _) (Nat.le_refl _) hb)
      clear hb hc
      go_wp2_with fail
      refine (HQ.out w1).mono ?_
      rintro e w2 ⟨rfl, hb2⟩
      have HB2 := Lib.hid (below_trans HB.out HB.out.size hb2)
      clear hb2
      go_wp2_with fail
      go_ret
      exact ⟨rfl, HB2.out⟩
end Go.Proofs.YtpbbnpglcadimaaDoor
namespace Go.Proofs.YtpbbnpglcadimaaDoor
open Go.RowKit
set_option linter.unusedVariables false
set_option linter.unusedSimpArgs false
def le10 (x y : RecT) : Bool := decide (cmpR x y ≤ 0)
def msR (rs : List RecT) : List RecT := rs.mergeSort le10
theorem msR_perm (rs : List RecT) : (msR rs).Perm rs := List.mergeSort_perm rs le10
theorem msR_len (rs : List RecT) : (msR rs).length = rs.length := (msR_perm rs).length_eq
theorem msR_mem {rs : List RecT} {q : RecT} : q ∈ msR rs ↔ q ∈ rs := (msR_perm rs).mem_iff
theorem msR_sorted (rs : List RecT) : (msR rs).Pairwise fun x y => cmpR x y ≤ 0 := by
  have h := List.pairwise_mergeSort (le := le10) (fun a b c h1 h2 => by
    unfold le10 at *
    simp only [decide_eq_true_eq] at *
    exact cmpR_is.trans a b c h1 h2) (fun a b => by
    unfold le10
    have := cmpR_is.swap a b
    simp only [Bool.or_eq_true, decide_eq_true_eq]
    omega) rs
  exact List.Pairwise.imp (fun h => by unfold le10 at h; simpa using h) h
theorem msR_rising {rs : List RecT} (h : ∀ i x y, (msR rs)[i]? = some x → (msR rs)[i + 1]? = some y → x ≠ y) : Rising (msR rs) := by
  refine List.pairwise_iff_getElem.2 (fun i j hi hj hij => ?_)
  have hs := List.pairwise_iff_getElem.1 (msR_sorted rs)
  have h1 : (msR rs)[i] ≠ (msR rs)[i + 1] := h i _ _ (List.getElem?_eq_getElem hi) (List.getElem?_eq_getElem (by omega))
  have h2 : cmpR (msR rs)[i] (msR rs)[i + 1] < 0 := by
    have a := hs i (i + 1) hi (by omega) (by omega)
    rcases Int.lt_or_eq_of_le a with a | a
    · exact a
    · exact absurd ((cmpR_is.zero _ _).1 a) h1
  rcases Nat.eq_or_lt_of_le (Nat.succ_le_of_lt hij) with e | e
  · subst e; exact h2
  · exact cmpR_is.lt_of_lt_le h2 (hs (i + 1) j (by omega) hj (by omega))
theorem msR_eq {rs : List RecT} (h : Rising (msR rs)) : msR rs = sortedR rs :=
  rising_ext h (sortedR_rising rs) (fun q => by rw [msR_mem, sortedR_mem])
theorem foldl_full : ∀ (rs out : List RecT), Rising out → (rs.foldl stepS out).length = out.length + rs.length → rs.Nodup ∧ ∀ r ∈ rs, r ∉ out
  | [], out, _, _ => ⟨List.nodup_nil, by simp⟩
  | r :: rs, out, h, hl => by
    have hle := foldl_le rs (stepS out r)
    rw [List.foldl_cons, List.length_cons] at hl
    by_cases hr : r ∈ out
    · rw [stepS_old h hr] at hl hle; omega
    · have e := stepS_new hr
      rw [e] at hl
      obtain ⟨h1, h2⟩ := foldl_full rs (insR out r) (insR_rising h hr) (by rw [insR_len]; omega)
      refine ⟨List.nodup_cons.2 ⟨fun hm => h2 r hm (insR_has _ _), h1⟩, fun q hq => ?_⟩
      rcases List.mem_cons.1 hq with rfl | hq
      · exact hr
      · exact fun ho => h2 q hq (insR_keeps ho)
theorem sortedR_full {rs : List RecT} (h : (sortedR rs).length = rs.length) : rs.Nodup := (foldl_full rs [] List.Pairwise.nil (by unfold sortedR at h; simpa using h)).1
theorem msR_twice {rs : List RecT} {i : Nat} {x : RecT} (h1 : (msR rs)[i]? = some x) (h2 : (msR rs)[i + 1]? = some x) : (sortedR rs).length ≠ rs.length := fun hl => by
  have hn := (msR_perm rs).symm.nodup (sortedR_full hl)
  obtain ⟨a1, e1⟩ := List.getElem?_eq_some_iff.1 h1
  obtain ⟨a2, e2⟩ := List.getElem?_eq_some_iff.1 h2
  exact List.pairwise_iff_getElem.1 hn i (i + 1) a1 a2 (by omega) (e1.trans e2.symm)
/-- In the midst of the search for two alike. -/
def apartTo (l : List RecT) (k : Nat) : Prop := ∀ i x y, i + 1 < k → l[i]? = some x → l[i + 1]? = some y → x ≠ y
theorem apartTo_next {l : List RecT} {k : Nat} {x y : RecT} (h : apartTo l k) (hx : l[k - 1]? = some x) (hy : l[k]? = some y) (hne : x ≠ y) : apartTo l (k + 1) := by
  intro i a b hi ha hb
  by_cases e : i + 1 = k
  · subst e
    rw [Nat.add_sub_cancel, ha] at hx
    rw [hb] at hy
    injection hx with hx; injection hy with hy
    subst hx hy
    exact hne
  · exact h i a b (by omega) ha hb
theorem apartTo_all {rs : List RecT} {k : Nat} (h : apartTo (msR rs) k) (hk : rs.length ≤ k) : msR rs = sortedR rs := by
  refine msR_eq (msR_rising (fun i x y hx hy => ?_))
  have h2 := (List.getElem?_eq_some_iff.1 hy).1
  rw [msR_len] at h2
  exact h i x y (by omega) hx hy
end Go.Proofs.YtpbbnpglcadimaaDoor
namespace Go.Proofs.YtpbbnpglcadimaaDoor
open Go.RowKit
set_option linter.unusedVariables false
set_option linter.unusedSimpArgs false
set_option maxRecDepth 20000
theorem mayD_soa (n : Nat) : mayD 6 (soaD n) = true := by
  unfold mayD
  rw [if_neg (by decide), if_neg (by decide), if_neg (by decide), if_pos rfl]
  have h : ∃ a b t, IsSoa (soaD n).data.toList a b t := ⟨_, _, _, by
    show IsSoa (dataL (nameZ []) (nameZ []) [n, 10, 3, 40, 1]).toArray.toList _ _ _
    rw [List.toList_toArray]
    exact isSoa_data (nameZ_may [] (by simp)) (nameZ_may [] (by simp)) rfl⟩
  classical exact decide_eq_true h
theorem mayR_soa (o : ByteArray) (n : Nat) (ho : (labelsOf o).isSome = true) : mayR (soaR o n) = true := by
  unfold mayR soaR
  rw [ho]
  show (true && (((6 : Int) != 41) && mayD 6 (soaD n))) = true
  rw [mayD_soa]; rfl
theorem labelsOf_root : (labelsOf ⟨#[]⟩).isSome = true := by
  have h := nameZ_may [] (by simp)
  decide
theorem mayR_99 (t : Int) (d : ByteArray) (hd : d.size ≤ 512) : mayR (⟨#[]⟩, 99, t, d) = true := by
  unfold mayR
  rw [labelsOf_root]
  show (true && (((99 : Int) != 41) && mayD 99 d)) = true
  unfold mayD
  rw [if_neg (by decide), if_neg (by decide), if_neg (by decide), if_neg (by decide), if_neg (by decide), decide_eq_true hd]; rfl
/-- A name by numbers is one. -/
theorem labelsOf_origin (n : Nat) : (labelsOf (originB n)).isSome = true := by
  have h := nameZ_may [((n % 6 : Nat) : Int)] (by intro z hz; simp at hz; omega)
  exact h
theorem sortedR_nodup {rs : List RecT} (h : rs.Nodup) : (sortedR rs).length = rs.length := by
  have hn := (msR_perm rs).symm.nodup h
  have e : msR rs = sortedR rs := msR_eq (msR_rising (fun i x y hx hy hxy => by
    subst hxy
    obtain ⟨a1, e1⟩ := List.getElem?_eq_some_iff.1 hx
    obtain ⟨a2, e2⟩ := List.getElem?_eq_some_iff.1 hy
    exact List.pairwise_iff_getElem.1 hn i (i + 1) a1 a2 (by omega) (e1.trans e2.symm)))
  rw [← e, msR_len]
end Go.Proofs.YtpbbnpglcadimaaDoor
namespace Go.Proofs.YtpbbnpglcadimaaDoor
open Go.RowKit
set_option linter.unusedVariables false
set_option linter.unusedSimpArgs false
theorem find_unique {z : List RecT} {s : RecT} (hs : s ∈ z) (h6 : isSoaR s = true) (hu : ∀ q ∈ z, isSoaR q = true → q = s) : firstS z = some s := by
  unfold firstS
  cases h : z.find? isSoaR with
  | none => exact absurd h6 (List.find?_eq_none.1 h s hs)
  | some q => rw [hu q (List.mem_of_find?_eq_some h) (List.find?_some h)]
theorem rising_nodup {l : List RecT} (h : Rising l) : l.Nodup := List.Pairwise.imp (fun h => cmp_lt_ne h) h
theorem lessR_mem10 {z : List RecT} {r q : RecT} : q ∈ lessR z r ↔ q ∈ z ∧ q ≠ r := by
  unfold lessR
  rw [List.mem_filter]
  constructor
  · rintro ⟨h1, h2⟩
    exact ⟨h1, fun e => by subst e; rw [(eqB_iff q q).2 rfl] at h2; cases h2⟩
  · rintro ⟨h1, h2⟩
    refine ⟨h1, ?_⟩
    cases e : eqB q r with
    | false => rfl
    | true => exact absurd ((eqB_iff q r).1 e) h2
theorem insR_mem11 {z : List RecT} {r q : RecT} : q ∈ insR z r ↔ q ∈ z ∨ q = r := by
  constructor
  · intro h
    unfold insR at h
    rcases List.mem_append.1 h with h | h
    · exact .inl ((List.takeWhile_sublist _).mem h)
    · rcases List.mem_cons.1 h with h | h
      · exact .inr h
      · exact .inl ((List.dropWhile_sublist _).mem h)
  · rintro (h | rfl)
    · exact insR_keeps h
    · exact insR_has _ _
theorem delAll_mem : ∀ (l z : List RecT), Rising z → l.Nodup → (∀ r ∈ l, r ∈ z) → ∃ z', delAll l z = some z' ∧ Rising z' ∧ ∀ q, q ∈ z' ↔ q ∈ z ∧ q ∉ l
  | [], z, h, _, _ => ⟨z, rfl, h, fun q => by simp⟩
  | r :: l, z, h, hn, hm => by
    have hn := List.nodup_cons.1 hn
    obtain ⟨z', e, h1, h2⟩ := delAll_mem l (lessR z r) (lessR_rising h) hn.2 (fun q hq => lessR_mem10.2 ⟨hm q (by simp [hq]), fun e => hn.1 (by rw [← e]; exact hq)⟩)
    refine ⟨z', ?_, h1, fun q => ?_⟩
    · rw [delAll_cons, (hasB_iff _ _).2 (hm r (by simp)), if_pos rfl, e]
    · rw [h2, lessR_mem10, List.mem_cons]
      constructor
      · rintro ⟨⟨a, b⟩, c⟩; exact ⟨a, fun h => h.elim b c⟩
      · rintro ⟨a, b⟩; exact ⟨⟨a, fun h => b (.inl h)⟩, fun h => b (.inr h)⟩
theorem insAll_mem : ∀ (l z : List RecT), Rising z → l.Nodup → (∀ r ∈ l, r ∉ z) → ∃ z', insAll l z = some z' ∧ Rising z' ∧ ∀ q, q ∈ z' ↔ q ∈ z ∨ q ∈ l
  | [], z, h, _, _ => ⟨z, rfl, h, fun q => by simp⟩
  | r :: l, z, h, hn, hm => by
    have hn := List.nodup_cons.1 hn
    have hr := hm r (by simp)
    obtain ⟨z', e, h1, h2⟩ := insAll_mem l (insR z r) (insR_rising h hr) hn.2 (fun q hq hz => by
      rcases insR_mem11.1 hz with hz | hz
      · exact hm q (by simp [hq]) hz
      · exact hn.1 (by rw [← hz]; exact hq))
    refine ⟨z', ?_, h1, fun q => ?_⟩
    · rw [insAll_cons, hasB_false.2 hr, if_neg (by decide), e]
    · rw [h2, insR_mem11, List.mem_cons]
      constructor
      · rintro ((a | a) | a)
        · exact .inl a
        · exact .inr (.inl a)
        · exact .inr (.inr a)
      · rintro (a | a | a)
        · exact .inl (.inl a)
        · exact .inl (.inr a)
        · exact .inr a
/-- The records that are no SOA. -/
def nosoa (l : List RecT) : List RecT := l.filter fun r => !isSoaR r
theorem nosoa_mem {l : List RecT} {q : RecT} : q ∈ nosoa l ↔ q ∈ l ∧ isSoaR q = false := by
  unfold nosoa; rw [List.mem_filter]; simp
theorem nosoa_le (l : List RecT) : (nosoa l).length ≤ l.length := List.length_filter_le _ _
theorem nosoa_rising {l : List RecT} (h : Rising l) : Rising (nosoa l) := List.Pairwise.sublist List.filter_sublist h
theorem nosoa_yes {l : List RecT} {k : Nat} {r : RecT} (h : l[k]? = some r) (hs : isSoaR r = true) : nosoa (l.take (k + 1)) = nosoa (l.take k) := by
  unfold nosoa; rw [List.take_add_one, h, List.filter_append]; simp [hs]
theorem nosoa_no {l : List RecT} {k : Nat} {r : RecT} (h : l[k]? = some r) (hs : isSoaR r = false) : nosoa (l.take (k + 1)) = nosoa (l.take k) ++ [r] := by
  unfold nosoa; rw [List.take_add_one, h, List.filter_append]; simp [hs]
theorem delta_leads {a b : List RecT} {s1 s2 : RecT} (ha : Rising a) (hb : Rising b) (h1 : s1 ∈ a) (h2 : s2 ∈ b) (t1 : isSoaR s1 = true) (t2 : isSoaR s2 = true)
    (u1 : ∀ q ∈ a, isSoaR q = true → q = s1) (u2 : ∀ q ∈ b, isSoaR q = true → q = s2) (hne : s1 ≠ s2) : apdR a s1 s2 (nosoa (woR a b)) (nosoa (woR b a)) = .inr b := by
  have n1 : s1 ∉ b := fun h => hne (u2 s1 h t1)
  have n2 : s2 ∉ a := fun h => hne (u1 s2 h t2).symm
  unfold apdR
  rw [find_unique h1 t1 u1]
  simp only [eqB_refl10, if_true]
  obtain ⟨z1, e1, r1, m1⟩ := delAll_mem (s1 :: nosoa (woR a b)) a ha
    (List.nodup_cons.2 ⟨(fun h => by rw [nosoa_mem, t1] at h; exact absurd h.2 (by decide)), rising_nodup (nosoa_rising (woR_rising ha))⟩)
    (fun r hr => by
      rcases List.mem_cons.1 hr with rfl | hr
      · exact h1
      · exact (woR_mem.1 (nosoa_mem.1 hr).1).1)
  rw [e1]
  obtain ⟨z2, e2, r2, m2⟩ := insAll_mem (nosoa (woR b a) ++ [s2]) z1 r1
    (List.nodup_append.2 ⟨rising_nodup (nosoa_rising (woR_rising hb)), by simp, fun x hx y hy e => by
      simp at hy; subst hy e
      rw [nosoa_mem, t2] at hx; cases hx.2⟩)
    (fun r hr hz => by
      have hz := ((m1 r).1 hz).1
      rcases List.mem_append.1 hr with hr | hr
      · exact (woR_mem.1 (nosoa_mem.1 hr).1).2 hz
      · simp at hr; subst hr; exact n2 hz)
  simp only [e2]
  congr 1
  refine rising_ext r2 hb (fun q => ?_)
  rw [m2, m1, List.mem_append, List.mem_singleton, nosoa_mem, woR_mem, List.mem_cons, nosoa_mem, woR_mem]
  constructor
  · rintro (⟨qa, hn⟩ | ⟨⟨qb, -⟩, -⟩ | rfl)
    · by_cases hq : q ∈ b
      · exact hq
      · exfalso
        cases hs : isSoaR q with
        | true => exact hn (.inl (u1 q qa hs))
        | false => exact hn (.inr ⟨⟨qa, hq⟩, hs⟩)
    · exact qb
    · exact h2
  · intro qb
    cases hs : isSoaR q with
    | true => exact .inr (.inr (u2 q qb hs))
    | false =>
      by_cases qa : q ∈ a
      · refine .inl ⟨qa, ?_⟩
        rintro (rfl | ⟨⟨-, h⟩, -⟩)
        · rw [t1] at hs; cases hs
        · exact h qb
      · exact .inr (.inl ⟨⟨qb, qa⟩, rfl⟩)
theorem unders_nosoa (o : ByteArray) (ds : List ActT) (most : Nat) : ∀ q ∈ undersOf o false ds most, isSoaR q = false := by
  intro q hq
  unfold undersOf at hq
  obtain ⟨a, -, rfl⟩ := List.mem_map.1 hq
  unfold underR isSoaR
  split
  · rfl
  · rename_i h
    simpa using h
theorem zoneR_soa (o : ByteArray) (n : Nat) (ds : List ActT) (most : Nat) : soaR o n ∈ zoneR o n ds most ∧ ∀ q ∈ zoneR o n ds most, isSoaR q = true → q = soaR o n := by
  unfold zoneR
  refine ⟨by rw [sortedR_mem]; simp, fun q hq hs => ?_⟩
  rw [sortedR_mem, List.mem_append, List.mem_singleton] at hq
  rcases hq with h | h
  · rw [unders_nosoa o ds most q h] at hs; cases hs
  · exact h
theorem back_there (o : ByteArray) (ds ds2 : List ActT) (most : Nat) :
    apdR (zoneR o 1 ds most) (soaR o 1) (soaR o 2) (nosoa (woR (zoneR o 1 ds most) (zoneR o 2 ds2 most))) (nosoa (woR (zoneR o 2 ds2 most) (zoneR o 1 ds most))) = .inr (zoneR o 2 ds2 most) ∧
    apdR (zoneR o 2 ds2 most) (soaR o 2) (soaR o 1) (nosoa (woR (zoneR o 2 ds2 most) (zoneR o 1 ds most))) (nosoa (woR (zoneR o 1 ds most) (zoneR o 2 ds2 most))) = .inr (zoneR o 1 ds most) := by
  have h1 := zoneR_soa o 1 ds most
  have h2 := zoneR_soa o 2 ds2 most
  have hne : soaR o 1 ≠ soaR o 2 := fun e => soaD_ne (by unfold soaR at e; injection e with _ e; injection e with _ e; injection e)
  exact ⟨delta_leads (zoneR_rising _ _ _ _) (zoneR_rising _ _ _ _) h1.1 h2.1 rfl rfl h1.2 h2.2 hne, delta_leads (zoneR_rising _ _ _ _) (zoneR_rising _ _ _ _) h2.1 h1.1 rfl rfl h2.2 h1.2 (fun e => hne e.symm)⟩
end Go.Proofs.YtpbbnpglcadimaaDoor
namespace Go.Proofs.YtpbbnpglcadimaaDoor
open Go.RowKit
set_option linter.unusedVariables false
set_option linter.unusedSimpArgs false
set_option maxRecDepth 20000
theorem scanR_ok (m : RecT → Bool) (o : ByteArray) : ∀ (z : List RecT) (prev : Option RecT) (n : Nat), (∀ p, prev = some p → ∀ r ∈ z, cmpR p r < 0) → Rising z → (∀ r ∈ z, m r = true ∧ (stripOf r.1 o).isSome = true ∧ (r.2.1 = 6 → r.1 = o)) →
    scanR m o prev n z = some (n + (z.filter isSoaR).length)
  | [], _, _, _, _, _ => rfl
  | r :: z, prev, n, hp, hr, hz => by
    obtain ⟨h1, h2, h3⟩ := hz r (by simp)
    have hr := List.pairwise_cons.1 hr
    have hb : badR m o prev r = false := by
      unfold badR
      rw [h1, h2]
      have e2 : (r.2.1 == 6 && !(r.1.toList == o.toList)) = false := by
        by_cases h : r.2.1 = 6
        · rw [h3 h]; simp
        · simp [h]
      rw [e2]
      cases prev with
      | none => rfl
      | some p =>
        have := hp p rfl r (by simp)
        show (decide (0 ≤ cmpR p r) || !true || !true || false) = false
        rw [decide_eq_false (by omega)]; rfl
    unfold scanR
    rw [hb, if_neg (by decide), scanR_ok m o z (some r) _ (fun p hpp q hq => by injection hpp with hpp; subst hpp; exact hr.1 q hq) hr.2 (fun q hq => hz q (by simp [hq]))]
    rw [List.filter_cons]
    unfold isSoaR
    by_cases h : r.2.1 = 6
    · simp [h]; omega
    · simp [h]
theorem one_soa {z : List RecT} {s : RecT} (hz : Rising z) (hs : s ∈ z) (h6 : isSoaR s = true) (hu : ∀ q ∈ z, isSoaR q = true → q = s) : (z.filter isSoaR).length = 1 := by
  have hn : (z.filter isSoaR).Nodup := List.Pairwise.sublist List.filter_sublist (rising_nodup hz)
  have hm : s ∈ z.filter isSoaR := List.mem_filter.2 ⟨hs, h6⟩
  have ha : ∀ q ∈ z.filter isSoaR, q = s := fun q hq => hu q (List.mem_filter.1 hq).1 (List.mem_filter.1 hq).2
  match hf : z.filter isSoaR with
  | [] => rw [hf] at hm; cases hm
  | [a] => rfl
  | a :: b :: l =>
    rw [hf] at hn ha
    have e1 := ha a (by simp)
    have e2 := ha b (by simp)
    exact absurd (e1.trans e2.symm) (fun e => (List.nodup_cons.1 hn).1 (by simp [e]))
/-- They are a zone, but for their sizes. -/
theorem right_ok {m : RecT → Bool} {o : ByteArray} {z : List RecT} {s : RecT} (hr : Rising z) (hs : s ∈ z) (h6 : isSoaR s = true) (hu : ∀ q ∈ z, isSoaR q = true → q = s) (hz : ∀ r ∈ z, m r = true ∧ (stripOf r.1 o).isSome = true ∧ (r.2.1 = 6 → r.1 = o)) :
    rightR m o z = fitsR z.length (sizeR z) := by
  unfold rightR fitsR
  rw [scanR_ok m o z none 0 (fun p h => by cases h) hr hz, one_soa hr hs h6 hu]
  simp
theorem check_ok {m : RecT → Bool} {o : ByteArray} {z : List RecT} {s : RecT} (hr : Rising z) (hs : s ∈ z) (h6 : isSoaR s = true) (hu : ∀ q ∈ z, isSoaR q = true → q = s) (hz : ∀ r ∈ z, m r = true ∧ (stripOf r.1 o).isSome = true ∧ (r.2.1 = 6 → r.1 = o)) :
    checkR m o z = if fitsR z.length (sizeR z) = true then 0 else 8 := by
  unfold checkR
  rw [right_ok hr hs h6 hu hz]
  split <;> simp_all
end Go.Proofs.YtpbbnpglcadimaaDoor
namespace Go.Proofs.YtpbbnpglcadimaaDoor
open Go.RowKit
set_option linter.unusedVariables false
set_option linter.unusedSimpArgs false
set_option maxRecDepth 20000
theorem labels_join10 {s t : ByteArray} {xs ys : List (List UInt8)} (h1 : labelsOf s = some xs) (h2 : labelsOf t = some ys) (h : s.size + t.size ≤ 254) : labelsOf (s ++ t) = some (xs ++ ys) := by
  have a1 := (nameLabels_iff _ _).1 h1
  have a2 := (nameLabels_iff _ _).1 h2
  refine (nameLabels_iff _ _).2 ⟨?_, ?_, ?_⟩
  · simp at a1 a2 ⊢; omega
  · rw [wire_append, ← a1.2.1, ← a2.2.1]; simp
  · intro x hx
    rcases List.mem_append.1 hx with hx | hx
    · exact a1.2.2 x hx
    · exact a2.2.2 x hx
theorem strip_join10 {s t : ByteArray} {xs ys : List (List UInt8)} (h1 : labelsOf s = some xs) (h2 : labelsOf t = some ys) (h : s.size + t.size ≤ 254) : stripOf (s ++ t) t = some (wire xs) := by
  unfold stripOf
  rw [labels_join10 h1 h2 h, h2]
  simp only
  rw [stripL_found (k := xs.length) (by simp) (by simp)]
  simp
theorem strip_self10 {t : ByteArray} {ys : List (List UInt8)} (h2 : labelsOf t = some ys) : (stripOf t t).isSome = true := by
  unfold stripOf
  rw [h2]
  simp only
  rw [stripL_found (k := 0) (by simp) (by simp)]
  rfl
theorem underN_ok {o s : ByteArray} (ho : (labelsOf o).isSome = true) : (labelsOf (underN o s)).isSome = true ∧ (stripOf (underN o s) o).isSome = true := by
  obtain ⟨ys, hy⟩ := Option.isSome_iff_exists.1 ho
  unfold underN
  split
  · rename_i h
    unfold joinOf at h ⊢
    split
    · rename_i h2
      obtain ⟨xs, hx⟩ := Option.isSome_iff_exists.1 h2.1
      show (labelsOf (s ++ o)).isSome = true ∧ (stripOf (s ++ o) o).isSome = true
      rw [labels_join10 hx hy h2.2.2, strip_join10 hx hy h2.2.2]
      exact ⟨rfl, rfl⟩
    · rename_i h2
      rw [if_neg h2] at h; cases h
  · exact ⟨ho, strip_self10 hy⟩
theorem runT_one (s : ByteArray) (hs : s.size ≤ 30) : runT (ByteArray.mk #[UInt8.ofNat s.size] ++ s.extract 0 s.size) (ByteArray.mk #[UInt8.ofNat s.size] ++ s.extract 0 s.size).size = (ByteArray.mk #[UInt8.ofNat s.size] ++ s.extract 0 s.size).size := by
  obtain ⟨d, hd⟩ : ∃ d, d = ByteArray.mk #[UInt8.ofNat s.size] ++ s.extract 0 s.size := ⟨_, rfl⟩
  have hsz : d.size = s.size + 1 := by rw [hd, ByteArray.size_append, ByteArray.size_extract]; show 1 + _ = _; omega
  rw [← hd]
  have h0 : 0 < d.size := by omega
  have hb : (d[0]'h0).toNat = s.size := by
    have : d[0]'h0 = UInt8.ofNat s.size := by
      subst hd
      rw [ByteArray.getElem_append_left (by show 0 < 1; decide)]
      rfl
    rw [this]
    show s.size % 256 = s.size
    omega
  have h1 : runT d 1 = d.size := by
    have := runT_next (s := d) (k := 0) (p := 0) rfl h0
    rw [this, hb]; omega
  have h2 := runT_stays (s := d) (k := 1) (by omega) (d.size - 1)
  rw [show 1 + (d.size - 1) = d.size by omega, h1] at h2
  exact h2
theorem mayD_data (q : Nat) (X s : ByteArray) (hX : (labelsOf X).isSome = true) (hs : s.size ≤ 30) (h6 : (dataOf q X s).1 ≠ 6) : mayD ((dataOf q X s).1 : Nat) (dataOf q X s).2 = true ∧ (dataOf q X s).1 ≠ 41 := by
  unfold dataOf at h6 ⊢
  split
  · refine ⟨?_, by simp⟩
    show mayD 1 _ = true
    unfold mayD
    rw [if_pos rfl]
    refine decide_eq_true ?_
    rw [ByteArray.size_extract, ByteArray.size_append]
    show min 4 (s.size + 4) - 0 = 4
    omega
  · rename_i h1
    rw [if_neg h1] at h6
    split
    · refine ⟨?_, by simp⟩
      show mayD 2 X = true
      unfold mayD
      rw [if_neg (by decide), if_neg (by decide), if_pos (.inl rfl)]; exact hX
    · rename_i h2
      rw [if_neg h2] at h6
      split
      · refine ⟨?_, by simp⟩
        show mayD 5 X = true
        unfold mayD
        rw [if_neg (by decide), if_neg (by decide), if_pos (.inr rfl)]; exact hX
      · rename_i h3
        rw [if_neg h3] at h6
        split
        · rename_i h4
          rw [if_pos h4] at h6
          exact absurd rfl h6
        · rename_i h4
          split
          · refine ⟨?_, by simp⟩
            show mayD 16 _ = true
            have hsz : (ByteArray.mk #[UInt8.ofNat s.size] ++ s.extract 0 s.size).size = s.size + 1 := by rw [ByteArray.size_append, ByteArray.size_extract]; show 1 + _ = _; omega
            unfold mayD
            rw [if_neg (by decide), if_neg (by decide), if_neg (by decide), if_neg (by decide), if_pos rfl, if_pos (by rw [hsz]; omega), decide_eq_true (by rw [hsz]; omega), decide_eq_true (runT_one s hs)]
            rfl
          · split
            · refine ⟨?_, by simp⟩
              show mayD 28 _ = true
              unfold mayD
              rw [if_neg (by decide), if_pos rfl]
              refine decide_eq_true ?_
              rw [ByteArray.size_extract, ByteArray.size_append]
              show min 16 (s.size + 16) - 0 = 16
              omega
            · refine ⟨?_, by simp⟩
              show mayD 99 _ = true
              unfold mayD
              rw [if_neg (by decide), if_neg (by decide), if_neg (by decide), if_neg (by decide), if_neg (by decide)]
              refine decide_eq_true ?_
              rw [ByteArray.size_extract]; omega
theorem under_ok (o : ByteArray) (a : ActT) (ho : (labelsOf o).isSome = true) : mayR (underR o false a) = true ∧ (stripOf (underR o false a).1 o).isSome = true ∧ ((underR o false a).2.1 = 6 → (underR o false a).1 = o) := by
  obtain ⟨ys, hy⟩ := Option.isSome_iff_exists.1 ho
  by_cases h6 : ((recOf a).2.1 == 6) = true
  · have e : underR o false a = (o, 16, a.2.2.1, ⟨#[1, 120]⟩) := by unfold underR; rw [if_pos h6]; rfl
    rw [e]
    refine ⟨?_, strip_self10 hy, fun _ => rfl⟩
    unfold mayR
    rw [ho]
    show (true && (((16 : Int) != 41) && mayD 16 ⟨#[1, 120]⟩)) = true
    have h1 : mayD 16 ⟨#[1, 120]⟩ = true := by
      unfold mayD
      rw [if_neg (by decide), if_neg (by decide), if_neg (by decide), if_neg (by decide), if_pos rfl]
      decide
    rw [h1]; rfl
  · have e : underR o false a = (underN o (recOf a).1, (recOf a).2.1, (recOf a).2.2.1, (recOf a).2.2.2) := by unfold underR; rw [if_neg h6]
    rw [e]
    obtain ⟨hn1, hn2⟩ := underN_ok (s := (recOf a).1) ho
    obtain ⟨LS, hLS, -⟩ := nmB_labels a.2.2.2.1.2.2.2
    have hty : (dataOf (a.2.1.toNat % 8) (nmB a.2.2.2.1.2.2.2) (txtB a.2.2.2.2)).1 ≠ 6 := fun h => h6 (by
      show (((dataOf (a.2.1.toNat % 8) (nmB a.2.2.2.1.2.2.2) (txtB a.2.2.2.2)).1 : Int) == 6) = true
      rw [h]; rfl)
    obtain ⟨hd, h41⟩ := mayD_data (a.2.1.toNat % 8) (nmB a.2.2.2.1.2.2.2) (txtB a.2.2.2.2) (by rw [hLS]; rfl) (txtB_le _) hty
    refine ⟨?_, hn2, fun h => absurd (show ((recOf a).2.1 == 6) = true by rw [show (recOf a).2.1 = 6 from h]; rfl) h6⟩
    unfold mayR
    simp only
    rw [hn1]
    have e41 : ((recOf a).2.1 != 41) = true := by
      show (((dataOf (a.2.1.toNat % 8) (nmB a.2.2.2.1.2.2.2) (txtB a.2.2.2.2)).1 : Int) != 41) = true
      simp; omega
    have em : mayD (recOf a).2.1 (recOf a).2.2.2 = true := hd
    rw [e41, em]; rfl
theorem zone_ok (o : ByteArray) (n : Nat) (ds : List ActT) (most : Nat) (ho : (labelsOf o).isSome = true) : ∀ r ∈ zoneR o n ds most, mayR r = true ∧ (stripOf r.1 o).isSome = true ∧ (r.2.1 = 6 → r.1 = o) := by
  intro r hr
  obtain ⟨ys, hy⟩ := Option.isSome_iff_exists.1 ho
  unfold zoneR at hr
  rw [sortedR_mem, List.mem_append, List.mem_singleton] at hr
  rcases hr with h | rfl
  · unfold undersOf at h
    obtain ⟨a, -, rfl⟩ := List.mem_map.1 h
    exact under_ok o a ho
  · exact ⟨mayR_soa o n ho, strip_self10 hy, fun _ => rfl⟩
/-- A zone of the statements has no error but for its sizes. -/
theorem zone_check (o : ByteArray) (n : Nat) (ds : List ActT) (most : Nat) (ho : (labelsOf o).isSome = true) : checkR mayR o (zoneR o n ds most) = if fitsR (zoneR o n ds most).length (sizeR (zoneR o n ds most)) = true then 0 else 8 :=
  check_ok (s := soaR o n) (zoneR_rising _ _ _ _) (zoneR_soa o n ds most).1 rfl (zoneR_soa o n ds most).2 (zone_ok o n ds most ho)
end Go.Proofs.YtpbbnpglcadimaaDoor
namespace Go.Proofs.YtpbbnpglcadimaaDoor
open Go.RowKit
set_option linter.unusedVariables false
set_option linter.unusedSimpArgs false
set_option maxRecDepth 20000
set_option maxHeartbeats 800000 in
theorem clone_zone (A : Option Addr) (n c : Nat) (l : List Value) (w : World) (C : Nat) (h : Sl w C 4 A n l) (h1 : ∀ u ∈ l, u.oneCell' = true) (hA0 : A = none → n = 0 ∧ c = 0) (hn : n ≤ 1000000000) :
    Calls Tryd.prog 32 #[.slice A n c] w fun e w' => ∃ v, e = .returned v ∧ OBM 4 w.heap.size w v n l w' := by
  have hl : l.length = n * 4 := h.1
  obtain ⟨i0, hi, hz0, hz1, hz2⟩ := info_parts4 rec_info
  cases A with
  | none =>
    obtain ⟨rfl, rfl⟩ := hA0 rfl
    have hq := fun w => Lib.run_eql_slice_nil (P := Tryd.prog) w 49 _ none 0 0 0 0 Tryd.underlying49
    clear hA0 h
    go_enter Tryd.func32, Tryd.ntmps32
    go_wp2_with fail
    go_ret
    obtain rfl : l = [] := List.eq_nil_of_length_eq_zero (by omega)
    exact ⟨_, rfl, OBM.start _⟩
  | some a =>
    have ho := OBM.fresh (sz := 4) (Below.refl w.heap.size w) (Nat.le_refl _) #[] 41 0 [] rfl rfl (by decide)
    have hS : Src Tryd.prog 4 49 (.slice (some a) n c) n l (w.alloc (.cells #[] 41)) := by
      refine Src.ofSlice _ Tryd.underlying49 a n c _ hl ?_ h1
      intro j u hu
      have hc := h.cells_at a rfl j u hu
      exact (World.cell?_alloc_lt w _ _ (World.block_lt_of_cell? w _ hc)).trans hc
    have hq := fun w => Lib.run_eql_slice_nil (P := Tryd.prog) w 49 _ (some a) n c 0 0 Tryd.underlying49
    clear hA0 h
    go_enter Tryd.func32, Tryd.ntmps32
    go_wp2_with (at_builtin; go_loud (refine wpList_append_obm rfl _ _ 49 49 rfl 41 i0 _ 40 Tryd.underlying49 hi hz0 hz1 hz2 rfl ho rfl rfl hS hl (by unfold maxLen; omega) (by omega) ?_))
    intro v' w' q1 q2 q3 q4
    have q1 : OBM 4 w.heap.size w v' n l w' := by simpa using q1
    go_wp2
    go_ret
    exact ⟨_, rfl, q1⟩
end Go.Proofs.YtpbbnpglcadimaaDoor
namespace Go.Proofs.YtpbbnpglcadimaaDoor
open Go.RowKit
set_option linter.unusedVariables false
set_option linter.unusedSimpArgs false
set_option maxRecDepth 20000
/-- A delta: from, to, what goes, what comes. -/
abbrev DltT := RecT × RecT × RowR × RowR
def dltC (d : DltT) : List Value := dltCells d.1 d.2.1 (rowRV d.2.2.1) (rowRV d.2.2.2)
/-- The deltas lie one behind the other, ten cells each. -/
structure DsAt (w : World) (A : Option Addr) (ds : List DltT) : Prop where
  cells : ∀ i d, ds[i]? = some d → ∃ b off, A = some ⟨b, off, none⟩ ∧ b < w.heap.size ∧ ∀ j u, (dltC d)[j]? = some u → w.cell? ⟨b, off + i * 10 + j, none⟩ = some u
  gone : ∀ d ∈ ds, RowROk w d.2.2.1 ∧ d.2.2.1.2.1 ≤ 10000
  new : ∀ d ∈ ds, RowROk w d.2.2.2 ∧ d.2.2.2.2.1 ≤ 10000
theorem DsAt.below {w w' : World} {A : Option Addr} {ds : List DltT} (h : DsAt w A ds) (hb : Below w.heap.size w w') : DsAt w' A ds :=
  ⟨fun i d hd => by
    obtain ⟨b, off, e, h1, h2⟩ := h.cells i d hd
    exact ⟨b, off, e, Nat.lt_of_lt_of_le h1 hb.size, fun j u hu => (hb.cell (p := ⟨b, off + i * 10 + j, none⟩) h1).trans (h2 j u hu)⟩,
   fun d hd => ⟨(h.gone d hd).1.below hb, (h.gone d hd).2⟩, fun d hd => ⟨(h.new d hd).1.below hb, (h.new d hd).2⟩⟩
section
variable (o : ByteArray) (zs : Nat → List RecT) (ds : List DltT) (Az : Option Addr) (cz : Nat) (A2 : Option Addr) (c2 : Nat) (w : World)
/-- At the loop's head: k deltas are done. -/
structure DlsS (w : World) (z : List RecT) (V : Value) (wr : World) : Prop where
  zone : ZoneAt wr V z
  bel : Below w.heap.size w wr
set_option maxHeartbeats 3200000 in
/-- All lead on, and the last zone is right. -/
theorem deltas_path (hz : ZoneAt w (.slice Az (zs 0).length cz) (zs 0)) (hd : DsAt w A2 ds) (hn2 : ds.length ≤ 1000) (hc2 : ds.length ≤ c2)
    (hpath : ∀ k d, ds[k]? = some d → apdR (zs k) d.1 d.2.1 d.2.2.1.2.2.2 d.2.2.2.2.2.2 = .inr (zs (k + 1))) (hri : ∀ k, k ≤ ds.length → Rising (zs k) ∧ (zs k).length ≤ 1000)
    (ho : o.size ≤ 100000) (hfit : ∀ r ∈ zs ds.length, fit10 r) (hchk : checkR mayR o (zs ds.length) = 0) :
    Calls Tryd.prog 16 #[.string o, .slice Az (zs 0).length cz, .slice A2 ds.length c2] w fun e w' => ∃ V, e = .returned (.tuple #[V, .nilIface]) ∧ ZoneAt w' V (zs ds.length) ∧ Below w.heap.size w w' := by
  obtain ⟨n, hn⟩ : ∃ n, ds.length = n := ⟨_, rfl⟩
  have CZ : Hid (Calls Tryd.prog 32 #[.slice Az (zs 0).length cz] w fun e w' => ∃ v, e = .returned v ∧ DlsS w (zs 0) v w') := Lib.hid (by
    obtain ⟨A, c, e, h1, h2, h3, h4⟩ := hz
    injection e with e1 e2 e3
    subst e1 e3
    refine (clone_zone Az (zs 0).length cz (flatR (zs 0)) w w.heap.size h1.sl (by
      intro u hu
      unfold flatR at hu
      obtain ⟨r, _, hr⟩ := List.mem_flatMap.1 hu
      exact recCells_one r u hr) h2 (by have := (hri 0 (Nat.zero_le _)).2; omega)).mono ?_
    rintro e w' ⟨v, rfl, h⟩
    exact ⟨v, rfl, h.zone, h.bel⟩)
  have DL : Hid (∀ k d wx V, ds[k]? = some d → DlsS w (zs k) V wx → Calls Tryd.prog 29 #[V, .agg (dltC d).toArray] wx fun e w' => ∃ v, e = .returned (.tuple #[v, .nilIface]) ∧ DlsS w (zs (k + 1)) v w') := Lib.hid (fun k d wx V hk hs => by
    have hkn : k < ds.length := (List.getElem?_eq_some_iff.1 hk).1
    have hr := hri k (by omega)
    have hg := (hd.below hs.bel).gone d (List.mem_of_getElem? hk)
    have hw := (hd.below hs.bel).new d (List.mem_of_getElem? hk)
    obtain ⟨fr, tt, ⟨Ag, ng, cg, G⟩, ⟨An, nn, cn, M⟩⟩ := d
    refine (apd_any V (zs k) fr tt Ag An ng cg nn cn G M wx hs.zone (by omega) hr.1 hg.1 hg.2 hw.1 hw.2).mono ?_
    intro e w' hx
    have hp := hpath k _ hk
    simp only at hp
    rcases hx with ⟨er, h1, -⟩ | ⟨z, v, h1, h2, h3⟩
    · rw [hp] at h1; cases h1
    · rw [hp] at h1
      injection h1 with h1
      subst h1
      exact ⟨v, h2, h3.zone, below_trans hs.bel hs.bel.size h3.bel⟩)
  have CK : Hid (∀ wx V, DlsS w (zs n) V wx → Calls Tryd.prog 33 #[.string o, V] wx fun e w' => e = .returned (.tuple #[V, .nilIface]) ∧ Below wx.heap.size wx w') := Lib.hid (fun wx V hs => by
    rw [← hn] at hs
    obtain ⟨A, c, rfl, h1, h2, h3, h4⟩ := hs.zone
    obtain ⟨hrec, hl⟩ := hs.zone.recs
    refine (check_any mayR o A (zs ds.length).length c (zs ds.length) wx hrec rfl (hri _ (Nat.le_refl _)).2 ho hfit (fun r hr w => mayrec_is r hr.1 (Nat.le_trans hr.2.1 (by decide)) (Nat.le_trans hr.2.2 (by decide)) w)).mono ?_
    rintro e w' ⟨hb, ⟨_, he⟩ | ⟨hne, _⟩⟩
    · exact ⟨he, hb⟩
    · exact absurd hchk hne)
  have HD := Lib.hid hd
  have HN := Lib.hid hn
  rw [hn] at hn2 hc2 ⊢
  clear hz hd hpath hri ho hfit hchk hn
  generalize (zs 0).length = n0 at *
  go_enter Tryd.func16, Tryd.ntmps16
  go_wp2_with fail
  refine CZ.out.mono ?_
  rintro e w1 ⟨V1, rfl, h1⟩
  have H1 := Lib.hid h1
  clear h1 CZ
  go_wp2_with fail
  go_loopw [1, 16] (fun v i wr => ∃ k : Nat, k ≤ n ∧ i = .int .i64 k ∧ Hid (DlsS w (zs k) v wr)) (fun _ i _ => n - (intOf i).toNat)
  case atStart => exact ⟨0, Nat.zero_le _, rfl, H1⟩
  case round =>
    obtain ⟨k, hk, rfl, HS⟩ := hrel
    clear H1
    by_cases hkn : k < n
    · have hkn' : (k : Int) < n := by omega
      have hk0 : ¬ (k : Int) < 0 := by omega
      obtain ⟨d, hdk⟩ : ∃ d, ds[k]? = some d := ⟨_, List.getElem?_eq_getElem (by have := HN.out; omega)⟩
      have HDK := Lib.hid hdk
      obtain ⟨b, off, hA, hb, hcell⟩ := HD.out.cells k d hdk
      subst hA
      have hbr := HS.out.bel
      obtain ⟨⟨a0, a1, a2, a3⟩, ⟨b0, b1, b2, b3⟩, ⟨Ag, ng, cg, G⟩, ⟨An, nn, cn, M⟩⟩ := d
      have q : ∀ j u, (dltC ((a0, a1, a2, a3), (b0, b1, b2, b3), (Ag, ng, cg, G), (An, nn, cn, M)))[j]? = some u → wr.cell? ⟨b, off + k * 10 + j, none⟩ = some u := fun j u hu => (hbr.cell (p := ⟨b, off + k * 10 + j, none⟩) hb).trans (hcell j u hu)
      have q0 := q 0 _ rfl
      have q1 := q 1 _ rfl
      have q2 := q 2 _ rfl
      have q3 := q 3 _ rfl
      have q4 := q 4 _ rfl
      have q5 := q 5 _ rfl
      have q6 := q 6 _ rfl
      have q7 := q 7 _ rfl
      have q8 := q 8 _ rfl
      have q9 := q 9 _ rfl
      rw [Nat.add_zero] at q0
      simp only [rowRV] at q8 q9
      have ql : b < wr.heap.size := Nat.lt_of_lt_of_le hb hbr.size
      have HBX := Lib.hid (Cs.new wr #[.string a0, .int .u16 a1, .int .u32 a2, .string a3, .string b0, .int .u16 b1, .int .u32 b2, .string b3, .slice Ag ng cg, .slice An nn cn] 43 _ rfl)
      have HB0 := Lib.hid ((Below.refl wr.heap.size wr).alloc (Nat.le_refl _) (.cells #[.string a0, .int .u16 a1, .int .u32 a2, .string a3, .string b0, .int .u16 b1, .int .u32 b2, .string b3, .slice Ag ng cg, .slice An nn cn] 43))
      have HSX : Hid (DlsS w (zs k) _ (wr.alloc (.cells #[.string a0, .int .u16 a1, .int .u32 a2, .string a3, .string b0, .int .u16 b1, .int .u32 b2, .string b3, .slice Ag ng cg, .slice An nn cn] 43))) := Lib.hid ⟨HS.out.zone.below HB0.out, below_trans HS.out.bel HS.out.bel.size HB0.out⟩
      have HDL := Lib.hid (DL.out k _ _ _ HDK.out HSX.out)
      have HDL2 : Hid (Calls Tryd.prog 29 #[_, .agg #[.string a0, .int .u16 a1, .int .u32 a2, .string a3, .string b0, .int .u16 b1, .int .u32 b2, .string b3, .slice Ag ng cg, .slice An nn cn]] (wr.alloc (.cells #[.string a0, .int .u16 a1, .int .u32 a2, .string a3, .string b0, .int .u16 b1, .int .u32 b2, .string b3, .slice Ag ng cg, .slice An nn cn] 43)) fun e w' => ∃ v, e = .returned (.tuple #[v, .nilIface]) ∧ DlsS w (zs (k + 1)) v w') := HDL
      clear q hdk hcell hbr hb HDL DL CK HSX HB0 HS
      go_wp2_with fail
      generalize (wr.alloc (.cells #[.string a0, .int .u16 a1, .int .u32 a2, .string a3, .string b0, .int .u16 b1, .int .u32 b2, .string b3, .slice Ag ng cg, .slice An nn cn] 43)) = wx at *
      refine HDL2.out.mono ?_
      rintro e w3 ⟨v3, rfl, h3⟩
      have H3 := Lib.hid h3
      clear h3 HDL2 HBX
      go_wp2_with fail
      go_roundw
      case rel => exact ⟨k + 1, by omega, by go_num, H3⟩
      case measure => simp [intOf]; omega
    · obtain rfl : k = n := by omega
      have hkn' : ¬ (k : Int) < k := by omega
      have HCK := Lib.hid (CK.out _ _ HS.out)
      clear DL CK hkn
      go_wp2_with fail
      refine HCK.out.mono ?_
      rintro e w3 ⟨rfl, hb3⟩
      have HZ := Lib.hid (HS.out.zone.below hb3)
      have HB3 := Lib.hid (below_trans HS.out.bel HS.out.bel.size hb3)
      clear hb3 HCK HS
      go_wp2_with fail
      go_ret2
      exact ⟨_, rfl, HZ.out, HB3.out⟩
set_option maxHeartbeats 3200000 in
/-- The first one does not lead on. -/
theorem deltas_fail (z : List RecT) (d0 : DltT) (hz : ZoneAt w (.slice Az z.length cz) z) (hd : DsAt w A2 ds) (hn2 : ds.length ≤ 1000) (h0 : ds[0]? = some d0)
    (hpath : apdR z d0.1 d0.2.1 d0.2.2.1.2.2.2 d0.2.2.2.2.2.2 = .inl 5) (hri : Rising z ∧ z.length ≤ 1000) :
    Calls Tryd.prog 16 #[.string o, .slice Az z.length cz, .slice A2 ds.length c2] w fun e w' => e = .returned (.tuple #[.slice none 0 0, errV 5]) ∧ Below w.heap.size w w' := by
  obtain ⟨n, hn⟩ : ∃ n, ds.length = n := ⟨_, rfl⟩
  have hn0 : 0 < n := by have := (List.getElem?_eq_some_iff.1 h0).1; omega
  have CZ : Hid (Calls Tryd.prog 32 #[.slice Az z.length cz] w fun e w' => ∃ v, e = .returned v ∧ DlsS w z v w') := Lib.hid (by
    obtain ⟨A, c, e, h1, h2, h3, h4⟩ := hz
    injection e with e1 e2 e3
    subst e1 e3
    refine (clone_zone Az z.length cz (flatR z) w w.heap.size h1.sl (by
      intro u hu
      unfold flatR at hu
      obtain ⟨r, _, hr⟩ := List.mem_flatMap.1 hu
      exact recCells_one r u hr) h2 (by have := hri.2; omega)).mono ?_
    rintro e w' ⟨v, rfl, h⟩
    exact ⟨v, rfl, h.zone, h.bel⟩)
  have DL : Hid (∀ wx V, DlsS w z V wx → Calls Tryd.prog 29 #[V, .agg (dltC d0).toArray] wx fun e w' => e = .returned (.tuple #[.slice none 0 0, errV 5]) ∧ Below wx.heap.size wx w') := Lib.hid (fun wx V hs => by
    have hg := (hd.below hs.bel).gone d0 (List.mem_of_getElem? h0)
    have hw := (hd.below hs.bel).new d0 (List.mem_of_getElem? h0)
    obtain ⟨fr, tt, ⟨Ag, ng, cg, G⟩, ⟨An, nn, cn, M⟩⟩ := d0
    refine (apd_any V z fr tt Ag An ng cg nn cn G M wx hs.zone (by omega) hri.1 hg.1 hg.2 hw.1 hw.2).mono ?_
    intro e w' hx
    simp only at hpath
    rcases hx with ⟨er, h1, h2, h3⟩ | ⟨z, v, h1, h2, h3⟩
    · rw [hpath] at h1
      injection h1 with h1
      subst h1
      exact ⟨h2, h3⟩
    · rw [hpath] at h1; cases h1)
  have HD := Lib.hid hd
  have H0 := Lib.hid h0
  rw [hn] at hn2 ⊢
  clear hz hd hpath hri hn h0
  generalize z.length = n0 at *
  go_enter Tryd.func16, Tryd.ntmps16
  go_wp2_with fail
  refine CZ.out.mono ?_
  rintro e w1 ⟨V1, rfl, h1⟩
  have H1 := Lib.hid h1
  clear h1 CZ
  go_wp2_with fail
  go_loopw [1, 16] (fun v i wr => v = V1 ∧ i = .int .i64 0 ∧ Hid (DlsS w z V1 wr)) (fun _ i _ => n - (intOf i).toNat)
  case atStart => exact ⟨rfl, rfl, H1⟩
  case round =>
    obtain ⟨rfl, rfl, HS⟩ := hrel
    clear H1
    have hkn' : (0 : Int) < n := by omega
    obtain ⟨b, off, hA, hb, hcell⟩ := HD.out.cells 0 d0 H0.out
    subst hA
    have hbr := HS.out.bel
    obtain ⟨⟨a0, a1, a2, a3⟩, ⟨b0, b1, b2, b3⟩, ⟨Ag, ng, cg, G⟩, ⟨An, nn, cn, M⟩⟩ := d0
    have q : ∀ j u, (dltC ((a0, a1, a2, a3), (b0, b1, b2, b3), (Ag, ng, cg, G), (An, nn, cn, M)))[j]? = some u → wr.cell? ⟨b, off + j, none⟩ = some u := fun j u hu => by
      have := (hbr.cell (p := ⟨b, off + 0 * 10 + j, none⟩) hb).trans (hcell j u hu)
      simpa using this
    have q0 := q 0 _ rfl
    have q1 := q 1 _ rfl
    have q2 := q 2 _ rfl
    have q3 := q 3 _ rfl
    have q4 := q 4 _ rfl
    have q5 := q 5 _ rfl
    have q6 := q 6 _ rfl
    have q7 := q 7 _ rfl
    have q8 := q 8 _ rfl
    have q9 := q 9 _ rfl
    rw [Nat.add_zero] at q0
    simp only [rowRV] at q8 q9
    have ql : b < wr.heap.size := Nat.lt_of_lt_of_le hb hbr.size
    have HB0 := Lib.hid ((Below.refl wr.heap.size wr).alloc (Nat.le_refl _) (.cells #[.string a0, .int .u16 a1, .int .u32 a2, .string a3, .string b0, .int .u16 b1, .int .u32 b2, .string b3, .slice Ag ng cg, .slice An nn cn] 43))
    have HSX : Hid (DlsS w z _ (wr.alloc (.cells #[.string a0, .int .u16 a1, .int .u32 a2, .string a3, .string b0, .int .u16 b1, .int .u32 b2, .string b3, .slice Ag ng cg, .slice An nn cn] 43))) := Lib.hid ⟨HS.out.zone.below HB0.out, below_trans HS.out.bel HS.out.bel.size HB0.out⟩
    have HDL := Lib.hid (DL.out _ _ HSX.out)
    have HDL2 : Hid (Calls Tryd.prog 29 #[_, .agg #[.string a0, .int .u16 a1, .int .u32 a2, .string a3, .string b0, .int .u16 b1, .int .u32 b2, .string b3, .slice Ag ng cg, .slice An nn cn]] (wr.alloc (.cells #[.string a0, .int .u16 a1, .int .u32 a2, .string a3, .string b0, .int .u16 b1, .int .u32 b2, .string b3, .slice Ag ng cg, .slice An nn cn] 43)) fun e w' => e = .returned (.tuple #[.slice none 0 0, errV 5]) ∧ Below (wr.alloc (.cells #[.string a0, .int .u16 a1, .int .u32 a2, .string a3, .string b0, .int .u16 b1, .int .u32 b2, .string b3, .slice Ag ng cg, .slice An nn cn] 43)).heap.size (wr.alloc (.cells #[.string a0, .int .u16 a1, .int .u32 a2, .string a3, .string b0, .int .u16 b1, .int .u32 b2, .string b3, .slice Ag ng cg, .slice An nn cn] 43)) w') := HDL
    clear q hcell hbr hb HDL DL HB0 HS
    go_wp2_with fail
    generalize (wr.alloc (.cells #[.string a0, .int .u16 a1, .int .u32 a2, .string a3, .string b0, .int .u16 b1, .int .u32 b2, .string b3, .slice Ag ng cg, .slice An nn cn] 43)) = wx at *
    refine HDL2.out.mono ?_
    rintro e w3 ⟨rfl, hb3⟩
    have HB3 := Lib.hid (below_trans HSX.out.bel HSX.out.bel.size hb3)
    clear hb3 HDL2 HSX
    unfold errV
    go_wp2_with fail
    go_ret2
    exact ⟨rfl, HB3.out⟩
end
end Go.Proofs.YtpbbnpglcadimaaDoor
namespace Go.Proofs.YtpbbnpglcadimaaDoor
open Go.RowKit
set_option linter.unusedVariables false
set_option linter.unusedSimpArgs false
set_option maxRecDepth 20000
theorem any_next9 {rs : List RecT} {k : Nat} {r : RecT} (p : RecT → Bool) (hr : rs[k]? = some r) : (rs.take (k + 1)).any p = ((rs.take k).any p || p r) := by rw [List.take_add_one, hr]; simp
theorem any_stop9 {rs : List RecT} {k : Nat} {r : RecT} (p : RecT → Bool) (hr : rs[k]? = some r) (hp : p r = true) : rs.any p = true := by
  rw [List.any_eq_true]; exact ⟨r, List.mem_of_getElem? hr, hp⟩
set_option maxHeartbeats 1600000 in
theorem indexSoa_any (A : Option Addr) (n c : Nat) (rs : List RecT) (w : World) (h : Recs w A rs) (hl : rs.length = n) (hn : n ≤ 1048576) :
    Calls Tryd.prog 64 #[.slice A n c, .func (.func 37) #[] #[]] w fun e w' => (∃ i : Int, e = .returned (.int .i64 i) ∧ decide (0 ≤ i) = rs.any soaB) ∧ Below w.heap.size w w' := by
  have H := Lib.hid h
  have HL := Lib.hid hl
  clear h hl
  go_enter Tryd.func64, Tryd.ntmps64
  go_wp2_with fail
  go_loopw [8] (fun p wr => ∃ k : Nat, k ≤ n ∧ p = .int .i64 k ∧ Hid ((rs.take k).any soaB = false) ∧ Hid (Below w.heap.size w wr)) (fun p _ => n - (intOf p).toNat)
  case atStart => exact ⟨0, Nat.zero_le _, rfl, Lib.hid (by simp), Lib.hid (Below.refl _ _)⟩
  case round =>
    obtain ⟨k, hk, rfl, HK, HB⟩ := hrel
    by_cases hlt : k < n
    · have hlt' : (k : Int) < n := by omega
      obtain ⟨r, hr⟩ : ∃ r, rs[k]? = some r := ⟨_, List.getElem?_eq_getElem (by rw [HL.out]; omega)⟩
      obtain ⟨bb, off, rfl, hbb, hrg⟩ := (H.out.below HB.out).range hr
      have IS := Lib.hid (fun w => isSoa_any r w)
      have HRG := Lib.hid hrg
      have HR := Lib.hid hr
      clear hr hrg hbb
      obtain ⟨r0, r1, r2, r3⟩ := r
      unfold recV at IS
      unfold recCells at HRG
      simp only at IS HRG
      go_wp2_with (first | refine wpList_load_mid rfl 41 _ rfl bb (off + k * 4) rfl _ _ HRG.out Tryd.underlying41 rfl (by kernel_rfl) ?_)
      refine (IS.out _).mono ?_
      rintro e w6 ⟨rfl, hb6⟩
      have HB6 := Lib.hid (below_trans HB.out HB.out.size hb6)
      clear hb6
      cases es : soaB (r0, r1, r2, r3) with
      | false =>
        have HNO := Lib.hid (any_next9 soaB HR.out)
        have HES := Lib.hid es
        clear es
        go_wp2_with fail
        go_round
        case rel => exact ⟨k + 1, by omega, by go_num, Lib.hid (by rw [HNO.out, HK.out, HES.out]; rfl), HB6⟩
        case measure => simp [intOf]; omega
      | true =>
        have HYE := Lib.hid (any_stop9 soaB HR.out es)
        clear es
        go_wp2_with fail
        go_ret
        exact ⟨⟨k, rfl, by rw [HYE.out]; exact decide_eq_true (by omega)⟩, HB6.out⟩
    · have hlt' : ¬ (k : Int) < n := by omega
      have HEN : Hid (rs.any soaB = false) := Lib.hid (by have := HK.out; rwa [List.take_of_length_le (by rw [HL.out]; omega)] at this)
      go_wp2_with fail
      go_ret
      exact ⟨⟨-1, rfl, by rw [HEN.out]; rfl⟩, HB.out⟩
theorem containsSoa_any (A : Option Addr) (n c : Nat) (rs : List RecT) (w : World) (h : Recs w A rs) (hl : rs.length = n) (hn : n ≤ 1048576) :
    Calls Tryd.prog 43 #[.slice A n c, .func (.func 37) #[] #[]] w fun e w' => e = .returned (.bool (rs.any soaB)) ∧ Below w.heap.size w w' := by
  have IX := Lib.hid (indexSoa_any A n c rs w h hl hn)
  clear h hl
  generalize rs.any soaB = q at *
  go_enter Tryd.func43, Tryd.ntmps43
  go_wp2_with fail
  refine IX.out.mono ?_
  rintro e w1 ⟨⟨i, rfl, hi⟩, hb⟩
  have HB := Lib.hid hb
  clear hb
  by_cases h0 : 0 ≤ i
  · rw [decide_eq_true h0] at hi
    subst hi
    go_wp2_with fail
    go_ret
    exact ⟨rfl, HB.out⟩
  · rw [decide_eq_false h0] at hi
    subst hi
    go_wp2_with fail
    go_ret
    refine ⟨?_, HB.out⟩
    show Ending.returned (.bool (decide (0 ≤ i))) = _
    rw [decide_eq_false (by omega)]
end Go.Proofs.YtpbbnpglcadimaaDoor
namespace Go.Proofs.YtpbbnpglcadimaaDoor
open Go.RowKit
set_option linter.unusedVariables false
set_option linter.unusedSimpArgs false
set_option maxRecDepth 20000
attribute [local simp] putsF isV wordOf Deps Region.binds Region.wanted Act.put wantedX isB
/-- Are records a whole zone's? -/
def fullR (m : RecT → Bool) (o : ByteArray) (rs : List RecT) : Bool := match rs with
  | [] => false
  | [_] => false
  | a :: b :: t => admR m o (a :: b :: t) && (eqB ((a :: b :: t).getLast (by simp)) a && !(((a :: b :: t).drop 1).take (t.length)).any soaB)
theorem Recs.part {w : World} {b off : Nat} {rs : List RecT} (h : Recs w (some ⟨b, off, none⟩) rs) (i k : Nat) : Recs w (some ⟨b, off + i * 4, none⟩) ((rs.drop i).take k) := by
  intro j r hr
  rw [List.getElem?_take] at hr
  split at hr
  · rw [List.getElem?_drop] at hr
    obtain ⟨b', off', hA, hb, g0, g1, g2, g3⟩ := h _ _ hr
    injection hA with hA; injection hA with q1 q2; subst q1 q2
    have e : off + (i + j) * 4 = off + i * 4 + j * 4 := by omega
    rw [e] at g0 g1 g2 g3
    exact ⟨_, _, rfl, hb, g0, g1, g2, g3⟩
  · cases hr
/-- Full's answer. -/
def FullA (m : RecT → Bool) (o : ByteArray) (rs : List RecT) (w : World) (e : Ending) (w' : World) : Prop :=
  (fullR m o rs = false ∧ e = .returned (.tuple #[.slice none 0 0, .iface 36 (.int .i64 4)]) ∧ Below w.heap.size w w') ∨
  (fullR m o rs = true ∧ ∃ v, e = .returned (.tuple #[v, .nilIface]) ∧ OBM 4 w.heap.size w v (rs.length - 1) (flatR (rs.take (rs.length - 1))) w')
set_option maxHeartbeats 6400000 in
theorem full_any (m : RecT → Bool) (o : ByteArray) (bb off : Nat) (n c : Nat) (rs : List RecT) (w : World) (h : Recs w (some ⟨bb, off, none⟩) rs) (hl : rs.length = n) (hn : n ≤ 1000) (h2 : 2 ≤ n) (hc : n ≤ c) (ho : o.size ≤ maxLen) (hz : ∀ r ∈ rs, r.1.size ≤ maxLen) (hbl : bb < w.heap.size)
    (hm : ∀ r ∈ rs, ∀ w, Calls Tryd.prog 40 #[recV r] w fun e w' => e = .returned (.bool (m r)) ∧ Below w.heap.size w w')
    (CLN : ∀ wx, Below w.heap.size w wx → Calls Tryd.prog 44 #[.slice (some ⟨bb, off, none⟩) (n - 1) c] wx fun e w' => ∃ v, e = .returned v ∧ OBM 4 wx.heap.size wx v (n - 1) (flatR (rs.take (n - 1))) w') :
    Calls Tryd.prog 23 #[.string o, .slice (some ⟨bb, off, none⟩) n c] w (FullA m o rs w) := by
  obtain ⟨AR, hAR⟩ : ∃ R, R = FullA m o rs w := ⟨_, rfl⟩
  rw [← hAR]
  obtain ⟨rl, hrl⟩ : ∃ r, rs[n - 1]? = some r := ⟨_, List.getElem?_eq_getElem (by omega)⟩
  obtain ⟨rf, hrf⟩ : ∃ r, rs[0]? = some r := ⟨_, List.getElem?_eq_getElem (by omega)⟩
  have hfull : fullR m o rs = (admR m o rs && (eqB rl rf && !((rs.drop 1).take (n - 2)).any soaB)) := by
    match rs, hl, hrl, hrf with
    | [], hl, _, _ => simp at hl; omega
    | [_], hl, _, _ => simp at hl; omega
    | a :: b :: t, hl, hrl, hrf =>
      have e1 : a = rf := by simpa using hrf
      have e2 : (a :: b :: t).getLast (by simp) = rl := by
        rw [List.getLast_eq_getElem]
        have := hrl
        rw [List.getElem?_eq_getElem (by simp at hl ⊢; omega)] at this
        have h3 := Option.some.inj this
        rw [← h3]
        congr 1
        simp at hl ⊢
        omega
      unfold fullR
      simp only
      rw [e2, e1, show t.length = n - 2 by simp at hl; omega]
  have HFAIL : Hid (fullR m o rs = false → ∀ w', Below w.heap.size w w' → AR (.returned (.tuple #[.slice none 0 0, .iface 36 (.int .i64 4)])) w') := Lib.hid (fun hf w' hb => by rw [hAR]; exact .inl ⟨hf, rfl, hb⟩)
  have HGOOD : Hid (fullR m o rs = true → ∀ v w', OBM 4 w.heap.size w v (n - 1) (flatR (rs.take (n - 1))) w' → AR (.returned (.tuple #[v, .nilIface])) w') := Lib.hid (fun hf v w' hb => by rw [hAR]; exact .inr ⟨hf, v, rfl, by rw [hl]; exact hb⟩)
  have HFULL := Lib.hid hfull
  have AD := Lib.hid (fun (wx : World) (hb : Below w.heap.size w wx) => admissible_any m o (some ⟨bb, off, none⟩) n c rs wx (h.below hb) hl (by omega) ho hz hm)
  have hpart : (rs.drop 1).take (n - 2) = (rs.drop 1).take (n - 2) := rfl
  have CT := Lib.hid (fun (wx : World) (hb : Below w.heap.size w wx) => containsSoa_any (some ⟨bb, off + 4, none⟩) (n - 2) (c - 1) ((rs.drop 1).take (n - 2)) wx (by have := (h.below hb).part 1 (n - 2); simpa using this) (by rw [List.length_take, List.length_drop]; omega) (by omega))
  have CL := Lib.hid CLN
  obtain ⟨b1, o1, hA1, hb1, hr1⟩ := h.range hrl
  injection hA1 with hA1; injection hA1 with q1 q2; subst q1 q2
  obtain ⟨b2, o2, hA2, hb2, hr2⟩ := h.range hrf
  injection hA2 with hA2; injection hA2 with q1 q2; subst q1 q2
  have HRL : Hid (∀ wx, Below w.heap.size w wx → wx.rangeAt bb (off + (n - 1) * 4) (recCells rl)) := Lib.hid (fun wx hb j v hv => (hb.cell (p := ⟨bb, off + (n - 1) * 4 + j, none⟩) hb1).trans (hr1 j v hv))
  have HRF : Hid (∀ wx, Below w.heap.size w wx → wx.rangeAt bb off (recCells rf)) := Lib.hid (fun wx hb j v hv => (hb.cell (p := ⟨bb, off + j, none⟩) hb1).trans (by have := hr2 j v hv; simpa using this))
  obtain ⟨VL, hVL⟩ : ∃ v, v = recV rl := ⟨_, rfl⟩
  obtain ⟨VF, hVF⟩ : ∃ v, v = recV rf := ⟨_, rfl⟩
  have HVL := Lib.hid hVL
  have HVF := Lib.hid hVF
  have HNQ : Hid (∀ w, (binOp .neq 41 VL VF).run Tryd.prog w = .ok (.bool (!eqB rl rf)) w) := Lib.hid (fun w => by rw [HVL.out, HVF.out]; exact rec_neq rl rf w)
  obtain ⟨L, hL⟩ : ∃ L, L = n - 1 := ⟨_, rfl⟩
  rw [← hL] at HRL CL HGOOD
  rw [show n - 2 = L - 1 by omega] at HFULL CT
  have e1 : wrap64 ((n : Int) - 1) = (L : Int) := by unfold wrap64; omega
  have e2 : IntKind.i64.wrap ((n : Int) - 1) = (L : Int) := by rw [IntKind.wrap_i64]; omega
  have e3 : ¬ (L : Int) < 1 := by omega
  have e3' : ¬ L < 1 := by omega
  have e6 : (L : Int) < n := by omega
  have e6' : L < n := by omega
  have e7 : ¬ c = 1 := by omega
  have e8 : (1 : Int) ≤ L := by omega
  have e8' : 1 ≤ L := by omega
  have e9 : (L : Int) ≤ c := by omega
  have e9' : L ≤ c := by omega
  have e11 : (0 : Int) < n := by omega
  have e12 : 0 < n := by omega
  have e13 : ¬ L = 0 := by omega
  clear hL h hl hz hm ho CLN hAR hrl hrf hfull hpart hb1 hr1 hb2 hr2 hVL hVF hbl
  generalize ((rs.drop 1).take (L - 1)).any soaB = cs at *
  generalize admR m o rs = ad at *
  generalize eqB rl rf = eq at *
  go_enter Tryd.func23, Tryd.ntmps23
  go_upto_region 2 with fail
  cases ad with
  | false =>
    refine wp_region_goesG data_follows (fun x => by simp [putsF, Act.put]; rfl) w.heap.size w
      [isV (.int .i64 (L : Nat)), isV (.bool false), isV (.bool false), isV (.string o), isV (.slice (some ⟨bb, off, none⟩) n c), isV (.bool false), isV (.bool true), isV (.bool true), isV (.bool true), isV undef, isV undef, isV undef, isV undef, isV undef, isV undef, isV undef, isV undef, isV (.bool true), isV (.bool true), isV undef, isV undef, isV undef, isV undef, isV (.bool true)]
      (by kernel_rfl) (by kernel_rfl) (by kernel_rfl) rfl ?_ (Below.refl _ _) ?_ ?_
    · repeat (first | exact trivial | refine ⟨isV_stays _, ?_⟩)
    · refine ⟨?_, ?_, ?_, ?_, ?_, ?_, ?_, ?_, ?_, ?_, ?_, ?_, ?_, ?_, ?_, ?_, ?_, ?_, ?_, ?_, ?_, ?_, ?_, ?_, trivial⟩
      all_goals
        intro x wx hR hd
        simp at hd
      · refine ⟨fun _ => ?_, fun hX => by first | (simp at hX; done) | (simp [hd] at hX; done)⟩
        (try simp [hd]); go_simp; exact next_same _ rfl rfl hR
      · refine ⟨fun _ => ?_, fun hX => by first | (simp at hX; done) | (simp [hd] at hX; done)⟩
        (try simp [hd]); go_simp; exact next_same _ rfl rfl hR
      · refine ⟨fun _ => ?_, fun hX => by first | (simp at hX; done) | (simp [hd] at hX; done)⟩
        (try simp [hd]); go_simp; exact next_same _ rfl rfl hR
      · refine ⟨fun _ => ?_, fun hX => by first | (simp at hX; done) | (simp [hd] at hX; done)⟩
        (try simp [hd]); go_simp; exact next_same _ rfl rfl hR
      · refine ⟨fun _ => ?_, fun hX => by first | (simp at hX; done) | (simp [hd] at hX; done)⟩
        (try simp [hd]); go_simp; exact next_same _ rfl rfl hR
      · refine ⟨fun _ => ?_, fun hX => by first | (simp at hX; done) | (simp [hd] at hX; done)⟩
        (try simp [hd])
        go_simp
        go_at_call 21
        refine (AD.out wx hR).mono ?_
        rintro r wy ⟨rfl, hb⟩
        exact next_call _ rfl rfl hR hR.size hb
      · refine ⟨fun _ => ?_, fun hX => by first | (simp at hX; done) | (simp [hd] at hX; done)⟩
        (try simp [hd]); go_simp; exact next_same _ rfl rfl hR
      · refine ⟨fun _ => ?_, fun hX => by first | (simp at hX; done) | (simp [hd] at hX; done)⟩
        (try simp [hd]); go_simp; exact next_same _ rfl rfl hR
      · refine ⟨fun _ => ?_, fun hX => by first | (simp at hX; done) | (simp [hd] at hX; done)⟩
        (try simp [hd]); go_simp; exact next_same _ rfl rfl hR
      · refine ⟨fun hX => ?_, fun _ => rfl⟩
        exfalso; first | (simp [hd] at hX; done) | (simp [hd, undef] at hX; done)
      · refine ⟨fun hX => ?_, fun _ => rfl⟩
        exfalso; first | (simp [hd] at hX; done) | (simp [hd, undef] at hX; done)
      · refine ⟨fun hX => ?_, fun _ => rfl⟩
        exfalso; first | (simp [hd] at hX; done) | (simp [hd, undef] at hX; done)
      · refine ⟨fun hX => ?_, fun _ => rfl⟩
        exfalso; first | (simp [hd] at hX; done) | (simp [hd, undef] at hX; done)
      · refine ⟨fun hX => ?_, fun _ => rfl⟩
        exfalso; first | (simp [hd] at hX; done) | (simp [hd, undef] at hX; done)
      · refine ⟨fun hX => ?_, fun _ => rfl⟩
        exfalso; first | (simp [hd] at hX; done) | (simp [hd, undef] at hX; done)
      · refine ⟨fun hX => ?_, fun _ => rfl⟩
        exfalso; first | (simp [hd] at hX; done) | (simp [hd, undef] at hX; done)
      · refine ⟨fun hX => ?_, fun _ => rfl⟩
        exfalso; first | (simp [hd] at hX; done) | (simp [hd, undef] at hX; done)
      · refine ⟨fun _ => ?_, fun hX => by first | (simp at hX; done) | (simp [hd] at hX; done)⟩
        (try simp [hd]); go_simp; exact next_same _ rfl rfl hR
      · refine ⟨fun _ => ?_, fun hX => by first | (simp at hX; done) | (simp [hd] at hX; done)⟩
        (try simp [hd]); go_simp; exact next_same _ rfl rfl hR
      · refine ⟨fun hX => ?_, fun _ => rfl⟩
        exfalso; first | (simp [hd] at hX; done) | (simp [hd, undef] at hX; done)
      · refine ⟨fun hX => ?_, fun _ => rfl⟩
        exfalso; first | (simp [hd] at hX; done) | (simp [hd, undef] at hX; done)
      · refine ⟨fun hX => ?_, fun _ => rfl⟩
        exfalso; first | (simp [hd] at hX; done) | (simp [hd, undef] at hX; done)
      · refine ⟨fun hX => ?_, fun _ => rfl⟩
        exfalso; first | (simp [hd] at hX; done) | (simp [hd, undef] at hX; done)
      · refine ⟨fun _ => ?_, fun hX => by first | (simp at hX; done) | (simp [hd] at hX; done)⟩
        (try simp [hd]); go_simp; exact next_same _ rfl rfl hR
    intro x w7 hR hx
    simp [AllWords] at hx
    have h23 : x 23 = .bool true := by simp [hx]
    rw [h23]
    clear hx h23
    have HB7 := Lib.hid hR
    clear hR
    go_wp2_with fail
    exact HFAIL.out (by rw [HFULL.out]; rfl) _ HB7.out
  | true =>
    cases eq with
    | false =>
      refine wp_region_goesG data_follows (fun x => by simp [putsF, Act.put]; rfl) w.heap.size w
        [isV (.int .i64 (L : Nat)), isV (.bool false), isV (.bool false), isV (.string o), isV (.slice (some ⟨bb, off, none⟩) n c), isV (.bool true), isV (.bool false), isV (.bool false), isV (.bool false), isV (.slice (some ⟨bb, off, none⟩) n c), isV (.int .i64 (L : Nat)), isV (.pointer (some ⟨bb, off + L * 4, none⟩)), isV VL, isV (.slice (some ⟨bb, off, none⟩) n c), isV (.pointer (some ⟨bb, off, none⟩)), isV VF, isV (.bool true), isV (.bool true), isV (.bool true), isV undef, isV undef, isV undef, isV undef, isV (.bool true)]
        (by kernel_rfl) (by kernel_rfl) (by kernel_rfl) rfl ?_ (Below.refl _ _) ?_ ?_
      · repeat (first | exact trivial | refine ⟨isV_stays _, ?_⟩)
      · refine ⟨?_, ?_, ?_, ?_, ?_, ?_, ?_, ?_, ?_, ?_, ?_, ?_, ?_, ?_, ?_, ?_, ?_, ?_, ?_, ?_, ?_, ?_, ?_, ?_, trivial⟩
        all_goals
          intro x wx hR hd
          simp at hd
        · refine ⟨fun _ => ?_, fun hX => by first | (simp at hX; done) | (simp [hd] at hX; done)⟩
          (try simp [hd]); go_simp; exact next_same _ rfl rfl hR
        · refine ⟨fun _ => ?_, fun hX => by first | (simp at hX; done) | (simp [hd] at hX; done)⟩
          (try simp [hd]); go_simp; exact next_same _ rfl rfl hR
        · refine ⟨fun _ => ?_, fun hX => by first | (simp at hX; done) | (simp [hd] at hX; done)⟩
          (try simp [hd]); go_simp; exact next_same _ rfl rfl hR
        · refine ⟨fun _ => ?_, fun hX => by first | (simp at hX; done) | (simp [hd] at hX; done)⟩
          (try simp [hd]); go_simp; exact next_same _ rfl rfl hR
        · refine ⟨fun _ => ?_, fun hX => by first | (simp at hX; done) | (simp [hd] at hX; done)⟩
          (try simp [hd]); go_simp; exact next_same _ rfl rfl hR
        · refine ⟨fun _ => ?_, fun hX => by first | (simp at hX; done) | (simp [hd] at hX; done)⟩
          (try simp [hd])
          go_simp
          go_at_call 21
          refine (AD.out wx hR).mono ?_
          rintro r wy ⟨rfl, hb⟩
          exact next_call _ rfl rfl hR hR.size hb
        · refine ⟨fun _ => ?_, fun hX => by first | (simp at hX; done) | (simp [hd] at hX; done)⟩
          (try simp [hd]); go_simp; exact next_same _ rfl rfl hR
        · refine ⟨fun _ => ?_, fun hX => by first | (simp at hX; done) | (simp [hd] at hX; done)⟩
          (try simp [hd]); go_simp; exact next_same _ rfl rfl hR
        · refine ⟨fun _ => ?_, fun hX => by first | (simp at hX; done) | (simp [hd] at hX; done)⟩
          (try simp [hd]); go_simp; exact next_same _ rfl rfl hR
        · refine ⟨fun _ => ?_, fun hX => by first | (simp at hX; done) | (simp [hd] at hX; done)⟩
          (try simp [hd]); go_simp; exact next_same _ rfl rfl hR
        · refine ⟨fun _ => ?_, fun hX => by first | (simp at hX; done) | (simp [hd] at hX; done)⟩
          (try simp [hd]); go_simp; exact next_same _ rfl rfl hR
        · refine ⟨fun _ => ?_, fun hX => by first | (simp at hX; done) | (simp [hd] at hX; done)⟩
          (try simp [hd]); go_simp; exact next_same _ rfl rfl hR
        · refine ⟨fun _ => ?_, fun hX => by first | (simp at hX; done) | (simp [hd] at hX; done)⟩
          refine wp_load_mid 41 _ rfl bb (off + L * 4) (by simp [go_sem, hd]) _ _ (HRL.out wx hR) Tryd.underlying41 rfl (by kernel_rfl) ?_
          exact next_same _ rfl HVL.out.symm hR
        · refine ⟨fun _ => ?_, fun hX => by first | (simp at hX; done) | (simp [hd] at hX; done)⟩
          (try simp [hd]); go_simp; exact next_same _ rfl rfl hR
        · refine ⟨fun _ => ?_, fun hX => by first | (simp at hX; done) | (simp [hd] at hX; done)⟩
          (try simp [hd]); go_simp; exact next_same _ rfl rfl hR
        · refine ⟨fun _ => ?_, fun hX => by first | (simp at hX; done) | (simp [hd] at hX; done)⟩
          refine wp_load_mid 41 _ rfl bb off (by simp [go_sem, hd]) _ _ (HRF.out wx hR) Tryd.underlying41 rfl (by kernel_rfl) ?_
          exact next_same _ rfl HVF.out.symm hR
        · refine ⟨fun _ => ?_, fun hX => by first | (simp at hX; done) | (simp [hd] at hX; done)⟩
          obtain ⟨hd0, hd1, -⟩ := hd
          exact wp_binop _ _ _ _ _ rfl hd0 hd1 (by rw [HVL.out, HVF.out]; first | kernel_rfl | rfl) (HNQ.out wx) (next_same _ rfl rfl hR)
        · refine ⟨fun _ => ?_, fun hX => by first | (simp at hX; done) | (simp [hd] at hX; done)⟩
          (try simp [hd]); go_simp; exact next_same _ rfl rfl hR
        · refine ⟨fun _ => ?_, fun hX => by first | (simp at hX; done) | (simp [hd] at hX; done)⟩
          (try simp [hd]); go_simp; exact next_same _ rfl rfl hR
        · refine ⟨fun hX => ?_, fun _ => rfl⟩
          exfalso; first | (simp [hd] at hX; done) | (simp [hd, undef] at hX; done)
        · refine ⟨fun hX => ?_, fun _ => rfl⟩
          exfalso; first | (simp [hd] at hX; done) | (simp [hd, undef] at hX; done)
        · refine ⟨fun hX => ?_, fun _ => rfl⟩
          exfalso; first | (simp [hd] at hX; done) | (simp [hd, undef] at hX; done)
        · refine ⟨fun hX => ?_, fun _ => rfl⟩
          exfalso; first | (simp [hd] at hX; done) | (simp [hd, undef] at hX; done)
        · refine ⟨fun _ => ?_, fun hX => by first | (simp at hX; done) | (simp [hd] at hX; done)⟩
          (try simp [hd]); go_simp; exact next_same _ rfl rfl hR
      intro x w7 hR hx
      simp [AllWords] at hx
      have h23 : x 23 = .bool true := by simp [hx]
      rw [h23]
      clear hx h23
      have HB7 := Lib.hid hR
      clear hR
      go_wp2_with fail
      exact HFAIL.out (by rw [HFULL.out]; rfl) _ HB7.out
    | true =>
      cases cs with
      | true =>
        refine wp_region_goesG data_follows (fun x => by simp [putsF, Act.put]; rfl) w.heap.size w
          [isV (.int .i64 (L : Nat)), isV (.bool false), isV (.bool false), isV (.string o), isV (.slice (some ⟨bb, off, none⟩) n c), isV (.bool true), isV (.bool false), isV (.bool false), isV (.bool false), isV (.slice (some ⟨bb, off, none⟩) n c), isV (.int .i64 (L : Nat)), isV (.pointer (some ⟨bb, off + L * 4, none⟩)), isV VL, isV (.slice (some ⟨bb, off, none⟩) n c), isV (.pointer (some ⟨bb, off, none⟩)), isV VF, isV (.bool false), isV (.bool false), isV (.bool false), isV (.slice (some ⟨bb, off, none⟩) n c), isV (.int .i64 (L : Nat)), isV (.slice (some ⟨bb, off + 4, none⟩) (L - 1) (c - 1)), isV (.bool true), isV (.bool true)]
          (by kernel_rfl) (by kernel_rfl) (by kernel_rfl) rfl ?_ (Below.refl _ _) ?_ ?_
        · repeat (first | exact trivial | refine ⟨isV_stays _, ?_⟩)
        · refine ⟨?_, ?_, ?_, ?_, ?_, ?_, ?_, ?_, ?_, ?_, ?_, ?_, ?_, ?_, ?_, ?_, ?_, ?_, ?_, ?_, ?_, ?_, ?_, ?_, trivial⟩
          all_goals
            intro x wx hR hd
            simp at hd
          · refine ⟨fun _ => ?_, fun hX => by first | (simp at hX; done) | (simp [hd] at hX; done)⟩
            (try simp [hd]); go_simp; exact next_same _ rfl rfl hR
          · refine ⟨fun _ => ?_, fun hX => by first | (simp at hX; done) | (simp [hd] at hX; done)⟩
            (try simp [hd]); go_simp; exact next_same _ rfl rfl hR
          · refine ⟨fun _ => ?_, fun hX => by first | (simp at hX; done) | (simp [hd] at hX; done)⟩
            (try simp [hd]); go_simp; exact next_same _ rfl rfl hR
          · refine ⟨fun _ => ?_, fun hX => by first | (simp at hX; done) | (simp [hd] at hX; done)⟩
            (try simp [hd]); go_simp; exact next_same _ rfl rfl hR
          · refine ⟨fun _ => ?_, fun hX => by first | (simp at hX; done) | (simp [hd] at hX; done)⟩
            (try simp [hd]); go_simp; exact next_same _ rfl rfl hR
          · refine ⟨fun _ => ?_, fun hX => by first | (simp at hX; done) | (simp [hd] at hX; done)⟩
            (try simp [hd])
            go_simp
            go_at_call 21
            refine (AD.out wx hR).mono ?_
            rintro r wy ⟨rfl, hb⟩
            exact next_call _ rfl rfl hR hR.size hb
          · refine ⟨fun _ => ?_, fun hX => by first | (simp at hX; done) | (simp [hd] at hX; done)⟩
            (try simp [hd]); go_simp; exact next_same _ rfl rfl hR
          · refine ⟨fun _ => ?_, fun hX => by first | (simp at hX; done) | (simp [hd] at hX; done)⟩
            (try simp [hd]); go_simp; exact next_same _ rfl rfl hR
          · refine ⟨fun _ => ?_, fun hX => by first | (simp at hX; done) | (simp [hd] at hX; done)⟩
            (try simp [hd]); go_simp; exact next_same _ rfl rfl hR
          · refine ⟨fun _ => ?_, fun hX => by first | (simp at hX; done) | (simp [hd] at hX; done)⟩
            (try simp [hd]); go_simp; exact next_same _ rfl rfl hR
          · refine ⟨fun _ => ?_, fun hX => by first | (simp at hX; done) | (simp [hd] at hX; done)⟩
            (try simp [hd]); go_simp; exact next_same _ rfl rfl hR
          · refine ⟨fun _ => ?_, fun hX => by first | (simp at hX; done) | (simp [hd] at hX; done)⟩
            (try simp [hd]); go_simp; exact next_same _ rfl rfl hR
          · refine ⟨fun _ => ?_, fun hX => by first | (simp at hX; done) | (simp [hd] at hX; done)⟩
            refine wp_load_mid 41 _ rfl bb (off + L * 4) (by simp [go_sem, hd]) _ _ (HRL.out wx hR) Tryd.underlying41 rfl (by kernel_rfl) ?_
            exact next_same _ rfl HVL.out.symm hR
          · refine ⟨fun _ => ?_, fun hX => by first | (simp at hX; done) | (simp [hd] at hX; done)⟩
            (try simp [hd]); go_simp; exact next_same _ rfl rfl hR
          · refine ⟨fun _ => ?_, fun hX => by first | (simp at hX; done) | (simp [hd] at hX; done)⟩
            (try simp [hd]); go_simp; exact next_same _ rfl rfl hR
          · refine ⟨fun _ => ?_, fun hX => by first | (simp at hX; done) | (simp [hd] at hX; done)⟩
            refine wp_load_mid 41 _ rfl bb off (by simp [go_sem, hd]) _ _ (HRF.out wx hR) Tryd.underlying41 rfl (by kernel_rfl) ?_
            exact next_same _ rfl HVF.out.symm hR
          · refine ⟨fun _ => ?_, fun hX => by first | (simp at hX; done) | (simp [hd] at hX; done)⟩
            obtain ⟨hd0, hd1, -⟩ := hd
            exact wp_binop _ _ _ _ _ rfl hd0 hd1 (by rw [HVL.out, HVF.out]; first | kernel_rfl | rfl) (HNQ.out wx) (next_same _ rfl rfl hR)
          · refine ⟨fun _ => ?_, fun hX => by first | (simp at hX; done) | (simp [hd] at hX; done)⟩
            (try simp [hd]); go_simp; exact next_same _ rfl rfl hR
          · refine ⟨fun _ => ?_, fun hX => by first | (simp at hX; done) | (simp [hd] at hX; done)⟩
            (try simp [hd]); go_simp; exact next_same _ rfl rfl hR
          · refine ⟨fun _ => ?_, fun hX => by first | (simp at hX; done) | (simp [hd] at hX; done)⟩
            (try simp [hd]); go_simp; exact next_same _ rfl rfl hR
          · refine ⟨fun _ => ?_, fun hX => by first | (simp at hX; done) | (simp [hd] at hX; done)⟩
            (try simp [hd]); go_simp; exact next_same _ rfl rfl hR
          · refine ⟨fun _ => ?_, fun hX => by first | (simp at hX; done) | (simp [hd] at hX; done)⟩
            (try simp [hd]); go_simp; exact next_same _ rfl rfl hR
          · refine ⟨fun _ => ?_, fun hX => by first | (simp at hX; done) | (simp [hd] at hX; done)⟩
            (try simp [hd])
            go_simp
            go_at_call 43
            refine (CT.out wx hR).mono ?_
            rintro r wy ⟨rfl, hb⟩
            exact next_call _ rfl rfl hR hR.size hb
          · refine ⟨fun _ => ?_, fun hX => by first | (simp at hX; done) | (simp [hd] at hX; done)⟩
            (try simp [hd]); go_simp; exact next_same _ rfl rfl hR
        intro x w7 hR hx
        simp [AllWords] at hx
        have h23 : x 23 = .bool true := by simp [hx]
        rw [h23]
        clear hx h23
        have HB7 := Lib.hid hR
        clear hR
        go_wp2_with fail
        exact HFAIL.out (by rw [HFULL.out]; rfl) _ HB7.out
      | false =>
        refine wp_region_goesG data_follows (fun x => by simp [putsF, Act.put]; rfl) w.heap.size w
          [isV (.int .i64 (L : Nat)), isV (.bool false), isV (.bool false), isV (.string o), isV (.slice (some ⟨bb, off, none⟩) n c), isV (.bool true), isV (.bool false), isV (.bool false), isV (.bool false), isV (.slice (some ⟨bb, off, none⟩) n c), isV (.int .i64 (L : Nat)), isV (.pointer (some ⟨bb, off + L * 4, none⟩)), isV VL, isV (.slice (some ⟨bb, off, none⟩) n c), isV (.pointer (some ⟨bb, off, none⟩)), isV VF, isV (.bool false), isV (.bool false), isV (.bool false), isV (.slice (some ⟨bb, off, none⟩) n c), isV (.int .i64 (L : Nat)), isV (.slice (some ⟨bb, off + 4, none⟩) (L - 1) (c - 1)), isV (.bool false), isV (.bool false)]
          (by kernel_rfl) (by kernel_rfl) (by kernel_rfl) rfl ?_ (Below.refl _ _) ?_ ?_
        · repeat (first | exact trivial | refine ⟨isV_stays _, ?_⟩)
        · refine ⟨?_, ?_, ?_, ?_, ?_, ?_, ?_, ?_, ?_, ?_, ?_, ?_, ?_, ?_, ?_, ?_, ?_, ?_, ?_, ?_, ?_, ?_, ?_, ?_, trivial⟩
          all_goals
            intro x wx hR hd
            simp at hd
          · refine ⟨fun _ => ?_, fun hX => by first | (simp at hX; done) | (simp [hd] at hX; done)⟩
            (try simp [hd]); go_simp; exact next_same _ rfl rfl hR
          · refine ⟨fun _ => ?_, fun hX => by first | (simp at hX; done) | (simp [hd] at hX; done)⟩
            (try simp [hd]); go_simp; exact next_same _ rfl rfl hR
          · refine ⟨fun _ => ?_, fun hX => by first | (simp at hX; done) | (simp [hd] at hX; done)⟩
            (try simp [hd]); go_simp; exact next_same _ rfl rfl hR
          · refine ⟨fun _ => ?_, fun hX => by first | (simp at hX; done) | (simp [hd] at hX; done)⟩
            (try simp [hd]); go_simp; exact next_same _ rfl rfl hR
          · refine ⟨fun _ => ?_, fun hX => by first | (simp at hX; done) | (simp [hd] at hX; done)⟩
            (try simp [hd]); go_simp; exact next_same _ rfl rfl hR
          · refine ⟨fun _ => ?_, fun hX => by first | (simp at hX; done) | (simp [hd] at hX; done)⟩
            (try simp [hd])
            go_simp
            go_at_call 21
            refine (AD.out wx hR).mono ?_
            rintro r wy ⟨rfl, hb⟩
            exact next_call _ rfl rfl hR hR.size hb
          · refine ⟨fun _ => ?_, fun hX => by first | (simp at hX; done) | (simp [hd] at hX; done)⟩
            (try simp [hd]); go_simp; exact next_same _ rfl rfl hR
          · refine ⟨fun _ => ?_, fun hX => by first | (simp at hX; done) | (simp [hd] at hX; done)⟩
            (try simp [hd]); go_simp; exact next_same _ rfl rfl hR
          · refine ⟨fun _ => ?_, fun hX => by first | (simp at hX; done) | (simp [hd] at hX; done)⟩
            (try simp [hd]); go_simp; exact next_same _ rfl rfl hR
          · refine ⟨fun _ => ?_, fun hX => by first | (simp at hX; done) | (simp [hd] at hX; done)⟩
            (try simp [hd]); go_simp; exact next_same _ rfl rfl hR
          · refine ⟨fun _ => ?_, fun hX => by first | (simp at hX; done) | (simp [hd] at hX; done)⟩
            (try simp [hd]); go_simp; exact next_same _ rfl rfl hR
          · refine ⟨fun _ => ?_, fun hX => by first | (simp at hX; done) | (simp [hd] at hX; done)⟩
            (try simp [hd]); go_simp; exact next_same _ rfl rfl hR
          · refine ⟨fun _ => ?_, fun hX => by first | (simp at hX; done) | (simp [hd] at hX; done)⟩
            refine wp_load_mid 41 _ rfl bb (off + L * 4) (by simp [go_sem, hd]) _ _ (HRL.out wx hR) Tryd.underlying41 rfl (by kernel_rfl) ?_
            exact next_same _ rfl HVL.out.symm hR
          · refine ⟨fun _ => ?_, fun hX => by first | (simp at hX; done) | (simp [hd] at hX; done)⟩
            (try simp [hd]); go_simp; exact next_same _ rfl rfl hR
          · refine ⟨fun _ => ?_, fun hX => by first | (simp at hX; done) | (simp [hd] at hX; done)⟩
            (try simp [hd]); go_simp; exact next_same _ rfl rfl hR
          · refine ⟨fun _ => ?_, fun hX => by first | (simp at hX; done) | (simp [hd] at hX; done)⟩
            refine wp_load_mid 41 _ rfl bb off (by simp [go_sem, hd]) _ _ (HRF.out wx hR) Tryd.underlying41 rfl (by kernel_rfl) ?_
            exact next_same _ rfl HVF.out.symm hR
          · refine ⟨fun _ => ?_, fun hX => by first | (simp at hX; done) | (simp [hd] at hX; done)⟩
            obtain ⟨hd0, hd1, -⟩ := hd
            exact wp_binop _ _ _ _ _ rfl hd0 hd1 (by rw [HVL.out, HVF.out]; first | kernel_rfl | rfl) (HNQ.out wx) (next_same _ rfl rfl hR)
          · refine ⟨fun _ => ?_, fun hX => by first | (simp at hX; done) | (simp [hd] at hX; done)⟩
            (try simp [hd]); go_simp; exact next_same _ rfl rfl hR
          · refine ⟨fun _ => ?_, fun hX => by first | (simp at hX; done) | (simp [hd] at hX; done)⟩
            (try simp [hd]); go_simp; exact next_same _ rfl rfl hR
          · refine ⟨fun _ => ?_, fun hX => by first | (simp at hX; done) | (simp [hd] at hX; done)⟩
            (try simp [hd]); go_simp; exact next_same _ rfl rfl hR
          · refine ⟨fun _ => ?_, fun hX => by first | (simp at hX; done) | (simp [hd] at hX; done)⟩
            (try simp [hd]); go_simp; exact next_same _ rfl rfl hR
          · refine ⟨fun _ => ?_, fun hX => by first | (simp at hX; done) | (simp [hd] at hX; done)⟩
            (try simp [hd]); go_simp; exact next_same _ rfl rfl hR
          · refine ⟨fun _ => ?_, fun hX => by first | (simp at hX; done) | (simp [hd] at hX; done)⟩
            (try simp [hd])
            go_simp
            go_at_call 43
            refine (CT.out wx hR).mono ?_
            rintro r wy ⟨rfl, hb⟩
            exact next_call _ rfl rfl hR hR.size hb
          · refine ⟨fun _ => ?_, fun hX => by first | (simp at hX; done) | (simp [hd] at hX; done)⟩
            (try simp [hd]); go_simp; exact next_same _ rfl rfl hR
        intro x w7 hR hx
        simp [AllWords] at hx
        have h23 : x 23 = .bool false := by simp [hx]
        rw [h23]
        clear hx h23
        have HB7 := Lib.hid hR
        clear hR
        go_wp2_with fail
        refine (CL.out w7 HB7.out).mono ?_
        rintro e w8 ⟨v, rfl, ho⟩
        have HO := Lib.hid (ho.out HB7.out.size HB7.out)
        clear ho
        go_wp2_with fail
        exact HGOOD.out (by rw [HFULL.out]; rfl) _ _ HO.out
end Go.Proofs.YtpbbnpglcadimaaDoor
namespace Go.Proofs.YtpbbnpglcadimaaDoor
open Go.RowKit
set_option linter.unusedVariables false
set_option linter.unusedSimpArgs false
set_option maxRecDepth 20000
attribute [local simp] putsF isV wordOf Deps Region.binds Region.wanted Act.put wantedX isB
set_option maxHeartbeats 1600000 in
theorem full_few (m : RecT → Bool) (o : ByteArray) (A : Option Addr) (n c : Nat) (rs : List RecT) (w : World) (hl : rs.length = n) (h2 : n < 2) :
    Calls Tryd.prog 23 #[.string o, .slice A n c] w (FullA m o rs w) := by
  obtain ⟨AR, hAR⟩ : ∃ R, R = FullA m o rs w := ⟨_, rfl⟩
  rw [← hAR]
  have hfull : fullR m o rs = false := by
    match rs, hl with
    | [], _ => rfl
    | [_], _ => rfl
    | a :: b :: t, hl => simp at hl; omega
  have HFAIL : Hid (∀ w', Below w.heap.size w w' → AR (.returned (.tuple #[.slice none 0 0, .iface 36 (.int .i64 4)])) w') := Lib.hid (fun w' hb => by rw [hAR]; exact .inl ⟨hfull, rfl, hb⟩)
  clear hAR hfull hl
  rcases (by omega : n = 0 ∨ n = 1) with rfl | rfl
  · go_enter Tryd.func23, Tryd.ntmps23
    go_upto_region 2 with fail
    refine wp_region_goesG data_follows (fun x => by simp [putsF, Act.put]; rfl) w.heap.size w
      [isV (.int .i64 (-1)), isV (.bool true), isV (.bool true), isV undef, isV undef, isV undef, isV undef, isV (.bool true), isV (.bool true), isV undef, isV undef, isV undef, isV undef, isV undef, isV undef, isV undef, isV undef, isV (.bool true), isV (.bool true), isV undef, isV undef, isV undef, isV undef, isV (.bool true)]
      (by kernel_rfl) (by kernel_rfl) (by kernel_rfl) rfl ?_ (Below.refl _ _) ?_ ?_
    · repeat (first | exact trivial | refine ⟨isV_stays _, ?_⟩)
    · refine ⟨?_, ?_, ?_, ?_, ?_, ?_, ?_, ?_, ?_, ?_, ?_, ?_, ?_, ?_, ?_, ?_, ?_, ?_, ?_, ?_, ?_, ?_, ?_, ?_, trivial⟩
      all_goals
        intro x wx hR hd
        simp at hd
      · refine ⟨fun _ => ?_, fun hX => by first | (simp at hX; done) | (simp [hd] at hX; done)⟩
        (try simp [hd]); go_simp; exact next_same _ rfl rfl hR
      · refine ⟨fun _ => ?_, fun hX => by first | (simp at hX; done) | (simp [hd] at hX; done)⟩
        (try simp [hd]); go_simp; exact next_same _ rfl rfl hR
      · refine ⟨fun _ => ?_, fun hX => by first | (simp at hX; done) | (simp [hd] at hX; done)⟩
        (try simp [hd]); go_simp; exact next_same _ rfl rfl hR
      · refine ⟨fun hX => ?_, fun _ => rfl⟩
        exfalso; first | (simp [hd] at hX; done) | (simp [hd, undef] at hX; done)
      · refine ⟨fun hX => ?_, fun _ => rfl⟩
        exfalso; first | (simp [hd] at hX; done) | (simp [hd, undef] at hX; done)
      · refine ⟨fun hX => ?_, fun _ => rfl⟩
        exfalso; first | (simp [hd] at hX; done) | (simp [hd, undef] at hX; done)
      · refine ⟨fun hX => ?_, fun _ => rfl⟩
        exfalso; first | (simp [hd] at hX; done) | (simp [hd, undef] at hX; done)
      · refine ⟨fun _ => ?_, fun hX => by first | (simp at hX; done) | (simp [hd] at hX; done)⟩
        (try simp [hd]); go_simp; exact next_same _ rfl rfl hR
      · refine ⟨fun _ => ?_, fun hX => by first | (simp at hX; done) | (simp [hd] at hX; done)⟩
        (try simp [hd]); go_simp; exact next_same _ rfl rfl hR
      · refine ⟨fun hX => ?_, fun _ => rfl⟩
        exfalso; first | (simp [hd] at hX; done) | (simp [hd, undef] at hX; done)
      · refine ⟨fun hX => ?_, fun _ => rfl⟩
        exfalso; first | (simp [hd] at hX; done) | (simp [hd, undef] at hX; done)
      · refine ⟨fun hX => ?_, fun _ => rfl⟩
        exfalso; first | (simp [hd] at hX; done) | (simp [hd, undef] at hX; done)
      · refine ⟨fun hX => ?_, fun _ => rfl⟩
        exfalso; first | (simp [hd] at hX; done) | (simp [hd, undef] at hX; done)
      · refine ⟨fun hX => ?_, fun _ => rfl⟩
        exfalso; first | (simp [hd] at hX; done) | (simp [hd, undef] at hX; done)
      · refine ⟨fun hX => ?_, fun _ => rfl⟩
        exfalso; first | (simp [hd] at hX; done) | (simp [hd, undef] at hX; done)
      · refine ⟨fun hX => ?_, fun _ => rfl⟩
        exfalso; first | (simp [hd] at hX; done) | (simp [hd, undef] at hX; done)
      · refine ⟨fun hX => ?_, fun _ => rfl⟩
        exfalso; first | (simp [hd] at hX; done) | (simp [hd, undef] at hX; done)
      · refine ⟨fun _ => ?_, fun hX => by first | (simp at hX; done) | (simp [hd] at hX; done)⟩
        (try simp [hd]); go_simp; exact next_same _ rfl rfl hR
      · refine ⟨fun _ => ?_, fun hX => by first | (simp at hX; done) | (simp [hd] at hX; done)⟩
        (try simp [hd]); go_simp; exact next_same _ rfl rfl hR
      · refine ⟨fun hX => ?_, fun _ => rfl⟩
        exfalso; first | (simp [hd] at hX; done) | (simp [hd, undef] at hX; done)
      · refine ⟨fun hX => ?_, fun _ => rfl⟩
        exfalso; first | (simp [hd] at hX; done) | (simp [hd, undef] at hX; done)
      · refine ⟨fun hX => ?_, fun _ => rfl⟩
        exfalso; first | (simp [hd] at hX; done) | (simp [hd, undef] at hX; done)
      · refine ⟨fun hX => ?_, fun _ => rfl⟩
        exfalso; first | (simp [hd] at hX; done) | (simp [hd, undef] at hX; done)
      · refine ⟨fun _ => ?_, fun hX => by first | (simp at hX; done) | (simp [hd] at hX; done)⟩
        (try simp [hd]); go_simp; exact next_same _ rfl rfl hR
    intro x w7 hR hx
    simp [AllWords] at hx
    have h23 : x 23 = .bool true := by simp [hx]
    rw [h23]
    clear hx h23
    have HB7 := Lib.hid hR
    clear hR
    go_wp2_with fail
    exact HFAIL.out _ HB7.out
  · go_enter Tryd.func23, Tryd.ntmps23
    go_upto_region 2 with fail
    refine wp_region_goesG data_follows (fun x => by simp [putsF, Act.put]; rfl) w.heap.size w
      [isV (.int .i64 (0)), isV (.bool true), isV (.bool true), isV undef, isV undef, isV undef, isV undef, isV (.bool true), isV (.bool true), isV undef, isV undef, isV undef, isV undef, isV undef, isV undef, isV undef, isV undef, isV (.bool true), isV (.bool true), isV undef, isV undef, isV undef, isV undef, isV (.bool true)]
      (by kernel_rfl) (by kernel_rfl) (by kernel_rfl) rfl ?_ (Below.refl _ _) ?_ ?_
    · repeat (first | exact trivial | refine ⟨isV_stays _, ?_⟩)
    · refine ⟨?_, ?_, ?_, ?_, ?_, ?_, ?_, ?_, ?_, ?_, ?_, ?_, ?_, ?_, ?_, ?_, ?_, ?_, ?_, ?_, ?_, ?_, ?_, ?_, trivial⟩
      all_goals
        intro x wx hR hd
        simp at hd
      · refine ⟨fun _ => ?_, fun hX => by first | (simp at hX; done) | (simp [hd] at hX; done)⟩
        (try simp [hd]); go_simp; exact next_same _ rfl rfl hR
      · refine ⟨fun _ => ?_, fun hX => by first | (simp at hX; done) | (simp [hd] at hX; done)⟩
        (try simp [hd]); go_simp; exact next_same _ rfl rfl hR
      · refine ⟨fun _ => ?_, fun hX => by first | (simp at hX; done) | (simp [hd] at hX; done)⟩
        (try simp [hd]); go_simp; exact next_same _ rfl rfl hR
      · refine ⟨fun hX => ?_, fun _ => rfl⟩
        exfalso; first | (simp [hd] at hX; done) | (simp [hd, undef] at hX; done)
      · refine ⟨fun hX => ?_, fun _ => rfl⟩
        exfalso; first | (simp [hd] at hX; done) | (simp [hd, undef] at hX; done)
      · refine ⟨fun hX => ?_, fun _ => rfl⟩
        exfalso; first | (simp [hd] at hX; done) | (simp [hd, undef] at hX; done)
      · refine ⟨fun hX => ?_, fun _ => rfl⟩
        exfalso; first | (simp [hd] at hX; done) | (simp [hd, undef] at hX; done)
      · refine ⟨fun _ => ?_, fun hX => by first | (simp at hX; done) | (simp [hd] at hX; done)⟩
        (try simp [hd]); go_simp; exact next_same _ rfl rfl hR
      · refine ⟨fun _ => ?_, fun hX => by first | (simp at hX; done) | (simp [hd] at hX; done)⟩
        (try simp [hd]); go_simp; exact next_same _ rfl rfl hR
      · refine ⟨fun hX => ?_, fun _ => rfl⟩
        exfalso; first | (simp [hd] at hX; done) | (simp [hd, undef] at hX; done)
      · refine ⟨fun hX => ?_, fun _ => rfl⟩
        exfalso; first | (simp [hd] at hX; done) | (simp [hd, undef] at hX; done)
      · refine ⟨fun hX => ?_, fun _ => rfl⟩
        exfalso; first | (simp [hd] at hX; done) | (simp [hd, undef] at hX; done)
      · refine ⟨fun hX => ?_, fun _ => rfl⟩
        exfalso; first | (simp [hd] at hX; done) | (simp [hd, undef] at hX; done)
      · refine ⟨fun hX => ?_, fun _ => rfl⟩
        exfalso; first | (simp [hd] at hX; done) | (simp [hd, undef] at hX; done)
      · refine ⟨fun hX => ?_, fun _ => rfl⟩
        exfalso; first | (simp [hd] at hX; done) | (simp [hd, undef] at hX; done)
      · refine ⟨fun hX => ?_, fun _ => rfl⟩
        exfalso; first | (simp [hd] at hX; done) | (simp [hd, undef] at hX; done)
      · refine ⟨fun hX => ?_, fun _ => rfl⟩
        exfalso; first | (simp [hd] at hX; done) | (simp [hd, undef] at hX; done)
      · refine ⟨fun _ => ?_, fun hX => by first | (simp at hX; done) | (simp [hd] at hX; done)⟩
        (try simp [hd]); go_simp; exact next_same _ rfl rfl hR
      · refine ⟨fun _ => ?_, fun hX => by first | (simp at hX; done) | (simp [hd] at hX; done)⟩
        (try simp [hd]); go_simp; exact next_same _ rfl rfl hR
      · refine ⟨fun hX => ?_, fun _ => rfl⟩
        exfalso; first | (simp [hd] at hX; done) | (simp [hd, undef] at hX; done)
      · refine ⟨fun hX => ?_, fun _ => rfl⟩
        exfalso; first | (simp [hd] at hX; done) | (simp [hd, undef] at hX; done)
      · refine ⟨fun hX => ?_, fun _ => rfl⟩
        exfalso; first | (simp [hd] at hX; done) | (simp [hd, undef] at hX; done)
      · refine ⟨fun hX => ?_, fun _ => rfl⟩
        exfalso; first | (simp [hd] at hX; done) | (simp [hd, undef] at hX; done)
      · refine ⟨fun _ => ?_, fun hX => by first | (simp at hX; done) | (simp [hd] at hX; done)⟩
        (try simp [hd]); go_simp; exact next_same _ rfl rfl hR
    intro x w7 hR hx
    simp [AllWords] at hx
    have h23 : x 23 = .bool true := by simp [hx]
    rw [h23]
    clear hx h23
    have HB7 := Lib.hid hR
    clear hR
    go_wp2_with fail
    exact HFAIL.out _ HB7.out
end Go.Proofs.YtpbbnpglcadimaaDoor
