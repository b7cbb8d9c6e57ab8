/- The law's own word on whether records are a zone. -/
import Derived.Test.YtoacmdjbmbdjdaaZonK
import Derived.Test.YtoacmdjbmbdjdaaRecD
namespace Go.Proofs.Ytoacmdjbmbdjdaa
open Go.RowKit
set_option linter.unusedVariables false
set_option linter.unusedSimpArgs false
set_option maxRecDepth 20000
attribute [local simp] putsF isV wordOf Deps Region.binds Region.wanted Act.put wantedX isB
set_option maxHeartbeats 12800000 in
theorem right8_any (m : RecT → Bool) (o : ByteArray) (A : Option Addr) (M c : Nat) (z : List RecT) (w : World) (h : Recs w A z) (hl : z.length = M) (hn : M ≤ 1000) (hs : sizeR z ≤ 1000000000000) (ho : o.size ≤ 100000) (hzs : ∀ r ∈ z, r.1.size ≤ 254)
    (hm : ∀ r ∈ z, ∀ w, Calls Try.prog 47 #[recV r] w fun e w' => e = .returned (.bool (m r)) ∧ Below w.heap.size w w') :
    Calls Try.prog 24 #[.slice A M c, .string o] w fun e w' => e = .returned (.bool (rightR m o z)) ∧ Below w.heap.size w w' := by
  obtain ⟨R, hRR⟩ : ∃ R, rightR m o z = R := ⟨_, rfl⟩
  rw [hRR]
  have HRR := Lib.hid hRR
  have HSB := Lib.hid hs
  have H := Lib.hid h
  have HL := Lib.hid hl
  have HM := Lib.hid hm
  have HZS := Lib.hid hzs
  clear hRR h hl hs hm hzs
  go_enter Try.func24, Try.ntmps24
  go_wp2_with fail
  go_loopw [5, 6, 11] (fun sv zv i wr => ∃ k s mz : Nat, k ≤ M ∧ i = .int .i64 k ∧ sv = .int .i64 s ∧ zv = .int .i64 mz ∧ s ≤ k ∧ Hid (scanR m o none 0 z = scanR m o (prevOf z k) s (z.drop k)) ∧ Hid (mz = sizeR (z.take k)) ∧ Hid (Below w.heap.size w wr)) (fun _ _ i _ => M - (intOf i).toNat)
  case atStart => exact ⟨0, 0, 0, Nat.zero_le _, rfl, rfl, rfl, Nat.le_refl _, Lib.hid (by simp [prevOf]), Lib.hid (by simp [sizeR]), Lib.hid (Below.refl _ _)⟩
  case round =>
    obtain ⟨k, s, mz, hk, rfl, rfl, rfl, hsk, HK, HMZ, HB⟩ := hrel
    by_cases hlt : k < M
    · obtain ⟨r, hq⟩ : ∃ q, z[k]? = some q := ⟨_, List.getElem?_eq_getElem (by rw [HL.out]; exact hlt)⟩
      have HN := Lib.hid (scan_next (m := m) (o := o) (s := s) hq)
      have hnx := sizeR_next hq
      have hle := sizeR_le z (k + 1)
      have hm' := HMZ.out
      have hs' := HSB.out
      obtain ⟨M2, hM2⟩ : ∃ M2 : Nat, M2 = mz + (10 + r.1.size + r.2.2.2.size) := ⟨_, rfl⟩
      have HM2 : Hid (M2 = sizeR (z.take (k + 1))) := Lib.hid (by rw [hnx, hM2, hm'])
      have hb1 : M2 ≤ 1000000000000 := by omega
      have hb2 : (r.1.size : Int) ≤ 1000000000000 := by omega
      have hb3 : (r.2.2.2.size : Int) ≤ 1000000000000 := by omega
      have hsum : (mz : Int) + (10 + (r.1.size : Int) + (r.2.2.2.size : Int)) = (M2 : Int) := by omega
      have hmi : (mz : Int) ≤ 1000000000000 := by omega
      clear hnx hle hm' hs' hM2
      have hmem := List.mem_of_getElem? hq
      have CM := Lib.hid (HM.out r hmem)
      have hrs := HZS.out r hmem
      have CB := Lib.hid (fun w => below_any r.1 o w (by unfold maxLen; omega) (by unfold maxLen; omega))
      obtain ⟨bb, off, rfl, hbb, y0, y1, y2, y3⟩ := (H.out.below HB.out) k _ hq
      obtain ⟨r0, r1, r2, r3⟩ := r
      simp only at y0 y1 y2 y3 hrs CB hb2 hb3 hsum
      unfold recV at CM
      simp only at CM
      obtain ⟨W5, hW5⟩ : ∃ W, W = wr.alloc (.cells #[.string r0, .int .u16 r1, .int .u32 r2, .string r3] 27) := ⟨_, rfl⟩
      have HW5 := Lib.hid hW5
      have HBX : Hid (Cs W5 wr.heap.size [.string r0, .int .u16 r1, .int .u32 r2, .string r3]) := Lib.hid (by rw [hW5]; exact Cs.new _ _ _ _)
      have HB5 : Hid (Below w.heap.size w W5) := Lib.hid (by rw [hW5]; exact HB.out.alloc HB.out.size _)
      have HR5 := Lib.hid (H.out.below HB5.out)
      clear hW5 hmem hrs
      rcases Nat.eq_zero_or_pos k with rfl | hkp
      · have hlt' : ((0 : Nat) : Int) < M := by omega
        simp only [Nat.zero_mul, Nat.add_zero] at y0 y1 y2 y3
        clear hq
        cases em : m (r0, r1, r2, r3) with
        | false =>
          rw [em] at CM
          go_upto_region 6 with fail
          rw [← HW5.out]
          refine wp_region_goesG data_follows (fun x => by simp [putsF, Act.put]; rfl) W5.heap.size W5
            [isV (.agg #[.string r0, .int .u16 r1, .int .u32 r2, .string r3]), isV (.bool false), isV (.bool true), isV (.bool true), isV undef, isV undef, isV undef, isV undef, isV undef, isV (.bool true), isV (.bool true), isV undef, isV undef, isV undef, isV undef, isV undef, isV undef, isV undef, isV undef, isV undef, isV undef, isV undef, isV undef, isV (.bool true), isV (.bool true), isV undef, isV undef, isV undef, isV undef, isV undef, isV undef, isV undef, isV undef, isV undef, isV (.bool true)]
            (by kernel_rfl) (by kernel_rfl) (by kernel_rfl) rfl ?_ (Below.refl _ _) ?_ ?_
          · repeat (first | exact trivial | refine ⟨isV_stays _, ?_⟩)
          · refine ⟨?_, ?_, ?_, ?_, ?_, ?_, ?_, ?_, ?_, ?_, ?_, ?_, ?_, ?_, ?_, ?_, ?_, ?_, ?_, ?_, ?_, ?_, ?_, ?_, ?_, ?_, ?_, ?_, ?_, ?_, ?_, ?_, ?_, ?_, ?_, trivial⟩
            all_goals
              intro x wx hR hd
              simp at hd
              first
              | (refine ⟨fun hX => ?_, fun _ => rfl⟩; simp [hd] at hX; done)
              | (refine ⟨fun hX => ?_, fun _ => rfl⟩; simp [hd, undef] at hX; done)
              | (refine ⟨fun _ => ?_, fun hX => ?_⟩; rotate_left; (focus simp [hd] at hX); have hc := HBX.out.below hR; have u0 := hc.get 0 _; have u1 := hc.get 1 _; have u2 := hc.get 2 _; have u3 := hc.get 3 _;  clear hc; (try simp [hd]); go_simp; exact next_same _ rfl rfl hR)
              | (refine ⟨fun _ => ?_, fun hX => ?_⟩; rotate_left; (focus simp [hd] at hX); (try simp [hd]); go_simp; go_at_call 47; refine (CM.out wx).mono ?_; rintro e w2 ⟨rfl, hb⟩; exact next_call _ rfl rfl hR hR.size hb)
              | (refine ⟨fun _ => ?_, fun hX => ?_⟩; rotate_left; (focus simp [hd] at hX); (try simp [hd]); go_simp; go_at_call 48; refine (CB.out wx).mono ?_; rintro e w2 ⟨rfl, hb⟩; exact next_call _ rfl rfl hR hR.size hb)
              | (refine ⟨fun _ => ?_, fun hX => ?_⟩; rotate_left; (focus simp [hd] at hX); (try simp [hd]); go_simp; go_at_call 14; refine (CC.out wx).mono ?_; rintro e w2 ⟨rfl, hb⟩; exact next_call _ rfl rfl hR hR.size hb)
          intro x wx hR hx
          simp [AllWords] at hx
          have hlast : x 34 = .bool true := by simp [hx]
          rw [hlast]
          clear hx hlast
          have hc := HBX.out.below hR
          have u0 := hc.get 0 _
          have u1 := hc.get 1 _
          have u2 := hc.get 2 _
          have u3 := hc.get 3 _
          have HBN := Lib.hid (below_trans HB5.out HB5.out.size hR)
          clear hc hR
          have hR0 : R = false := by
            rw [← HRR.out]; unfold rightR
            rw [HK.out, HN.out, if_pos (by simp [badR, prevOf, em])]
          go_wp2_with fail
          go_ret
          exact ⟨by first | rfl | rw [hR0], HBN.out⟩
        | true =>
          rw [em] at CM
          cases eb : (stripOf r0 o).isSome with
          | false =>
            rw [eb] at CB
            go_upto_region 6 with fail
            rw [← HW5.out]
            refine wp_region_goesG data_follows (fun x => by simp [putsF, Act.put]; rfl) W5.heap.size W5
              [isV (.agg #[.string r0, .int .u16 r1, .int .u32 r2, .string r3]), isV (.bool true), isV (.bool false), isV (.bool false), isV (.pointer (some ⟨wr.heap.size, 0, none⟩)), isV (.string r0), isV (.string o), isV (.bool false), isV (.bool true), isV (.bool true), isV (.bool true), isV undef, isV undef, isV undef, isV undef, isV undef, isV undef, isV undef, isV undef, isV undef, isV undef, isV undef, isV undef, isV (.bool true), isV (.bool true), isV undef, isV undef, isV undef, isV undef, isV undef, isV undef, isV undef, isV undef, isV undef, isV (.bool true)]
              (by kernel_rfl) (by kernel_rfl) (by kernel_rfl) rfl ?_ (Below.refl _ _) ?_ ?_
            · repeat (first | exact trivial | refine ⟨isV_stays _, ?_⟩)
            · refine ⟨?_, ?_, ?_, ?_, ?_, ?_, ?_, ?_, ?_, ?_, ?_, ?_, ?_, ?_, ?_, ?_, ?_, ?_, ?_, ?_, ?_, ?_, ?_, ?_, ?_, ?_, ?_, ?_, ?_, ?_, ?_, ?_, ?_, ?_, ?_, trivial⟩
              all_goals
                intro x wx hR hd
                simp at hd
                first
                | (refine ⟨fun hX => ?_, fun _ => rfl⟩; simp [hd] at hX; done)
                | (refine ⟨fun hX => ?_, fun _ => rfl⟩; simp [hd, undef] at hX; done)
                | (refine ⟨fun _ => ?_, fun hX => ?_⟩; rotate_left; (focus simp [hd] at hX); have hc := HBX.out.below hR; have u0 := hc.get 0 _; have u1 := hc.get 1 _; have u2 := hc.get 2 _; have u3 := hc.get 3 _;  clear hc; (try simp [hd]); go_simp; exact next_same _ rfl rfl hR)
                | (refine ⟨fun _ => ?_, fun hX => ?_⟩; rotate_left; (focus simp [hd] at hX); (try simp [hd]); go_simp; go_at_call 47; refine (CM.out wx).mono ?_; rintro e w2 ⟨rfl, hb⟩; exact next_call _ rfl rfl hR hR.size hb)
                | (refine ⟨fun _ => ?_, fun hX => ?_⟩; rotate_left; (focus simp [hd] at hX); (try simp [hd]); go_simp; go_at_call 48; refine (CB.out wx).mono ?_; rintro e w2 ⟨rfl, hb⟩; exact next_call _ rfl rfl hR hR.size hb)
                | (refine ⟨fun _ => ?_, fun hX => ?_⟩; rotate_left; (focus simp [hd] at hX); (try simp [hd]); go_simp; go_at_call 14; refine (CC.out wx).mono ?_; rintro e w2 ⟨rfl, hb⟩; exact next_call _ rfl rfl hR hR.size hb)
            intro x wx hR hx
            simp [AllWords] at hx
            have hlast : x 34 = .bool true := by simp [hx]
            rw [hlast]
            clear hx hlast
            have hc := HBX.out.below hR
            have u0 := hc.get 0 _
            have u1 := hc.get 1 _
            have u2 := hc.get 2 _
            have u3 := hc.get 3 _
            have HBN := Lib.hid (below_trans HB5.out HB5.out.size hR)
            clear hc hR
            have hR0 : R = false := by
              rw [← HRR.out]; unfold rightR
              rw [HK.out, HN.out, if_pos (by simp [badR, prevOf, em, eb])]
            go_wp2_with fail
            go_ret
            exact ⟨by first | rfl | rw [hR0], HBN.out⟩
          | true =>
            rw [eb] at CB
            cases e6 : (r1 == 6) with
            | false =>
              go_upto_region 6 with fail
              rw [← HW5.out]
              refine wp_region_goesG data_follows (fun x => by simp [putsF, Act.put]; rfl) W5.heap.size W5
                [isV (.agg #[.string r0, .int .u16 r1, .int .u32 r2, .string r3]), isV (.bool true), isV (.bool false), isV (.bool false), isV (.pointer (some ⟨wr.heap.size, 0, none⟩)), isV (.string r0), isV (.string o), isV (.bool true), isV (.bool false), isV (.bool false), isV (.bool false), isV (.int .i64 (0 : Nat)), isV (.bool false), isV (.bool false), isV undef, isV undef, isV undef, isV undef, isV undef, isV undef, isV undef, isV undef, isV (.bool false), isV (.bool false), isV (.bool false), isV (.pointer (some ⟨wr.heap.size, 1, none⟩)), isV (.int .u16 r1), isV (.bool false), isV (.bool false), isV undef, isV undef, isV undef, isV undef, isV (.bool false), isV (.bool false)]
                (by kernel_rfl) (by kernel_rfl) (by kernel_rfl) rfl ?_ (Below.refl _ _) ?_ ?_
              · repeat (first | exact trivial | refine ⟨isV_stays _, ?_⟩)
              · refine ⟨?_, ?_, ?_, ?_, ?_, ?_, ?_, ?_, ?_, ?_, ?_, ?_, ?_, ?_, ?_, ?_, ?_, ?_, ?_, ?_, ?_, ?_, ?_, ?_, ?_, ?_, ?_, ?_, ?_, ?_, ?_, ?_, ?_, ?_, ?_, trivial⟩
                all_goals
                  intro x wx hR hd
                  simp at hd
                  first
                  | (refine ⟨fun hX => ?_, fun _ => rfl⟩; simp [hd] at hX; done)
                  | (refine ⟨fun hX => ?_, fun _ => rfl⟩; simp [hd, undef] at hX; done)
                  | (refine ⟨fun _ => ?_, fun hX => ?_⟩; rotate_left; (focus simp [hd] at hX); have hc := HBX.out.below hR; have u0 := hc.get 0 _; have u1 := hc.get 1 _; have u2 := hc.get 2 _; have u3 := hc.get 3 _;  clear hc; (try simp [hd]); go_simp; exact next_same _ rfl rfl hR)
                  | (refine ⟨fun _ => ?_, fun hX => ?_⟩; rotate_left; (focus simp [hd] at hX); (try simp [hd]); go_simp; go_at_call 47; refine (CM.out wx).mono ?_; rintro e w2 ⟨rfl, hb⟩; exact next_call _ rfl rfl hR hR.size hb)
                  | (refine ⟨fun _ => ?_, fun hX => ?_⟩; rotate_left; (focus simp [hd] at hX); (try simp [hd]); go_simp; go_at_call 48; refine (CB.out wx).mono ?_; rintro e w2 ⟨rfl, hb⟩; exact next_call _ rfl rfl hR hR.size hb)
                  | (refine ⟨fun _ => ?_, fun hX => ?_⟩; rotate_left; (focus simp [hd] at hX); (try simp [hd]); go_simp; go_at_call 14; refine (CC.out wx).mono ?_; rintro e w2 ⟨rfl, hb⟩; exact next_call _ rfl rfl hR hR.size hb)
              intro x wx hR hx
              simp [AllWords] at hx
              have hlast : x 34 = .bool false := by simp [hx]
              rw [hlast]
              clear hx hlast
              have hc := HBX.out.below hR
              have u0 := hc.get 0 _
              have u1 := hc.get 1 _
              have u2 := hc.get 2 _
              have u3 := hc.get 3 _
              have HBN := Lib.hid (below_trans HB5.out HB5.out.size hR)
              clear hc hR
              have HGB : Hid (badR m o (prevOf z 0) (r0, r1, r2, r3) = false) := Lib.hid (by simp [badR, prevOf, em, eb, e6])
              rw [HGB.out] at HN
              have HN2 : Hid (scanR m o (prevOf z 0) s (z.drop 0) = scanR m o (prevOf z (0 + 1)) s (z.drop (0 + 1))) := Lib.hid (by rw [HN.out]; simp [e6])
              have hw1 : IntKind.i64.wrap ((s : Int) + 1) = ((s + 1 : Nat) : Int) := by rw [IntKind.wrap_i64]; omega
              go_wp2_with fail
              go_round
              case rel => exact ⟨0 + 1, s, M2, by omega, by first | rfl | go_num, by first | rfl | go_num, by first | rfl | rw [hsum], by omega, Lib.hid (HK.out.trans HN2.out), HM2, HBN⟩
              case measure => simp [intOf]; omega
            | true =>
              cases eo : (r0.toList == o.toList) with
              | true =>
                go_upto_region 6 with fail
                rw [← HW5.out]
                refine wp_region_goesG data_follows (fun x => by simp [putsF, Act.put]; rfl) W5.heap.size W5
                  [isV (.agg #[.string r0, .int .u16 r1, .int .u32 r2, .string r3]), isV (.bool true), isV (.bool false), isV (.bool false), isV (.pointer (some ⟨wr.heap.size, 0, none⟩)), isV (.string r0), isV (.string o), isV (.bool true), isV (.bool false), isV (.bool false), isV (.bool false), isV (.int .i64 (0 : Nat)), isV (.bool false), isV (.bool false), isV undef, isV undef, isV undef, isV undef, isV undef, isV undef, isV undef, isV undef, isV (.bool false), isV (.bool false), isV (.bool false), isV (.pointer (some ⟨wr.heap.size, 1, none⟩)), isV (.int .u16 r1), isV (.bool true), isV (.bool true), isV (.pointer (some ⟨wr.heap.size, 0, none⟩)), isV (.string r0), isV (.string o), isV (.bool false), isV (.bool false), isV (.bool false)]
                  (by kernel_rfl) (by kernel_rfl) (by kernel_rfl) rfl ?_ (Below.refl _ _) ?_ ?_
                · repeat (first | exact trivial | refine ⟨isV_stays _, ?_⟩)
                · refine ⟨?_, ?_, ?_, ?_, ?_, ?_, ?_, ?_, ?_, ?_, ?_, ?_, ?_, ?_, ?_, ?_, ?_, ?_, ?_, ?_, ?_, ?_, ?_, ?_, ?_, ?_, ?_, ?_, ?_, ?_, ?_, ?_, ?_, ?_, ?_, trivial⟩
                  all_goals
                    intro x wx hR hd
                    simp at hd
                    first
                    | (refine ⟨fun hX => ?_, fun _ => rfl⟩; simp [hd] at hX; done)
                    | (refine ⟨fun hX => ?_, fun _ => rfl⟩; simp [hd, undef] at hX; done)
                    | (refine ⟨fun _ => ?_, fun hX => ?_⟩; rotate_left; (focus simp [hd] at hX); have hc := HBX.out.below hR; have u0 := hc.get 0 _; have u1 := hc.get 1 _; have u2 := hc.get 2 _; have u3 := hc.get 3 _;  clear hc; (try simp [hd]); go_simp; exact next_same _ rfl rfl hR)
                    | (refine ⟨fun _ => ?_, fun hX => ?_⟩; rotate_left; (focus simp [hd] at hX); (try simp [hd]); go_simp; go_at_call 47; refine (CM.out wx).mono ?_; rintro e w2 ⟨rfl, hb⟩; exact next_call _ rfl rfl hR hR.size hb)
                    | (refine ⟨fun _ => ?_, fun hX => ?_⟩; rotate_left; (focus simp [hd] at hX); (try simp [hd]); go_simp; go_at_call 48; refine (CB.out wx).mono ?_; rintro e w2 ⟨rfl, hb⟩; exact next_call _ rfl rfl hR hR.size hb)
                    | (refine ⟨fun _ => ?_, fun hX => ?_⟩; rotate_left; (focus simp [hd] at hX); (try simp [hd]); go_simp; go_at_call 14; refine (CC.out wx).mono ?_; rintro e w2 ⟨rfl, hb⟩; exact next_call _ rfl rfl hR hR.size hb)
                intro x wx hR hx
                simp [AllWords] at hx
                have hlast : x 34 = .bool false := by simp [hx]
                rw [hlast]
                clear hx hlast
                have hc := HBX.out.below hR
                have u0 := hc.get 0 _
                have u1 := hc.get 1 _
                have u2 := hc.get 2 _
                have u3 := hc.get 3 _
                have HBN := Lib.hid (below_trans HB5.out HB5.out.size hR)
                clear hc hR
                have HGB : Hid (badR m o (prevOf z 0) (r0, r1, r2, r3) = false) := Lib.hid (by simp [badR, prevOf, em, eb, e6, eo])
                rw [HGB.out] at HN
                have HN2 : Hid (scanR m o (prevOf z 0) s (z.drop 0) = scanR m o (prevOf z (0 + 1)) (s + 1) (z.drop (0 + 1))) := Lib.hid (by rw [HN.out]; simp [e6])
                have hw1 : IntKind.i64.wrap ((s : Int) + 1) = ((s + 1 : Nat) : Int) := by rw [IntKind.wrap_i64]; omega
                go_wp2_with fail
                go_round
                case rel => exact ⟨0 + 1, s + 1, M2, by omega, by first | rfl | go_num, by first | rfl | go_num, by first | rfl | rw [hsum], by omega, Lib.hid (HK.out.trans HN2.out), HM2, HBN⟩
                case measure => simp [intOf]; omega
              | false =>
                go_upto_region 6 with fail
                rw [← HW5.out]
                refine wp_region_goesG data_follows (fun x => by simp [putsF, Act.put]; rfl) W5.heap.size W5
                  [isV (.agg #[.string r0, .int .u16 r1, .int .u32 r2, .string r3]), isV (.bool true), isV (.bool false), isV (.bool false), isV (.pointer (some ⟨wr.heap.size, 0, none⟩)), isV (.string r0), isV (.string o), isV (.bool true), isV (.bool false), isV (.bool false), isV (.bool false), isV (.int .i64 (0 : Nat)), isV (.bool false), isV (.bool false), isV undef, isV undef, isV undef, isV undef, isV undef, isV undef, isV undef, isV undef, isV (.bool false), isV (.bool false), isV (.bool false), isV (.pointer (some ⟨wr.heap.size, 1, none⟩)), isV (.int .u16 r1), isV (.bool true), isV (.bool true), isV (.pointer (some ⟨wr.heap.size, 0, none⟩)), isV (.string r0), isV (.string o), isV (.bool true), isV (.bool true), isV (.bool true)]
                  (by kernel_rfl) (by kernel_rfl) (by kernel_rfl) rfl ?_ (Below.refl _ _) ?_ ?_
                · repeat (first | exact trivial | refine ⟨isV_stays _, ?_⟩)
                · refine ⟨?_, ?_, ?_, ?_, ?_, ?_, ?_, ?_, ?_, ?_, ?_, ?_, ?_, ?_, ?_, ?_, ?_, ?_, ?_, ?_, ?_, ?_, ?_, ?_, ?_, ?_, ?_, ?_, ?_, ?_, ?_, ?_, ?_, ?_, ?_, trivial⟩
                  all_goals
                    intro x wx hR hd
                    simp at hd
                    first
                    | (refine ⟨fun hX => ?_, fun _ => rfl⟩; simp [hd] at hX; done)
                    | (refine ⟨fun hX => ?_, fun _ => rfl⟩; simp [hd, undef] at hX; done)
                    | (refine ⟨fun _ => ?_, fun hX => ?_⟩; rotate_left; (focus simp [hd] at hX); have hc := HBX.out.below hR; have u0 := hc.get 0 _; have u1 := hc.get 1 _; have u2 := hc.get 2 _; have u3 := hc.get 3 _;  clear hc; (try simp [hd]); go_simp; exact next_same _ rfl rfl hR)
                    | (refine ⟨fun _ => ?_, fun hX => ?_⟩; rotate_left; (focus simp [hd] at hX); (try simp [hd]); go_simp; go_at_call 47; refine (CM.out wx).mono ?_; rintro e w2 ⟨rfl, hb⟩; exact next_call _ rfl rfl hR hR.size hb)
                    | (refine ⟨fun _ => ?_, fun hX => ?_⟩; rotate_left; (focus simp [hd] at hX); (try simp [hd]); go_simp; go_at_call 48; refine (CB.out wx).mono ?_; rintro e w2 ⟨rfl, hb⟩; exact next_call _ rfl rfl hR hR.size hb)
                    | (refine ⟨fun _ => ?_, fun hX => ?_⟩; rotate_left; (focus simp [hd] at hX); (try simp [hd]); go_simp; go_at_call 14; refine (CC.out wx).mono ?_; rintro e w2 ⟨rfl, hb⟩; exact next_call _ rfl rfl hR hR.size hb)
                intro x wx hR hx
                simp [AllWords] at hx
                have hlast : x 34 = .bool true := by simp [hx]
                rw [hlast]
                clear hx hlast
                have hc := HBX.out.below hR
                have u0 := hc.get 0 _
                have u1 := hc.get 1 _
                have u2 := hc.get 2 _
                have u3 := hc.get 3 _
                have HBN := Lib.hid (below_trans HB5.out HB5.out.size hR)
                clear hc hR
                have hR0 : R = false := by
                  rw [← HRR.out]; unfold rightR
                  rw [HK.out, HN.out, if_pos (by simp [badR, prevOf, em, eb, e6, eo])]
                go_wp2_with fail
                go_ret
                exact ⟨by first | rfl | rw [hR0], HBN.out⟩
      · obtain ⟨j, rfl⟩ : ∃ j, k = j + 1 := ⟨k - 1, by omega⟩
        have hlt' : ((j + 1 : Nat) : Int) < M := by omega
        have hlt2 : (j : Int) + 1 < M := by omega
        have hlt3 : (j : Int) < M := by omega
        have hj0 : ¬ (j : Int) < 0 := by omega
        have hjp : (0 : Int) < (j : Int) + 1 := by omega
        obtain ⟨p, hp⟩ : ∃ q, z[j]? = some q := ⟨_, List.getElem?_eq_getElem (by rw [HL.out]; omega)⟩
        have PV : Hid (∀ wx, Below W5.heap.size W5 wx → wx.cell? ⟨bb, off + j * 4, none⟩ = some (.string p.1) ∧ wx.cell? ⟨bb, off + j * 4 + 1, none⟩ = some (.int .u16 p.2.1) ∧ wx.cell? ⟨bb, off + j * 4 + 2, none⟩ = some (.int .u32 p.2.2.1) ∧ wx.cell? ⟨bb, off + j * 4 + 3, none⟩ = some (.string p.2.2.2)) := Lib.hid (fun wx hb => by
          obtain ⟨b2, off2, he, _, q0, q1, q2, q3⟩ := (HR5.out.below hb) j _ hp
          injection he with he; injection he with he1 he2 he3
          subst he1 he2
          exact ⟨q0, q1, q2, q3⟩)
        have hpv : prevOf z (j + 1) = some p := by unfold prevOf; simp [hp]
        obtain ⟨p0, p1, p2, p3⟩ := p
        simp only at PV
        obtain ⟨x, hx⟩ : ∃ x, cmpR (p0, p1, p2, p3) (r0, r1, r2, r3) = x := ⟨_, rfl⟩
        have hrg : x = -1 ∨ x = 0 ∨ x = 1 := by rw [← hx]; exact cmpR_is.range _ _
        have CC := Lib.hid (fun w => compare8_any (p0, p1, p2, p3) (r0, r1, r2, r3) w)
        rw [hx] at CC
        unfold recV at CC
        simp only at CC
        have hwj : IntKind.i64.wrap (((j + 1 : Nat) : Int) - 1) = (j : Int) := by rw [IntKind.wrap_i64]; omega
        have hwj2 : IntKind.i64.wrap (((j : Int) + 1) - 1) = (j : Int) := by rw [IntKind.wrap_i64]; omega
        have hwj3 : IntKind.i64.wrap (j : Int) = (j : Int) := by rw [IntKind.wrap_i64]; omega
        clear hp hq hkp
        cases em : m (r0, r1, r2, r3) with
        | false =>
          rw [em] at CM
          go_upto_region 6 with fail
          rw [← HW5.out]
          refine wp_region_goesG data_follows (fun x => by simp [putsF, Act.put]; rfl) W5.heap.size W5
            [isV (.agg #[.string r0, .int .u16 r1, .int .u32 r2, .string r3]), isV (.bool false), isV (.bool true), isV (.bool true), isV undef, isV undef, isV undef, isV undef, isV undef, isV (.bool true), isV (.bool true), isV undef, isV undef, isV undef, isV undef, isV undef, isV undef, isV undef, isV undef, isV undef, isV undef, isV undef, isV undef, isV (.bool true), isV (.bool true), isV undef, isV undef, isV undef, isV undef, isV undef, isV undef, isV undef, isV undef, isV undef, isV (.bool true)]
            (by kernel_rfl) (by kernel_rfl) (by kernel_rfl) rfl ?_ (Below.refl _ _) ?_ ?_
          · repeat (first | exact trivial | refine ⟨isV_stays _, ?_⟩)
          · refine ⟨?_, ?_, ?_, ?_, ?_, ?_, ?_, ?_, ?_, ?_, ?_, ?_, ?_, ?_, ?_, ?_, ?_, ?_, ?_, ?_, ?_, ?_, ?_, ?_, ?_, ?_, ?_, ?_, ?_, ?_, ?_, ?_, ?_, ?_, ?_, trivial⟩
            all_goals
              intro x wx hR hd
              simp at hd
              first
              | (refine ⟨fun hX => ?_, fun _ => rfl⟩; simp [hd] at hX; done)
              | (refine ⟨fun hX => ?_, fun _ => rfl⟩; simp [hd, undef] at hX; done)
              | (refine ⟨fun _ => ?_, fun hX => ?_⟩; rotate_left; (focus simp [hd] at hX); have hc := HBX.out.below hR; have u0 := hc.get 0 _; have u1 := hc.get 1 _; have u2 := hc.get 2 _; have u3 := hc.get 3 _; obtain ⟨v0, v1, v2, v3⟩ := PV.out wx hR; clear hc; (try simp [hd]); go_simp; exact next_same _ rfl rfl hR)
              | (refine ⟨fun _ => ?_, fun hX => ?_⟩; rotate_left; (focus simp [hd] at hX); (try simp [hd]); go_simp; go_at_call 47; refine (CM.out wx).mono ?_; rintro e w2 ⟨rfl, hb⟩; exact next_call _ rfl rfl hR hR.size hb)
              | (refine ⟨fun _ => ?_, fun hX => ?_⟩; rotate_left; (focus simp [hd] at hX); (try simp [hd]); go_simp; go_at_call 48; refine (CB.out wx).mono ?_; rintro e w2 ⟨rfl, hb⟩; exact next_call _ rfl rfl hR hR.size hb)
              | (refine ⟨fun _ => ?_, fun hX => ?_⟩; rotate_left; (focus simp [hd] at hX); (try simp [hd]); go_simp; go_at_call 14; refine (CC.out wx).mono ?_; rintro e w2 ⟨rfl, hb⟩; exact next_call _ rfl rfl hR hR.size hb)
          intro x wx hR hx
          simp [AllWords] at hx
          have hlast : x 34 = .bool true := by simp [hx]
          rw [hlast]
          clear hx hlast
          have hc := HBX.out.below hR
          have u0 := hc.get 0 _
          have u1 := hc.get 1 _
          have u2 := hc.get 2 _
          have u3 := hc.get 3 _
          have HBN := Lib.hid (below_trans HB5.out HB5.out.size hR)
          clear hc hR
          have hR0 : R = false := by
            rw [← HRR.out]; unfold rightR
            rw [HK.out, HN.out, if_pos (by simp [badR, hpv, hx, em])]
          go_wp2_with fail
          go_ret
          exact ⟨by first | rfl | rw [hR0], HBN.out⟩
        | true =>
          rw [em] at CM
          cases eb : (stripOf r0 o).isSome with
          | false =>
            rw [eb] at CB
            go_upto_region 6 with fail
            rw [← HW5.out]
            refine wp_region_goesG data_follows (fun x => by simp [putsF, Act.put]; rfl) W5.heap.size W5
              [isV (.agg #[.string r0, .int .u16 r1, .int .u32 r2, .string r3]), isV (.bool true), isV (.bool false), isV (.bool false), isV (.pointer (some ⟨wr.heap.size, 0, none⟩)), isV (.string r0), isV (.string o), isV (.bool false), isV (.bool true), isV (.bool true), isV (.bool true), isV undef, isV undef, isV undef, isV undef, isV undef, isV undef, isV undef, isV undef, isV undef, isV undef, isV undef, isV undef, isV (.bool true), isV (.bool true), isV undef, isV undef, isV undef, isV undef, isV undef, isV undef, isV undef, isV undef, isV undef, isV (.bool true)]
              (by kernel_rfl) (by kernel_rfl) (by kernel_rfl) rfl ?_ (Below.refl _ _) ?_ ?_
            · repeat (first | exact trivial | refine ⟨isV_stays _, ?_⟩)
            · refine ⟨?_, ?_, ?_, ?_, ?_, ?_, ?_, ?_, ?_, ?_, ?_, ?_, ?_, ?_, ?_, ?_, ?_, ?_, ?_, ?_, ?_, ?_, ?_, ?_, ?_, ?_, ?_, ?_, ?_, ?_, ?_, ?_, ?_, ?_, ?_, trivial⟩
              all_goals
                intro x wx hR hd
                simp at hd
                first
                | (refine ⟨fun hX => ?_, fun _ => rfl⟩; simp [hd] at hX; done)
                | (refine ⟨fun hX => ?_, fun _ => rfl⟩; simp [hd, undef] at hX; done)
                | (refine ⟨fun _ => ?_, fun hX => ?_⟩; rotate_left; (focus simp [hd] at hX); have hc := HBX.out.below hR; have u0 := hc.get 0 _; have u1 := hc.get 1 _; have u2 := hc.get 2 _; have u3 := hc.get 3 _; obtain ⟨v0, v1, v2, v3⟩ := PV.out wx hR; clear hc; (try simp [hd]); go_simp; exact next_same _ rfl rfl hR)
                | (refine ⟨fun _ => ?_, fun hX => ?_⟩; rotate_left; (focus simp [hd] at hX); (try simp [hd]); go_simp; go_at_call 47; refine (CM.out wx).mono ?_; rintro e w2 ⟨rfl, hb⟩; exact next_call _ rfl rfl hR hR.size hb)
                | (refine ⟨fun _ => ?_, fun hX => ?_⟩; rotate_left; (focus simp [hd] at hX); (try simp [hd]); go_simp; go_at_call 48; refine (CB.out wx).mono ?_; rintro e w2 ⟨rfl, hb⟩; exact next_call _ rfl rfl hR hR.size hb)
                | (refine ⟨fun _ => ?_, fun hX => ?_⟩; rotate_left; (focus simp [hd] at hX); (try simp [hd]); go_simp; go_at_call 14; refine (CC.out wx).mono ?_; rintro e w2 ⟨rfl, hb⟩; exact next_call _ rfl rfl hR hR.size hb)
            intro x wx hR hx
            simp [AllWords] at hx
            have hlast : x 34 = .bool true := by simp [hx]
            rw [hlast]
            clear hx hlast
            have hc := HBX.out.below hR
            have u0 := hc.get 0 _
            have u1 := hc.get 1 _
            have u2 := hc.get 2 _
            have u3 := hc.get 3 _
            have HBN := Lib.hid (below_trans HB5.out HB5.out.size hR)
            clear hc hR
            have hR0 : R = false := by
              rw [← HRR.out]; unfold rightR
              rw [HK.out, HN.out, if_pos (by simp [badR, hpv, hx, em, eb])]
            go_wp2_with fail
            go_ret
            exact ⟨by first | rfl | rw [hR0], HBN.out⟩
          | true =>
            rw [eb] at CB
            rcases hrg with rfl | rfl | rfl
            · cases e6 : (r1 == 6) with
              | false =>
                go_upto_region 6 with fail
                rw [← HW5.out]
                refine wp_region_goesG data_follows (fun x => by simp [putsF, Act.put]; rfl) W5.heap.size W5
                  [isV (.agg #[.string r0, .int .u16 r1, .int .u32 r2, .string r3]), isV (.bool true), isV (.bool false), isV (.bool false), isV (.pointer (some ⟨wr.heap.size, 0, none⟩)), isV (.string r0), isV (.string o), isV (.bool true), isV (.bool false), isV (.bool false), isV (.bool false), isV (.int .i64 ((j + 1 : Nat) : Int)), isV (.bool true), isV (.bool true), isV (.slice (some ⟨bb, off, none⟩) M c), isV (.int .i64 ((j + 1 : Nat) : Int)), isV (.int .i64 (j : Nat)), isV (.pointer (some ⟨bb, off + j * 4, none⟩)), isV (.agg #[.string p0, .int .u16 p1, .int .u32 p2, .string p3]), isV (.agg #[.string r0, .int .u16 r1, .int .u32 r2, .string r3]), isV (.int .i64 (-1)), isV (.bool false), isV (.bool false), isV (.bool false), isV (.bool false), isV (.pointer (some ⟨wr.heap.size, 1, none⟩)), isV (.int .u16 r1), isV (.bool false), isV (.bool false), isV undef, isV undef, isV undef, isV undef, isV (.bool false), isV (.bool false)]
                  (by kernel_rfl) (by kernel_rfl) (by kernel_rfl) rfl ?_ (Below.refl _ _) ?_ ?_
                · repeat (first | exact trivial | refine ⟨isV_stays _, ?_⟩)
                · refine ⟨?_, ?_, ?_, ?_, ?_, ?_, ?_, ?_, ?_, ?_, ?_, ?_, ?_, ?_, ?_, ?_, ?_, ?_, ?_, ?_, ?_, ?_, ?_, ?_, ?_, ?_, ?_, ?_, ?_, ?_, ?_, ?_, ?_, ?_, ?_, trivial⟩
                  all_goals
                    intro x wx hR hd
                    simp at hd
                    first
                    | (refine ⟨fun hX => ?_, fun _ => rfl⟩; simp [hd] at hX; done)
                    | (refine ⟨fun hX => ?_, fun _ => rfl⟩; simp [hd, undef] at hX; done)
                    | (refine ⟨fun _ => ?_, fun hX => ?_⟩; rotate_left; (focus simp [hd] at hX); have hc := HBX.out.below hR; have u0 := hc.get 0 _; have u1 := hc.get 1 _; have u2 := hc.get 2 _; have u3 := hc.get 3 _; obtain ⟨v0, v1, v2, v3⟩ := PV.out wx hR; clear hc; (try simp [hd]); go_simp; exact next_same _ rfl rfl hR)
                    | (refine ⟨fun _ => ?_, fun hX => ?_⟩; rotate_left; (focus simp [hd] at hX); (try simp [hd]); go_simp; go_at_call 47; refine (CM.out wx).mono ?_; rintro e w2 ⟨rfl, hb⟩; exact next_call _ rfl rfl hR hR.size hb)
                    | (refine ⟨fun _ => ?_, fun hX => ?_⟩; rotate_left; (focus simp [hd] at hX); (try simp [hd]); go_simp; go_at_call 48; refine (CB.out wx).mono ?_; rintro e w2 ⟨rfl, hb⟩; exact next_call _ rfl rfl hR hR.size hb)
                    | (refine ⟨fun _ => ?_, fun hX => ?_⟩; rotate_left; (focus simp [hd] at hX); (try simp [hd]); go_simp; go_at_call 14; refine (CC.out wx).mono ?_; rintro e w2 ⟨rfl, hb⟩; exact next_call _ rfl rfl hR hR.size hb)
                intro x wx hR hx
                simp [AllWords] at hx
                have hlast : x 34 = .bool false := by simp [hx]
                rw [hlast]
                clear hx hlast
                have hc := HBX.out.below hR
                have u0 := hc.get 0 _
                have u1 := hc.get 1 _
                have u2 := hc.get 2 _
                have u3 := hc.get 3 _
                have HBN := Lib.hid (below_trans HB5.out HB5.out.size hR)
                clear hc hR
                have HGB : Hid (badR m o (prevOf z (j + 1)) (r0, r1, r2, r3) = false) := Lib.hid (by simp [badR, hpv, hx, em, eb, e6])
                rw [HGB.out] at HN
                have HN2 : Hid (scanR m o (prevOf z (j + 1)) s (z.drop (j + 1)) = scanR m o (prevOf z ((j + 1) + 1)) s (z.drop ((j + 1) + 1))) := Lib.hid (by rw [HN.out]; simp [e6])
                have hw1 : IntKind.i64.wrap ((s : Int) + 1) = ((s + 1 : Nat) : Int) := by rw [IntKind.wrap_i64]; omega
                go_wp2_with fail
                go_round
                case rel => exact ⟨(j + 1) + 1, s, M2, by omega, by first | rfl | go_num, by first | rfl | go_num, by first | rfl | rw [hsum], by omega, Lib.hid (HK.out.trans HN2.out), HM2, HBN⟩
                case measure => simp [intOf]; omega
              | true =>
                cases eo : (r0.toList == o.toList) with
                | true =>
                  go_upto_region 6 with fail
                  rw [← HW5.out]
                  refine wp_region_goesG data_follows (fun x => by simp [putsF, Act.put]; rfl) W5.heap.size W5
                    [isV (.agg #[.string r0, .int .u16 r1, .int .u32 r2, .string r3]), isV (.bool true), isV (.bool false), isV (.bool false), isV (.pointer (some ⟨wr.heap.size, 0, none⟩)), isV (.string r0), isV (.string o), isV (.bool true), isV (.bool false), isV (.bool false), isV (.bool false), isV (.int .i64 ((j + 1 : Nat) : Int)), isV (.bool true), isV (.bool true), isV (.slice (some ⟨bb, off, none⟩) M c), isV (.int .i64 ((j + 1 : Nat) : Int)), isV (.int .i64 (j : Nat)), isV (.pointer (some ⟨bb, off + j * 4, none⟩)), isV (.agg #[.string p0, .int .u16 p1, .int .u32 p2, .string p3]), isV (.agg #[.string r0, .int .u16 r1, .int .u32 r2, .string r3]), isV (.int .i64 (-1)), isV (.bool false), isV (.bool false), isV (.bool false), isV (.bool false), isV (.pointer (some ⟨wr.heap.size, 1, none⟩)), isV (.int .u16 r1), isV (.bool true), isV (.bool true), isV (.pointer (some ⟨wr.heap.size, 0, none⟩)), isV (.string r0), isV (.string o), isV (.bool false), isV (.bool false), isV (.bool false)]
                    (by kernel_rfl) (by kernel_rfl) (by kernel_rfl) rfl ?_ (Below.refl _ _) ?_ ?_
                  · repeat (first | exact trivial | refine ⟨isV_stays _, ?_⟩)
                  · refine ⟨?_, ?_, ?_, ?_, ?_, ?_, ?_, ?_, ?_, ?_, ?_, ?_, ?_, ?_, ?_, ?_, ?_, ?_, ?_, ?_, ?_, ?_, ?_, ?_, ?_, ?_, ?_, ?_, ?_, ?_, ?_, ?_, ?_, ?_, ?_, trivial⟩
                    all_goals
                      intro x wx hR hd
                      simp at hd
                      first
                      | (refine ⟨fun hX => ?_, fun _ => rfl⟩; simp [hd] at hX; done)
                      | (refine ⟨fun hX => ?_, fun _ => rfl⟩; simp [hd, undef] at hX; done)
                      | (refine ⟨fun _ => ?_, fun hX => ?_⟩; rotate_left; (focus simp [hd] at hX); have hc := HBX.out.below hR; have u0 := hc.get 0 _; have u1 := hc.get 1 _; have u2 := hc.get 2 _; have u3 := hc.get 3 _; obtain ⟨v0, v1, v2, v3⟩ := PV.out wx hR; clear hc; (try simp [hd]); go_simp; exact next_same _ rfl rfl hR)
                      | (refine ⟨fun _ => ?_, fun hX => ?_⟩; rotate_left; (focus simp [hd] at hX); (try simp [hd]); go_simp; go_at_call 47; refine (CM.out wx).mono ?_; rintro e w2 ⟨rfl, hb⟩; exact next_call _ rfl rfl hR hR.size hb)
                      | (refine ⟨fun _ => ?_, fun hX => ?_⟩; rotate_left; (focus simp [hd] at hX); (try simp [hd]); go_simp; go_at_call 48; refine (CB.out wx).mono ?_; rintro e w2 ⟨rfl, hb⟩; exact next_call _ rfl rfl hR hR.size hb)
                      | (refine ⟨fun _ => ?_, fun hX => ?_⟩; rotate_left; (focus simp [hd] at hX); (try simp [hd]); go_simp; go_at_call 14; refine (CC.out wx).mono ?_; rintro e w2 ⟨rfl, hb⟩; exact next_call _ rfl rfl hR hR.size hb)
                  intro x wx hR hx
                  simp [AllWords] at hx
                  have hlast : x 34 = .bool false := by simp [hx]
                  rw [hlast]
                  clear hx hlast
                  have hc := HBX.out.below hR
                  have u0 := hc.get 0 _
                  have u1 := hc.get 1 _
                  have u2 := hc.get 2 _
                  have u3 := hc.get 3 _
                  have HBN := Lib.hid (below_trans HB5.out HB5.out.size hR)
                  clear hc hR
                  have HGB : Hid (badR m o (prevOf z (j + 1)) (r0, r1, r2, r3) = false) := Lib.hid (by simp [badR, hpv, hx, em, eb, e6, eo])
                  rw [HGB.out] at HN
                  have HN2 : Hid (scanR m o (prevOf z (j + 1)) s (z.drop (j + 1)) = scanR m o (prevOf z ((j + 1) + 1)) (s + 1) (z.drop ((j + 1) + 1))) := Lib.hid (by rw [HN.out]; simp [e6])
                  have hw1 : IntKind.i64.wrap ((s : Int) + 1) = ((s + 1 : Nat) : Int) := by rw [IntKind.wrap_i64]; omega
                  go_wp2_with fail
                  go_round
                  case rel => exact ⟨(j + 1) + 1, s + 1, M2, by omega, by first | rfl | go_num, by first | rfl | go_num, by first | rfl | rw [hsum], by omega, Lib.hid (HK.out.trans HN2.out), HM2, HBN⟩
                  case measure => simp [intOf]; omega
                | false =>
                  go_upto_region 6 with fail
                  rw [← HW5.out]
                  refine wp_region_goesG data_follows (fun x => by simp [putsF, Act.put]; rfl) W5.heap.size W5
                    [isV (.agg #[.string r0, .int .u16 r1, .int .u32 r2, .string r3]), isV (.bool true), isV (.bool false), isV (.bool false), isV (.pointer (some ⟨wr.heap.size, 0, none⟩)), isV (.string r0), isV (.string o), isV (.bool true), isV (.bool false), isV (.bool false), isV (.bool false), isV (.int .i64 ((j + 1 : Nat) : Int)), isV (.bool true), isV (.bool true), isV (.slice (some ⟨bb, off, none⟩) M c), isV (.int .i64 ((j + 1 : Nat) : Int)), isV (.int .i64 (j : Nat)), isV (.pointer (some ⟨bb, off + j * 4, none⟩)), isV (.agg #[.string p0, .int .u16 p1, .int .u32 p2, .string p3]), isV (.agg #[.string r0, .int .u16 r1, .int .u32 r2, .string r3]), isV (.int .i64 (-1)), isV (.bool false), isV (.bool false), isV (.bool false), isV (.bool false), isV (.pointer (some ⟨wr.heap.size, 1, none⟩)), isV (.int .u16 r1), isV (.bool true), isV (.bool true), isV (.pointer (some ⟨wr.heap.size, 0, none⟩)), isV (.string r0), isV (.string o), isV (.bool true), isV (.bool true), isV (.bool true)]
                    (by kernel_rfl) (by kernel_rfl) (by kernel_rfl) rfl ?_ (Below.refl _ _) ?_ ?_
                  · repeat (first | exact trivial | refine ⟨isV_stays _, ?_⟩)
                  · refine ⟨?_, ?_, ?_, ?_, ?_, ?_, ?_, ?_, ?_, ?_, ?_, ?_, ?_, ?_, ?_, ?_, ?_, ?_, ?_, ?_, ?_, ?_, ?_, ?_, ?_, ?_, ?_, ?_, ?_, ?_, ?_, ?_, ?_, ?_, ?_, trivial⟩
                    all_goals
                      intro x wx hR hd
                      simp at hd
                      first
                      | (refine ⟨fun hX => ?_, fun _ => rfl⟩; simp [hd] at hX; done)
                      | (refine ⟨fun hX => ?_, fun _ => rfl⟩; simp [hd, undef] at hX; done)
                      | (refine ⟨fun _ => ?_, fun hX => ?_⟩; rotate_left; (focus simp [hd] at hX); have hc := HBX.out.below hR; have u0 := hc.get 0 _; have u1 := hc.get 1 _; have u2 := hc.get 2 _; have u3 := hc.get 3 _; obtain ⟨v0, v1, v2, v3⟩ := PV.out wx hR; clear hc; (try simp [hd]); go_simp; exact next_same _ rfl rfl hR)
                      | (refine ⟨fun _ => ?_, fun hX => ?_⟩; rotate_left; (focus simp [hd] at hX); (try simp [hd]); go_simp; go_at_call 47; refine (CM.out wx).mono ?_; rintro e w2 ⟨rfl, hb⟩; exact next_call _ rfl rfl hR hR.size hb)
                      | (refine ⟨fun _ => ?_, fun hX => ?_⟩; rotate_left; (focus simp [hd] at hX); (try simp [hd]); go_simp; go_at_call 48; refine (CB.out wx).mono ?_; rintro e w2 ⟨rfl, hb⟩; exact next_call _ rfl rfl hR hR.size hb)
                      | (refine ⟨fun _ => ?_, fun hX => ?_⟩; rotate_left; (focus simp [hd] at hX); (try simp [hd]); go_simp; go_at_call 14; refine (CC.out wx).mono ?_; rintro e w2 ⟨rfl, hb⟩; exact next_call _ rfl rfl hR hR.size hb)
                  intro x wx hR hx
                  simp [AllWords] at hx
                  have hlast : x 34 = .bool true := by simp [hx]
                  rw [hlast]
                  clear hx hlast
                  have hc := HBX.out.below hR
                  have u0 := hc.get 0 _
                  have u1 := hc.get 1 _
                  have u2 := hc.get 2 _
                  have u3 := hc.get 3 _
                  have HBN := Lib.hid (below_trans HB5.out HB5.out.size hR)
                  clear hc hR
                  have hR0 : R = false := by
                    rw [← HRR.out]; unfold rightR
                    rw [HK.out, HN.out, if_pos (by simp [badR, hpv, hx, em, eb, e6, eo])]
                  go_wp2_with fail
                  go_ret
                  exact ⟨by first | rfl | rw [hR0], HBN.out⟩
            · go_upto_region 6 with fail
              rw [← HW5.out]
              refine wp_region_goesG data_follows (fun x => by simp [putsF, Act.put]; rfl) W5.heap.size W5
                [isV (.agg #[.string r0, .int .u16 r1, .int .u32 r2, .string r3]), isV (.bool true), isV (.bool false), isV (.bool false), isV (.pointer (some ⟨wr.heap.size, 0, none⟩)), isV (.string r0), isV (.string o), isV (.bool true), isV (.bool false), isV (.bool false), isV (.bool false), isV (.int .i64 ((j + 1 : Nat) : Int)), isV (.bool true), isV (.bool true), isV (.slice (some ⟨bb, off, none⟩) M c), isV (.int .i64 ((j + 1 : Nat) : Int)), isV (.int .i64 (j : Nat)), isV (.pointer (some ⟨bb, off + j * 4, none⟩)), isV (.agg #[.string p0, .int .u16 p1, .int .u32 p2, .string p3]), isV (.agg #[.string r0, .int .u16 r1, .int .u32 r2, .string r3]), isV (.int .i64 (0)), isV (.bool true), isV (.bool true), isV (.bool true), isV (.bool true), isV undef, isV undef, isV undef, isV undef, isV undef, isV undef, isV undef, isV undef, isV undef, isV (.bool true)]
                (by kernel_rfl) (by kernel_rfl) (by kernel_rfl) rfl ?_ (Below.refl _ _) ?_ ?_
              · repeat (first | exact trivial | refine ⟨isV_stays _, ?_⟩)
              · refine ⟨?_, ?_, ?_, ?_, ?_, ?_, ?_, ?_, ?_, ?_, ?_, ?_, ?_, ?_, ?_, ?_, ?_, ?_, ?_, ?_, ?_, ?_, ?_, ?_, ?_, ?_, ?_, ?_, ?_, ?_, ?_, ?_, ?_, ?_, ?_, trivial⟩
                all_goals
                  intro x wx hR hd
                  simp at hd
                  first
                  | (refine ⟨fun hX => ?_, fun _ => rfl⟩; simp [hd] at hX; done)
                  | (refine ⟨fun hX => ?_, fun _ => rfl⟩; simp [hd, undef] at hX; done)
                  | (refine ⟨fun _ => ?_, fun hX => ?_⟩; rotate_left; (focus simp [hd] at hX); have hc := HBX.out.below hR; have u0 := hc.get 0 _; have u1 := hc.get 1 _; have u2 := hc.get 2 _; have u3 := hc.get 3 _; obtain ⟨v0, v1, v2, v3⟩ := PV.out wx hR; clear hc; (try simp [hd]); go_simp; exact next_same _ rfl rfl hR)
                  | (refine ⟨fun _ => ?_, fun hX => ?_⟩; rotate_left; (focus simp [hd] at hX); (try simp [hd]); go_simp; go_at_call 47; refine (CM.out wx).mono ?_; rintro e w2 ⟨rfl, hb⟩; exact next_call _ rfl rfl hR hR.size hb)
                  | (refine ⟨fun _ => ?_, fun hX => ?_⟩; rotate_left; (focus simp [hd] at hX); (try simp [hd]); go_simp; go_at_call 48; refine (CB.out wx).mono ?_; rintro e w2 ⟨rfl, hb⟩; exact next_call _ rfl rfl hR hR.size hb)
                  | (refine ⟨fun _ => ?_, fun hX => ?_⟩; rotate_left; (focus simp [hd] at hX); (try simp [hd]); go_simp; go_at_call 14; refine (CC.out wx).mono ?_; rintro e w2 ⟨rfl, hb⟩; exact next_call _ rfl rfl hR hR.size hb)
              intro x wx hR hx
              simp [AllWords] at hx
              have hlast : x 34 = .bool true := by simp [hx]
              rw [hlast]
              clear hx hlast
              have hc := HBX.out.below hR
              have u0 := hc.get 0 _
              have u1 := hc.get 1 _
              have u2 := hc.get 2 _
              have u3 := hc.get 3 _
              have HBN := Lib.hid (below_trans HB5.out HB5.out.size hR)
              clear hc hR
              have hR0 : R = false := by
                rw [← HRR.out]; unfold rightR
                rw [HK.out, HN.out, if_pos (by simp [badR, hpv, hx, em, eb])]
              go_wp2_with fail
              go_ret
              exact ⟨by first | rfl | rw [hR0], HBN.out⟩
            · go_upto_region 6 with fail
              rw [← HW5.out]
              refine wp_region_goesG data_follows (fun x => by simp [putsF, Act.put]; rfl) W5.heap.size W5
                [isV (.agg #[.string r0, .int .u16 r1, .int .u32 r2, .string r3]), isV (.bool true), isV (.bool false), isV (.bool false), isV (.pointer (some ⟨wr.heap.size, 0, none⟩)), isV (.string r0), isV (.string o), isV (.bool true), isV (.bool false), isV (.bool false), isV (.bool false), isV (.int .i64 ((j + 1 : Nat) : Int)), isV (.bool true), isV (.bool true), isV (.slice (some ⟨bb, off, none⟩) M c), isV (.int .i64 ((j + 1 : Nat) : Int)), isV (.int .i64 (j : Nat)), isV (.pointer (some ⟨bb, off + j * 4, none⟩)), isV (.agg #[.string p0, .int .u16 p1, .int .u32 p2, .string p3]), isV (.agg #[.string r0, .int .u16 r1, .int .u32 r2, .string r3]), isV (.int .i64 (1)), isV (.bool true), isV (.bool true), isV (.bool true), isV (.bool true), isV undef, isV undef, isV undef, isV undef, isV undef, isV undef, isV undef, isV undef, isV undef, isV (.bool true)]
                (by kernel_rfl) (by kernel_rfl) (by kernel_rfl) rfl ?_ (Below.refl _ _) ?_ ?_
              · repeat (first | exact trivial | refine ⟨isV_stays _, ?_⟩)
              · refine ⟨?_, ?_, ?_, ?_, ?_, ?_, ?_, ?_, ?_, ?_, ?_, ?_, ?_, ?_, ?_, ?_, ?_, ?_, ?_, ?_, ?_, ?_, ?_, ?_, ?_, ?_, ?_, ?_, ?_, ?_, ?_, ?_, ?_, ?_, ?_, trivial⟩
                all_goals
                  intro x wx hR hd
                  simp at hd
                  first
                  | (refine ⟨fun hX => ?_, fun _ => rfl⟩; simp [hd] at hX; done)
                  | (refine ⟨fun hX => ?_, fun _ => rfl⟩; simp [hd, undef] at hX; done)
                  | (refine ⟨fun _ => ?_, fun hX => ?_⟩; rotate_left; (focus simp [hd] at hX); have hc := HBX.out.below hR; have u0 := hc.get 0 _; have u1 := hc.get 1 _; have u2 := hc.get 2 _; have u3 := hc.get 3 _; obtain ⟨v0, v1, v2, v3⟩ := PV.out wx hR; clear hc; (try simp [hd]); go_simp; exact next_same _ rfl rfl hR)
                  | (refine ⟨fun _ => ?_, fun hX => ?_⟩; rotate_left; (focus simp [hd] at hX); (try simp [hd]); go_simp; go_at_call 47; refine (CM.out wx).mono ?_; rintro e w2 ⟨rfl, hb⟩; exact next_call _ rfl rfl hR hR.size hb)
                  | (refine ⟨fun _ => ?_, fun hX => ?_⟩; rotate_left; (focus simp [hd] at hX); (try simp [hd]); go_simp; go_at_call 48; refine (CB.out wx).mono ?_; rintro e w2 ⟨rfl, hb⟩; exact next_call _ rfl rfl hR hR.size hb)
                  | (refine ⟨fun _ => ?_, fun hX => ?_⟩; rotate_left; (focus simp [hd] at hX); (try simp [hd]); go_simp; go_at_call 14; refine (CC.out wx).mono ?_; rintro e w2 ⟨rfl, hb⟩; exact next_call _ rfl rfl hR hR.size hb)
              intro x wx hR hx
              simp [AllWords] at hx
              have hlast : x 34 = .bool true := by simp [hx]
              rw [hlast]
              clear hx hlast
              have hc := HBX.out.below hR
              have u0 := hc.get 0 _
              have u1 := hc.get 1 _
              have u2 := hc.get 2 _
              have u3 := hc.get 3 _
              have HBN := Lib.hid (below_trans HB5.out HB5.out.size hR)
              clear hc hR
              have hR0 : R = false := by
                rw [← HRR.out]; unfold rightR
                rw [HK.out, HN.out, if_pos (by simp [badR, hpv, hx, em, eb])]
              go_wp2_with fail
              go_ret
              exact ⟨by first | rfl | rw [hR0], HBN.out⟩
    · have hlt' : ¬ (k : Int) < M := by omega
      obtain rfl : k = M := by omega
      have hdk : z.drop k = [] := List.drop_eq_nil_of_le (by rw [HL.out]; exact Nat.le_refl _)
      have hmz : mz = sizeR z := by have := HMZ.out; rwa [List.take_of_length_le (by rw [HL.out]; exact Nat.le_refl _)] at this
      have hfin : R = (s == 1 && (decide (k ≤ 256) && decide (mz ≤ 16384))) := by
        rw [← HRR.out, hmz]; unfold rightR
        rw [HK.out, hdk]
        simp [scanR, HL.out]
      have hmi : (mz : Int) ≤ 1000000000000 := by have := HSB.out; omega
      clear hdk hmz
      cases e1 : (s == 1) with
      | false =>
        have he1 : ((s : Int) == 1) = false := by simp at e1 ⊢; omega
        rw [e1] at hfin
        go_wp2_with fail
        go_ret
        exact ⟨by first | rfl | (rw [hfin]; rfl), HB.out⟩
      | true =>
        obtain rfl : s = 1 := by simpa using e1
        rw [e1] at hfin
        by_cases h1 : k ≤ 256
        · have h1i : (k : Int) ≤ 256 := by omega
          by_cases h2 : mz ≤ 16384
          · have h2i : (mz : Int) ≤ 16384 := by omega
            have hR1 : R = true := by rw [hfin]; simp [h1, h2]
            clear hfin
            go_wp2_with fail
            go_ret
            exact ⟨by first | rfl | rw [hR1], HB.out⟩
          · have h2i : ¬ (mz : Int) ≤ 16384 := by omega
            have h2j : (16384 : Int) < mz := by omega
            have hR1 : R = false := by rw [hfin]; simp [h2]
            clear hfin
            go_wp2_with fail
            go_ret
            exact ⟨by first | rfl | rw [hR1], HB.out⟩
        · have h1i : ¬ (k : Int) ≤ 256 := by omega
          have h1j : (256 : Int) < k := by omega
          have hR1 : R = false := by rw [hfin]; simp [h1]
          clear hfin
          go_wp2_with fail
          go_ret
          exact ⟨by first | rfl | rw [hR1], HB.out⟩
end Go.Proofs.Ytoacmdjbmbdjdaa
