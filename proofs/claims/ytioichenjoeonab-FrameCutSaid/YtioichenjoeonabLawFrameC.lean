/- The walk of FrameCut. -/
import Derived.Test.YtioichenjoeonabLawFrameT
import Derived.Test.YtioichenjoeonabReg2
namespace Go.Proofs.Ytioichenjoeonab
open Go.RowKit
set_option linter.unusedVariables false

/-- A string and bytes in it. -/
theorem cat_list (a b : List UInt8) : (⟨a.toArray⟩ : ByteArray) ++ ⟨b.toArray⟩ = ⟨(a ++ b).toArray⟩ := by
  apply ByteArray.ext
  simp
theorem Txt.goesAt {w w' : World} {A : Option Addr} {n : Nat} {l : List UInt8} (h : Txt w A n l) (hb : Below w.heap.size w w') : Txt w' A n l := h.goes hb

attribute [local simp] isV wordOf Deps Region.binds wantedX isB Act.put
set_option maxHeartbeats 1600000 in
set_option maxRecDepth 20000 in
theorem frameCut_walk (w : World) (A : Option Addr) (n c : Nat) (zs : List Int) (hV : SlView w A n c (zs.map (Value.int .u8))) (hl : zs.length = n) (hz : ∀ z ∈ zs, (Lit.int .u8 z).wf = true) (hc : c ≤ 140737488351232)
    (D : Option Addr) (m d : Nat) (ys : List Int) (hV2 : SlView w D m d (ys.map (Value.int .u8))) (hl2 : ys.length = m) (hz2 : ∀ z ∈ ys, (Lit.int .u8 z).wf = true) (hd : d ≤ 140737488351232)
    (x : Int) (hx : (Lit.int .u16 x).wf = true) (y : Int) (hy : (Lit.int .u8 y).wf = true) :
    Calls Try.prog 3 #[.slice A n c, .slice D m d, .int .u16 x, .int .u8 y] w fun e w' => e = .returned (.bool true) ∧ Below w.heap.size w w' := by
  obtain ⟨i0, hi, hz0, hz1, hz2'⟩ := info_parts num_info
  obtain ⟨l, hzl⟩ := bytes_of zs hz
  rw [hzl] at hV
  have hll : l.length = n := by have := congrArg List.length hzl; simp at this; omega
  obtain ⟨r, hyl⟩ := bytes_of ys hz2
  rw [hyl] at hV2
  have hrl : r.length = m := by have := congrArg List.length hyl; simp at this; omega
  obtain ⟨u, hu⟩ : ∃ u : UInt8, Value.int .u8 y = bv u := ⟨UInt8.ofNat y.toNat, by
    have := bounds_u8 hy
    unfold bv; rw [UInt8.toNat_ofNat_of_lt' (by simp; omega)]; congr 1; omega⟩
  have hx2 := bounds_u16 hx
  have HU := Lib.hid hu
  clear hu
  have hnc := hV.le
  have hmd := hV2.le
  obtain ⟨K, hK⟩ : ∃ K, K = min n 600 := ⟨_, rfl⟩
  have e1 : (min (n : Int) 600).toNat = K := by omega
  have e2 : 0 ≤ min (n : Int) 600 := by omega
  have e3 : min (n : Int) 600 ≤ c := by omega
  have hK6 : K ≤ 600 := by omega
  have hSA : Sl w w.heap.size 1 A n (l.map bv) := hV.sl
  have hSD : Sl w w.heap.size 1 D m (r.map bv) := hV2.sl
  have hS : Sl w w.heap.size 1 A K ((l.take K).map bv) := hV.sl.take K (by omega)
  have hkl : (l.take K).length = K := by simp; omega
  have HA0 := Lib.hid hV.none_
  have HD0 := Lib.hid hV2.none_
  have hA0' : A = none → K = 0 ∧ c = 0 := fun h => by have := hV.none_ h; omega
  obtain ⟨l1, el1⟩ : ∃ l1, l1 = l.take K := ⟨_, rfl⟩
  rw [← el1] at hS hkl
  have HA := Lib.hid hA0'
  have HKL := Lib.hid hkl
  have HLL := Lib.hid hll
  have HRL := Lib.hid hrl
  have hfl := frameL_length l1
  rw [hkl] at hfl
  have hff := firstL_frame l1 r (by omega)
  rw [hkl] at hff
  have hd4 : ((frameL l1 ++ r).drop 4).take K = l1 := by
    rw [← hkl]; simp [frameL, w16]
  have hd6 : (frameL l1 ++ r).drop (K + 6) = r := by rw [← hfl, List.drop_left]
  obtain ⟨F, eF⟩ : ∃ F : ByteArray, F = ⟨(frameL l1).toArray⟩ := ⟨_, rfl⟩
  have hFl : F.data.toList = frameL l1 := by rw [eF]
  have hFs : F.size = K + 6 := by rw [eF, mk_size]; exact hfl
  have HFL := Lib.hid hFl
  have HFS := Lib.hid hFs
  have HF := Lib.hid eF
  have HFF := Lib.hid hff
  have HD4 := Lib.hid hd4
  have HD6 := Lib.hid hd6
  clear hFl hFs eF hff hd4 hd6 hkl hll hrl el1 hK hzl hyl hz hz2 hl hl2 hA0' hV hV2 hx hy hfl
  obtain ⟨X, rfl⟩ := Int.eq_ofNat_of_zero_le hx2.1
  go_enter Try.func3, Try.ntmps3
  go_wp2_with fail
  refine (awake22_any _).mono ?_
  rintro e w1 ⟨rfl, hb1⟩
  go_wp2_with fail
  refine (made_any _ _ _ l1 _ ((hS.below hb1).more hb1.size) (fun h => (HA.out h).1) hK6).mono ?_
  rw [← HF.out]
  rintro e w2 ⟨rfl, hb2⟩
  have hB2 := below_trans hb1 hb1.size hb2
  have hcv := run_bytes_of_string (P := Try.prog) w2 9 22 5 F Try.underlying9 Try.underlying22 Try.underlying5
  have hob := OB.of_bytes w2 F 5 (by rw [HFS.out]; unfold maxLen; omega)
  rw [HFL.out, HFS.out] at hob
  rw [HFS.out] at hcv
  have hob := hob.out hB2.size hB2
  generalize grownCap w2 (K + 6) 0 5 = cap at *
  obtain ⟨w3, hw3⟩ : ∃ w3, w3 = (w2.drew.alloc (.cells (bytesRow F cap) 5 ((bytesRow F cap).size, (bytesRow F cap).size + 1))) := ⟨_, rfl⟩
  rw [← hw3] at hcv hob
  clear hb2 hw3
  have hD3 := hSD.below hob.bel
  go_wp2_with (first
    | (at_builtin; refine wpList_append_ob rfl (.tmp 28) (.tmp 29) 22 22 rfl 5 i0 (.int .u8 0) 1 Try.underlying22 hi hz0 hz1 hz2' rfl hob rfl rfl (hD3.src Try.underlying22 (fun h => (HD0.out h).1) (one_bytes _)) (by unfold maxLen; omega) (by omega) ?_; intro v4 w4 hob4 hs4 hk4 hv4))
  rw [← List.map_append] at hob4
  obtain ⟨E, ce, rfl, hce, -, hE⟩ := hob4.slice3
  rcases hE with ⟨-, h0, -⟩ | ⟨g, rfl, hg1, hg2⟩
  · omega
  obtain ⟨N, hN⟩ : ∃ N, N = K + 6 + m := ⟨_, rfl⟩
  obtain ⟨ls, els⟩ : ∃ ls, ls = frameL l1 ++ r := ⟨_, rfl⟩
  have hffc := HFF.out
  have hd4c := HD4.out
  have hd6c := HD6.out
  rw [← els] at hob4 hffc hd4c hd6c
  rw [← hN] at hob4 hce ⊢
  have hN1 : N ≤ 140737488355328 := by omega
  have hN2 : 6 ≤ N := by omega
  have hlsl : ls.length = N := by have := hob4.len; simpa using this
  have HSUB := Lib.hid hlsl
  have HN := Lib.hid hN
  clear hob hcv hD3 hk4 hv4 els hlsl hN
  have hcut := cut_yes (some ⟨g, 0, none⟩) N ce ls K w4 hob4.sl (by intro h; cases h) hce hN1 hffc
  rw [hd4c, hd6c] at hcut
  refine hcut.mono ?_
  rintro e w5 ⟨v1, v2, rfl, ⟨A1, n1, c1, rfl, t1⟩, ⟨A2, n2, c2, rfl, t2⟩, hb5⟩
  have hob5 := hob4.keep hb5 (Nat.le_refl _)
  have hB5 := hob5.bel
  have q1 := t1.conv (P := Try.prog) 22 9 5 Try.underlying22 Try.underlying5 Try.underlying9 c1
  have q2 := t2.conv (P := Try.prog) 22 9 5 Try.underlying22 Try.underlying5 Try.underlying9 c2
  have q3 := run_string_of (P := Try.prog) w5 22 9 5 _ A K l1 Try.underlying22 Try.underlying5 Try.underlying9 (hS.below hB5) (fun h => (HA.out h).1) c
  have q4 := run_string_of (P := Try.prog) w5 22 9 5 _ D m r Try.underlying22 Try.underlying5 Try.underlying9 (hSD.below hB5) (fun h => (HD0.out h).1) d
  generalize (⟨l1.toArray⟩ : ByteArray) = L1 at *
  generalize (⟨r.toArray⟩ : ByteArray) = R1 at *
  clear hcut hob4 t1 t2 hb5
  obtain ⟨p, hp⟩ : ∃ p, p = X % N := ⟨_, rfl⟩
  have hpN : p < N := by rw [hp]; exact Nat.mod_lt _ (by omega)
  have hm : (X : Int) % (N : Int) = (p : Int) := by rw [hp, Int.natCast_emod]
  obtain ⟨old, hold⟩ : ∃ o, (ls.map bv)[p]? = some o := ⟨_, List.getElem?_eq_getElem (by have := HSUB.out; simp; omega)⟩
  have hcell := hob5.cell p old hold
  have hfrz := hob5.frozen p (by omega)
  have hob6 := hob5.set p hpN (.int .u8 y)
  rw [HU.out, show (ls.map bv).set p (bv u) = (ls.set p u).map bv by rw [List.map_set], ← HU.out] at hob6
  obtain ⟨w6, hw6⟩ : ∃ w6, w6 = w5.setCell ⟨g, p, none⟩ (.int .u8 y) := ⟨_, rfl⟩
  have HW6 := Lib.hid hw6
  rw [← hw6] at hob6
  clear hp hold hw6
  go_upto_region 9 with fail
  rw [← HW6.out]
  clear hcell hfrz hm q1 q2 q3 q4
  have hB6 := hob6.bel
  have hsz6 := hB6.size
  go_wp2_with fail
  obtain ⟨W7, hW7⟩ : ∃ W7, W7 = w6.alloc (.cells #[.slice A n c, .slice (some ⟨g, 0, none⟩) N ce] 22) := ⟨_, rfl⟩
  have hB7 : Below w.heap.size w W7 := by rw [hW7]; exact hB6.alloc hob6.base _
  have hz7 : W7.heap.size = w6.heap.size + 1 := by rw [hW7]; simp
  have HEL : ∀ k, k < 2 → ∃ (A' : Option Addr) (n' c' : Nat) (l' : List UInt8), W7.cell? ⟨w6.heap.size, k, none⟩ = some (.slice A' n' c') ∧ Sl W7 W7.heap.size 1 A' n' (l'.map bv) ∧ (A' = none → n' = 0) ∧ n' ≤ c' ∧ n' ≤ 140737488355328 := by
    intro k hk
    match k, hk with
    | 0, _ => exact ⟨A, n, c, l, by rw [hW7]; simp, (hSA.below hB7).more hB7.size, fun h => (HA0.out h).1, hnc, by omega⟩
    | 1, _ => exact ⟨some ⟨g, 0, none⟩, N, ce, ls.set p u, by rw [hW7]; simp, by
        rw [hW7]
        exact (hob6.sl.alloc (Nat.le_refl _) _).more (by simp), (by intro h; cases h), hce, hN1⟩
  have HEL := Lib.hid HEL
  rw [← hW7]
  clear hW7 hob6 hob5 HW6
  go_loopw [65] (fun i wr => ∃ k : Nat, k ≤ 2 ∧ i = .int .i64 k ∧ Below W7.heap.size W7 wr) (fun i _ => 2 - (intOf i).toNat)
  case atStart => exact ⟨0, by omega, rfl, Below.refl _ _⟩
  case round =>
    obtain ⟨k, hk, rfl, hbel⟩ := hrel
    have hBr := hB7.trans (hbel.mono hB7.size)
    by_cases hk2 : k < 2
    · obtain ⟨A', n', c', l', hcell, hsl, hA', hn', hN'⟩ := HEL.out k hk2
      have hcell2 : wr.cell? ⟨w6.heap.size, k, none⟩ = some (.slice A' n' c') := by rw [hbel.cell (by show w6.heap.size < _; omega)]; exact hcell
      have hsl2 := (hsl.below hbel).more hbel.size
      have HA' := Lib.hid hA'
      clear hcell hsl hA'
      go_wp2_with fail
      cases hf : firstL l' with
      | none =>
        refine (cut_none A' n' c' l' _ hsl2 HA'.out hn' (by omega) hf).mono ?_
        rintro e w8 ⟨rfl, j, rfl⟩
        clear hf
        have hBj : Below w.heap.size w (wr.drewN j) := below_drewN' hBr j
        have hbj : Below W7.heap.size W7 (wr.drewN j) := below_drewN' hbel j
        generalize wr.drewN j = w8 at *
        go_upto_region 13 with fail
        refine wp_region_goesG frame_follows (fun x => by simp [putsF, Act.put]; rfl) w8.heap.size w8
          [isV (.bool false), isV (.bool false), isV undef, isV undef, isV undef, isV undef, isV undef, isV undef, isV undef, isV undef, isV (.bool false), isV (.bool false), isV (.bool false), isV (.bool false),
            isV undef, isV undef, isV undef, isV (.bool false), isV (.bool false), isV (.bool false), isV (.bool false), isV (.bool true), isV (.bool true), isV (.slice none 0 0), isV (.int .i64 0), isV (.slice none 0 0), isV (.int .i64 0), isV (.int .i64 0), isV (.bool false), isV (.bool false), isV (.bool false)]
          (by kernel_rfl) (by kernel_rfl) (by kernel_rfl) rfl ?_ (Below.refl _ _) ?_ ?_
        · repeat (first | exact trivial | refine ⟨isV_stays _, ?_⟩)
        · refine ⟨?_, ?_, ?_, ?_, ?_, ?_, ?_, ?_, ?_, ?_, ?_, ?_, ?_, ?_, ?_, ?_, ?_, ?_, ?_, ?_, ?_, ?_, ?_, ?_, ?_, ?_, ?_, ?_, ?_, ?_, ?_, trivial⟩
          all_goals
            intro x wx hR hd
            simp at hd ⊢
          all_goals try simp [hd]
          all_goals (go_simp; exact next_same _ rfl rfl hR)
        intro x wy hby hx
        simp [AllWords] at hx ⊢
        have hx30 : x 30 = .bool false := by simp [hx]
        clear hx
        rw [hx30]
        have hbr9 := hbj.trans (hby.mono hbj.size)
        go_wp2_with fail
        go_roundw
        case rel => exact ⟨k + 1, by omega, by go_num, hbr9⟩
        case measure => simp [intOf]; omega
      | some q =>
        refine (cut_yes A' n' c' l' q _ hsl2 HA'.out hn' (by omega) hf).mono ?_
        rintro e w8 ⟨v3, v4, rfl, ⟨A3, n3, c3, rfl, t3⟩, ⟨A4, n4, c4, rfl, t4⟩, hb8⟩
        obtain ⟨hq1, hq2, hq3⟩ := firstL_some hf
        clear hf
        have hbr8 := hbel.trans (hb8.mono hbel.size)
        have hB8 := hBr.trans (hb8.mono hBr.size)
        have hs8 := hbr8.size
        have hn3 : n3 ≤ 600 := by have h1 := t3.1.1; simp at h1; omega
        have hcat : (⟨(frameL ((l'.drop 4).take q)).toArray⟩ : ByteArray) ++ ⟨(l'.drop (q + 6)).toArray⟩ = ⟨l'.toArray⟩ := by rw [cat_list, ← hq3]
        have hlen3 : ((l'.drop 4).take q).length ≤ 600 := by simp; omega
        have hsz : ¬ 9223372036854775807 < (⟨(frameL ((l'.drop 4).take q)).toArray⟩ : ByteArray).size + (⟨(l'.drop (q + 6)).toArray⟩ : ByteArray).size := by
          rw [mk_size, mk_size, frameL_length]
          have hl' : l'.length = n' := by simpa using hsl2.1
          simp; omega
        have hsl8 : Sl w8 wr.heap.size 1 A' n' (l'.map bv) := hsl2.below hb8
        generalize (l'.drop 4).take q = lk at *
        generalize l'.drop (q + 6) = lr at *
        obtain ⟨G1, eG1⟩ : ∃ G1 : ByteArray, G1 = ⟨(frameL lk).toArray⟩ := ⟨_, rfl⟩
        obtain ⟨R4, eR4⟩ : ∃ R4 : ByteArray, R4 = ⟨lr.toArray⟩ := ⟨_, rfl⟩
        obtain ⟨LS, eLS⟩ : ∃ LS : ByteArray, LS = ⟨l'.toArray⟩ := ⟨_, rfl⟩
        rw [← eG1, ← eR4] at hcat hsz
        rw [← eLS] at hcat
        have G1' := Lib.hid eG1
        have R4' := Lib.hid eR4
        have LS' := Lib.hid eLS
        have HT3 := Lib.hid t3
        have HT4 := Lib.hid t4
        have hn8 := hb8.size
        clear eG1 eR4 eLS hq3 t3 t4
        go_upto_region 13 with fail
        refine wp_region_goesG frame_follows (fun x => by simp [putsF, Act.put]; rfl) w8.heap.size w8
          [isV (.bool true), isV (.bool true), isV (.slice A3 n3 c3), isV (.string G1), isV (.slice A4 n4 c4), isV (.string R4), isV (.string LS), isV (.slice A' n' c'), isV (.string LS), isV (.bool false), isV (.bool false), isV (.bool false), isV (.bool true), isV (.bool true),
            isV (.slice A3 n3 c3), isV (.int .i64 n3), isV (.bool false), isV (.bool false), isV (.bool false), isV (.bool false), isV (.bool true), isV (.bool false), isV (.bool false), isV undef, isV undef, isV undef, isV undef, isV undef, isV undef, isV (.bool false), isV (.bool false)]
          (by kernel_rfl) (by kernel_rfl) (by kernel_rfl) rfl ?_ (Below.refl _ _) ?_ ?_
        · repeat (first | exact trivial | refine ⟨isV_stays _, ?_⟩)
        · refine ⟨?_, ?_, ?_, ?_, ?_, ?_, ?_, ?_, ?_, ?_, ?_, ?_, ?_, ?_, ?_, ?_, ?_, ?_, ?_, ?_, ?_, ?_, ?_, ?_, ?_, ?_, ?_, ?_, ?_, ?_, ?_, trivial⟩
          all_goals
            intro x wx hR hd
            simp at hd ⊢
          all_goals try simp [hd]
          all_goals try (go_simp; exact next_same _ rfl rfl hR)
          · obtain ⟨hd0, -⟩ := hd
            go_simp
            go_at_call 8
            refine (made_any A3 n3 c3 lk _ (HT3.out.goes hR).1 HT3.out.2 hn3).mono ?_
            rw [← G1'.out]
            rintro e wy ⟨rfl, hby⟩
            exact next_call _ rfl rfl hR hR.size hby
          · obtain ⟨hd0, -⟩ := hd
            have hv := (HT4.out.goes hR).conv (P := Try.prog) 22 9 5 Try.underlying22 Try.underlying5 Try.underlying9 c4
            rw [← R4'.out] at hv
            go_simp
            exact next_same _ rfl rfl hR
          · obtain ⟨hd0, -⟩ := hd
            have hv := run_string_of (P := Try.prog) wx 22 9 5 _ A' n' l' Try.underlying22 Try.underlying5 Try.underlying9 (hsl8.below' hR hn8) HA'.out c'
            rw [← LS'.out] at hv
            go_simp
            exact next_same _ rfl rfl hR
          · obtain ⟨hd0, -⟩ := hd
            have hg : decide ((600 : Int) < (n3 : Int)) = false := by simp; omega
            go_simp
            exact next_same _ rfl rfl hR
        intro x wy hby hx
        simp [AllWords] at hx ⊢
        have hx30 : x 30 = .bool false := by simp [hx]
        clear hx
        rw [hx30]
        have hB9 := hB8.trans (hby.mono hB8.size)
        have hbr9 := hbr8.trans (hby.mono hbr8.size)
        go_wp2_with fail
        go_roundw
        case rel => exact ⟨k + 1, by omega, by go_num, hbr9⟩
        case measure => simp [intOf]; omega
    · obtain rfl : k = 2 := by omega
      go_wp2_with fail
      go_ret
      exact ⟨rfl, hBr⟩
end Go.Proofs.Ytioichenjoeonab
