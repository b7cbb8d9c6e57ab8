/- The walk of PrefixCut. -/
import Derived.Test.YtioichenjoeonaaLawPfxK
namespace Go.Proofs.Ytioichenjoeonaa
open Go.RowKit
set_option linter.unusedVariables false
theorem isCut_yes {n : Nat} {m : Int} (ha : isAddr n = true) (h0 : 0 ≤ m) (h1 : m ≤ 8 * n) : isCut n m = true := by
  simp only [isCut, ha, Bool.true_and, Bool.and_eq_true, decide_eq_true_eq]; exact ⟨h0, h1⟩
theorem isCut_no {n : Nat} {m : Int} (h : isAddr n = false ∨ m < 0 ∨ 8 * (n : Int) < m) : isCut n m = false := by
  rw [Bool.eq_false_iff]
  intro hc
  obtain ⟨h1, h2, h3⟩ := isCut_addr hc
  rcases h with h | h | h
  · rw [h1] at h; cases h
  · omega
  · omega
attribute [local simp] isV wordOf Deps Region.binds wantedX isB Act.put
set_option maxHeartbeats 3200000 in
set_option maxRecDepth 20000 in
theorem prefixCut_walk (w : World) (a : ByteArray) (ha : a.size ≤ 140737488351232) (n : Int) (hn : (Lit.int .i64 n).wf = true) (six : Bool) (A : Option Addr) (m c : Nat) (zs : List Int) (hV : SlView w A m c (zs.map (Value.int .u8))) (hl : zs.length = m) (hz : ∀ z ∈ zs, (Lit.int .u8 z).wf = true) (hc : c ≤ 140737488351232) :
    Calls Try.prog 3 #[.string a, .int .i64 n, .bool six, .slice A m c] w fun e w' => e = .returned (.bool true) ∧ Below w.heap.size w w' := by
  obtain ⟨l, hzl⟩ := bytes_of zs hz
  rw [hzl] at hV
  have hnb := bounds_i64 hn
  have hmc := hV.le
  have hS : Sl w w.heap.size 1 A m (l.map bv) := hV.sl
  clear hzl hz hl hV hn
  go_enter Try.func3, Try.ntmps3
  go_wp2_with fail
  refine (awake12_any _).mono ?_
  rintro e w1 ⟨rfl, hb1⟩
  go_wp2_with fail
  refine (addr_any six A m c l _ ((hS.below hb1).more hb1.size) (by omega)).mono ?_
  rintro e w2 ⟨s, hs, rfl, hb2⟩
  have hB2 := below_trans hb1 hb1.size hb2
  have hs16 : s.size ≤ 16 := by rw [hs]; cases six <;> decide
  clear hs hb2
  go_wp2_with fail
  obtain ⟨W7, hW7⟩ : ∃ W7, W7 = w2.alloc (.cells #[.string a, .string s] 9) := ⟨_, rfl⟩
  have hB7 : Below w.heap.size w W7 := by rw [hW7]; exact hB2.alloc hB2.size _
  have hz7 : W7.heap.size = w2.heap.size + 1 := by rw [hW7]; simp
  have HEL : ∀ k, k < 2 → ∃ x : ByteArray, W7.cell? ⟨w2.heap.size, k, none⟩ = some (.string x) ∧ x.size ≤ 140737488351232 := by
    intro k hk
    match k, hk with
    | 0, _ => exact ⟨a, by rw [hW7]; simp, ha⟩
    | 1, _ => exact ⟨s, by rw [hW7]; simp, by omega⟩
  have HEL := Lib.hid HEL
  rw [← hW7]
  clear hW7
  go_loopw [24] (fun i wr => ∃ k : Nat, k ≤ 2 ∧ i = .int .i64 k ∧ Below W7.heap.size W7 wr) (fun i _ => 2 - (intOf i).toNat)
  case atStart => exact ⟨0, by omega, rfl, Below.refl _ _⟩
  case round =>
    obtain ⟨k, hk, rfl, hbel⟩ := hrel
    have hBr := hB7.trans (hbel.mono hB7.size)
    by_cases hk2 : k < 2
    · obtain ⟨x, hcell, hxs⟩ := HEL.out k hk2
      have hcell2 : wr.cell? ⟨w2.heap.size, k, none⟩ = some (.string x) := by rw [hbel.cell (by show w2.heap.size < _; omega)]; exact hcell
      obtain ⟨C, ok, q, hcut, his⟩ : ∃ (C : ByteArray) (ok : Bool) (q : Int), (∀ w, Calls Try.prog 16 #[.string x, .int .i64 n] w fun e w' => e = .returned (.tuple #[.agg #[.string C, .int .i64 q], .bool ok]) ∧ Below w.heap.size w w') ∧
          ok = isCut x.size n ∧ ((ok = true ∧ q = n ∧ ∃ j : Nat, n = j ∧ j ≤ 8 * x.size ∧ isAddr x.size = true ∧ C = ⟨(cutL x.data.toList j).toArray⟩) ∨ (ok = false ∧ C = ⟨#[]⟩ ∧ q = 0)) := by
        cases hc : isCut x.size n with
        | false => exact ⟨⟨#[]⟩, false, 0, fun w => pcut_no x n w (by omega) hc, rfl, .inr ⟨rfl, rfl, rfl⟩⟩
        | true =>
          obtain ⟨h1, h2, h3⟩ := isCut_addr hc
          obtain ⟨j, rfl⟩ := Int.eq_ofNat_of_zero_le h2
          have hl : x.data.toList.length = x.size := by simp
          have hy := fun w => pcut_yes x.data.toList j w (by rw [hl]; exact h1) (by rw [hl]; omega)
          rw [ba_eta] at hy
          exact ⟨⟨(cutL x.data.toList j).toArray⟩, true, j, hy, rfl, .inl ⟨rfl, rfl, j, rfl, by omega, h1, rfl⟩⟩
      have HAD := Lib.hid (fun w => address_any x w (by unfold maxLen; omega))
      obtain ⟨hok, his⟩ := his
      subst hok
      have HCUT := Lib.hid hcut
      have HIS := Lib.hid his
      clear hcut his hcell
      go_wp2_with fail
      refine (HCUT.out _).mono ?_
      rintro e w8 ⟨rfl, hb8⟩
      have hbel8 := hbel.trans (hb8.mono hbel.size)
      have hB8 := hBr.trans (hb8.mono hBr.size)
      clear hb8
      go_upto_region 7 with fail
      obtain ⟨W, hW⟩ : ∃ W, W = w8.alloc (.cells #[.string C, .int .i64 q] 27) := ⟨_, rfl⟩
      have hBW : Below w.heap.size w W := by rw [hW]; exact hB8.alloc hB8.size _
      have hbW : Below W7.heap.size W7 W := by rw [hW]; exact hbel8.alloc hbel8.size _
      have c0 : W.cell? ⟨w8.heap.size, 0, none⟩ = some (.string C) := by rw [hW]; simp
      have c1 : W.cell? ⟨w8.heap.size, 1, none⟩ = some (.int .i64 q) := by rw [hW]; simp
      have hzW : w8.heap.size < W.heap.size := by rw [hW]; simp
      rw [← hW]
      clear hW hbel8 hB8
      go_cut [13] (fun v wc => v = .bool (isCut x.size n) ∧ wc = W)
      case first =>
        by_cases h4 : x.size = 4 ∨ x.size = 16
        · have hA : isAddr x.size = true := by unfold isAddr; rcases h4 with h | h <;> rw [h] <;> rfl
          by_cases h0 : n < 0
          · have HR := Lib.hid (isCut_no (n := x.size) (m := n) (.inr (.inl h0)))
            by_cases h : x.size = 4
            · have t4 : ((x.size : Int) == 4) = true := by rw [beq_iff_eq]; omega
              clear h4 hA h
              go_wp2_with fail
              go_meet
              exact ⟨by rw [HR.out]; try rfl, rfl⟩
            · have t4 : ((x.size : Int) == 4) = false := by rw [beq_eq_false_iff_ne]; omega
              have t16 : ((x.size : Int) == 16) = true := by rw [beq_iff_eq]; omega
              clear h4 hA h
              go_wp2_with fail
              go_meet
              exact ⟨by rw [HR.out]; try rfl, rfl⟩
          · by_cases h1 : n ≤ 8 * (x.size : Int)
            · have HR := Lib.hid (isCut_yes (n := x.size) (m := n) hA (by omega) h1)
              by_cases h : x.size = 4
              · have t4 : ((x.size : Int) == 4) = true := by rw [beq_iff_eq]; omega
                clear h4 hA h
                go_wp2_with fail
                go_meet
                exact ⟨by rw [HR.out] <;> first | rfl | rw [decide_eq_true (by omega)] | rw [decide_eq_false (by omega)], rfl⟩
              · have t4 : ((x.size : Int) == 4) = false := by rw [beq_eq_false_iff_ne]; omega
                have t16 : ((x.size : Int) == 16) = true := by rw [beq_iff_eq]; omega
                clear h4 hA h
                go_wp2_with fail
                go_meet
                exact ⟨by rw [HR.out] <;> first | rfl | rw [decide_eq_true (by omega)] | rw [decide_eq_false (by omega)], rfl⟩
            · have HR := Lib.hid (isCut_no (n := x.size) (m := n) (.inr (.inr (by omega))))
              by_cases h : x.size = 4
              · have t4 : ((x.size : Int) == 4) = true := by rw [beq_iff_eq]; omega
                clear h4 hA h
                go_wp2_with fail
                go_meet
                exact ⟨by rw [HR.out] <;> first | rfl | rw [decide_eq_true (by omega)] | rw [decide_eq_false (by omega)], rfl⟩
              · have t4 : ((x.size : Int) == 4) = false := by rw [beq_eq_false_iff_ne]; omega
                have t16 : ((x.size : Int) == 16) = true := by rw [beq_iff_eq]; omega
                clear h4 hA h
                go_wp2_with fail
                go_meet
                exact ⟨by rw [HR.out] <;> first | rfl | rw [decide_eq_true (by omega)] | rw [decide_eq_false (by omega)], rfl⟩
        · have hA : isAddr x.size = false := by
            rw [Bool.eq_false_iff]; intro h; simp [isAddr] at h; exact h4 h
          have HR := Lib.hid (isCut_no (n := x.size) (m := n) (.inl hA))
          have t4 : ((x.size : Int) == 4) = false := by rw [beq_eq_false_iff_ne]; omega
          have t16 : ((x.size : Int) == 16) = false := by rw [beq_eq_false_iff_ne]; omega
          clear h4 hA
          go_wp2_with fail
          go_meet
          exact ⟨by rw [HR.out], rfl⟩
      case rest =>
        obtain ⟨rfl, rfl⟩ := hcut
        go_upto_region 8 with fail
        go_cut [68] (fun v wd => v = .bool false ∧ wd = wc)
        case first =>
          go_wp2_with fail
          refine (HAD.out _).mono ?_
          rintro e w9 ⟨rfl, rfl⟩
          by_cases h4 : x.size = 4
          · have HA : Hid (isAddr x.size = true) := Lib.hid (by rw [h4]; rfl)
            rw [HA.out]
            have t4 : ((x.size : Int) == 4) = true := by rw [beq_iff_eq]; omega
            clear h4
            go_wp2_with fail
            go_meet
            exact ⟨by simp, rfl⟩
          · have t4 : ((x.size : Int) == 4) = false := by rw [beq_eq_false_iff_ne]; omega
            by_cases h16 : x.size = 16
            · have HA : Hid (isAddr x.size = true) := Lib.hid (by rw [h16]; rfl)
              rw [HA.out]
              have t16 : ((x.size : Int) == 16) = true := by rw [beq_iff_eq]; omega
              clear h4 h16
              go_wp2_with fail
              go_meet
              exact ⟨by simp, rfl⟩
            · have HA : Hid (isAddr x.size = false) := Lib.hid (by rw [Bool.eq_false_iff]; intro h; simp [isAddr] at h; omega)
              rw [HA.out]
              have t16 : ((x.size : Int) == 16) = false := by rw [beq_eq_false_iff_ne]; omega
              clear h4 h16
              go_wp2_with fail
              go_meet
              exact ⟨by simp, rfl⟩
        case rest =>
          obtain ⟨rfl, rfl⟩ := hcut
          rcases HIS.out with ⟨hi, rfl, j, rfl, hj, hA, hC⟩ | ⟨hi, rfl, rfl⟩
          · rw [hi]
            have hl : x.data.toList.length = x.size := by simp
            have hCl : C.data.toList = cutL x.data.toList j := by rw [hC]
            have hCs : C.size = x.size := by rw [hC, mk_size, cutL_length, hl]
            have hx16 := isAddr_le hA
            have hbc := fun w => lbits_any C.data.toList w (by rw [hCl, cutL_length, hl]; exact hx16)
            have hbx := fun w => lbits_any x.data.toList w (by rw [hl]; exact hx16)
            rw [ba_eta] at hbc hbx
            rw [hCl] at hbc
            have hbits := bitsL_cutL x.data.toList j (by rw [hl]; exact hj)
            obtain ⟨S, eS⟩ : ∃ S : ByteArray, S = ⟨(signs (bitsL (cutL x.data.toList j))).toArray⟩ := ⟨_, rfl⟩
            obtain ⟨BX, eBX⟩ : ∃ BX : ByteArray, BX = ⟨(signs (bitsL x.data.toList)).toArray⟩ := ⟨_, rfl⟩
            have hSs : S.size = 8 * x.size := by rw [eS, mk_size, signs_length, bitsL_length, cutL_length, hl]
            have hXs : BX.size = 8 * x.size := by rw [eBX, mk_size, signs_length, bitsL_length, hl]
            have hE : BX.extract 0 j = S.extract 0 j := by
              apply ByteArray.ext; apply Array.toList_inj.1
              rw [eS, eBX]
              simp only [ByteArray.data_extract, Array.toList_extract, List.extract_eq_take_drop, List.drop_zero, Nat.sub_zero, signs_take]
              rw [cutL_bits_take _ _ (by rw [hl]; exact hj)]
            have h48 : ∀ i (h : i < S.size), j ≤ i → S[i] = 48 := by
              intro i h hji
              have e1 : S.data.toList[i]? = some 48 := by
                rw [eS]
                show (signs (bitsL (cutL x.data.toList j)))[i]? = some 48
                rw [hbits, signs, List.map_append, List.getElem?_append_right (by simp [bitsL_length]; omega), List.map_replicate, List.getElem?_replicate_of_lt (by simp [bitsL_length]; omega)]
                rfl
              obtain ⟨h2, e2⟩ := List.getElem?_eq_some_iff.1 e1
              rw [← e2]; rfl
            rw [← eS] at hbc
            rw [← eBX] at hbx
            have HBC := Lib.hid hbc
            have HBX := Lib.hid hbx
            have HSS := Lib.hid hSs
            have HXS := Lib.hid hXs
            have HE := Lib.hid hE
            have H48 := Lib.hid h48
            have HCS := Lib.hid hCs
            clear hbc hbx hSs hXs hE h48 hCs hbits eS eBX hCl hC hA hi hl
            go_wp2_with fail
            refine (HBC.out _).mono ?_
            rintro e w9 ⟨rfl, rfl⟩
            go_upto_region 14 with fail
            refine wp_region_goesG pfx_follows (fun x => by simp [putsF, Act.put]; rfl) wc.heap.size wc
              [isV (.pointer (some ⟨w8.heap.size, 1, none⟩)), isV (.int .i64 j), isV (.int .i64 j), isV (.bool false), isV (.bool false), isV (.pointer (some ⟨w8.heap.size, 0, none⟩)), isV (.string C), isV (.int .i64 x.size), isV (.string x), isV (.int .i64 x.size), isV (.bool false), isV (.bool false), isV (.bool false),
                isV (.string S), isV (.int .i64 j), isV (.string (S.extract 0 j)), isV (.string x), isV (.string BX), isV (.int .i64 j), isV (.string (S.extract 0 j)), isV (.bool false), isV (.bool false)]
              (by kernel_rfl) (by kernel_rfl) (by kernel_rfl) rfl ?_ (Below.refl _ _) ?_ ?_
            · repeat (first | exact trivial | refine ⟨isV_stays _, ?_⟩)
            · refine ⟨?_, ?_, ?_, ?_, ?_, ?_, ?_, ?_, ?_, ?_, ?_, ?_, ?_, ?_, ?_, ?_, ?_, ?_, ?_, ?_, ?_, ?_, trivial⟩
              all_goals
                intro y wx hR hd
                simp at hd ⊢
              all_goals try simp [hd]
              all_goals try (go_simp; exact next_same _ rfl rfl hR)
              all_goals
                have a0 := (hR.cell (p := ⟨w8.heap.size, 0, none⟩) hzW).trans c0
                have a1 := (hR.cell (p := ⟨w8.heap.size, 1, none⟩) hzW).trans c1
                have hk0 : (0 : Int) ≤ (j : Int) := by omega
                try obtain ⟨hd0, hd1⟩ := hd
              · go_simp
                exact next_same _ rfl rfl hR
              · go_simp
                exact next_same _ rfl rfl hR
              · have hcs := HCS.out
                go_simp
                exact next_same _ rfl rfl hR
              · have hkB : (j : Int) ≤ S.size := by rw [HSS.out]; omega
                go_simp
                exact next_same _ rfl rfl hR
              · go_simp
                go_at_call 18
                refine (HBX.out _).mono ?_
                rintro e wy ⟨rfl, rfl⟩
                exact next_same _ rfl rfl hR
              · have hkB : (j : Int) ≤ BX.size := by rw [HXS.out]; omega
                have he := HE.out
                go_simp
                exact next_same _ rfl rfl hR
            intro y wy hby hx
            simp [AllWords] at hx ⊢
            have hx21 : y 21 = .bool false := by simp [hx]
            clear hx
            rw [hx21]
            have hBy := hbW.trans (hby.mono hbW.size)
            have hjS : j ≤ S.size := by rw [HSS.out]; exact hj
            have hS128 : S.size ≤ 128 := by rw [HSS.out]; omega
            clear c0 c1 hby
            go_wp2_with fail
            go_loopw [15] (fun v wz => ∃ i : Nat, j ≤ i ∧ i ≤ S.size ∧ v = .int .i64 i ∧ wz = wy) (fun v _ => S.size - (intOf v).toNat)
            case atStart => exact ⟨j, Nat.le_refl _, hjS, rfl, rfl⟩
            case round =>
              obtain ⟨i, hji, hi, rfl, rfl⟩ := hrel
              by_cases hlt : i < S.size
              · have hq := H48.out i hlt hji
                have hlt' : (i : Int) < S.size := by omega
                go_wp2_with fail
                go_roundw
                case rel => exact ⟨i + 1, by omega, by omega, by go_num, trivial⟩
                case measure => simp [intOf]; omega
              · go_wp2_with fail
                go_roundw
                case rel => exact ⟨k + 1, by omega, by go_num, hBy⟩
                case measure => simp [intOf]; omega
          · rw [hi]
            have c0' := c0
            clear hi
            go_wp2_with fail
            go_roundw
            case rel => exact ⟨k + 1, by omega, by go_num, hbW⟩
            case measure => simp [intOf]; omega
    · obtain rfl : k = 2 := by omega
      go_wp2_with fail
      go_ret
      exact ⟨rfl, hBr⟩
end Go.Proofs.Ytioichenjoeonaa
