/- The document's examples of layer 12, and the walks of PrefixBack and PrefixKey. -/
import Derived.Test.YtioichenjoeonaaLawPfx
namespace Go.Proofs.Ytioichenjoeonaa
open Go.RowKit
set_option linter.unusedVariables false

theorem awake12_any (w : World) : Calls Try.prog 14 #[] w fun e w' => e = .returned (.bool true) ∧ Below w.heap.size w w' := by
  have h1 := pcut_yes [192, 0, 2, 7] 24 w (by decide) (by decide)
  rw [show cutL [192, 0, 2, 7] 24 = [192, 0, 2, 0] by decide] at h1
  have H1 := Lib.hid h1
  have h2 := fun w => key_yes [160, 0, 0, 0] 3 w (by decide +kernel)
  rw [show signs ((bitsL [160, 0, 0, 0]).take 3) = [49, 48, 49] by decide] at h2
  have H2 := Lib.hid h2
  clear h1 h2
  go_enter Try.func14, Try.ntmps14
  go_wp2_with fail
  refine H1.out.mono ?_
  rintro e w1 ⟨rfl, hb⟩
  have hz := hb.size
  go_wp2_with fail
  refine (H2.out _).mono ?_
  rintro e w2 ⟨rfl, hb2⟩
  have hbel := below_alloc _ hb hz hb2
  go_wp2_with fail
  go_ret
  exact ⟨rfl, hbel⟩
theorem fill_facts (key : List UInt8) (n : Nat) (hn : isAddr n = true) (hk : key.length ≤ 8 * n) (hok : key.all okKey = true) :
    (unbits (fillB key n key.length)).length = n ∧ hasB ⟨(unbits (fillB key n key.length)).toArray⟩ key.length ⟨(unbits (fillB key n key.length)).toArray⟩ = true ∧
    signs ((bitsL (unbits (fillB key n key.length))).take key.length) = key := by
  have hfl := fillB_length key n key.length (Nat.le_refl _) hk
  obtain ⟨hb, hl⟩ := bitsL_unbits n _ hfl
  have hfill : fillB key n key.length = key.map (· == 49) ++ List.replicate (8 * n - key.length) false := by
    unfold fillB; rw [List.take_of_length_le (by simp)]
  have hml : (key.map (· == 49)).length = key.length := by simp
  have hcut : cutL (unbits (fillB key n key.length)) key.length = unbits (fillB key n key.length) := by
    have := cutL_zeros (unbits (fillB key n key.length)) (key.map (· == 49)) (by rw [hb, hl, hml, hfill]) (by rw [hl, hml]; exact hk)
    rwa [hml] at this
  refine ⟨hl, ?_, ?_⟩
  · unfold hasB isCut
    rw [mk_size, hl, hn]
    simp only [Int.toNat_natCast, Bool.true_and, Bool.and_eq_true, decide_eq_true_eq, beq_iff_eq]
    exact ⟨⟨by omega, by omega⟩, hcut⟩
  · rw [hb, hfill, List.take_left' hml, okKey_signs key hok]

set_option maxHeartbeats 1600000 in
theorem prefixBack_walk (w : World) (key : ByteArray) (hs : key.size ≤ 140737488351232) (size : Int) (hsz : (Lit.int .i64 size).wf = true) :
    Calls Try.prog 7 #[.string key, .int .i64 size] w fun e w' => e = .returned (.bool true) ∧ Below w.heap.size w w' := by
  have hb64 := bounds_i64 hsz
  have hback := fun w => back_any key size w (by omega) hb64.1 hb64.2
  have HBK := Lib.hid hback
  have hkl : key.data.toList.length = key.size := by simp
  have HKL := Lib.hid hkl
  clear hback hsz hkl
  obtain ⟨base, hbase⟩ : ∃ base : Bool, base = ((size == 4 || size == 16) && decide ((key.size : Int) ≤ 8 * size)) := ⟨_, rfl⟩
  have hB : backB key.data.toList size = (base && key.data.toList.all okKey) := by unfold backB; rw [HKL.out, hbase]
  have HB := Lib.hid hB
  have HBASE := Lib.hid hbase
  clear hB hbase
  go_enter Try.func7, Try.ntmps7
  go_wp2_with fail
  refine (awake12_any _).mono ?_
  rintro e w1 ⟨rfl, hb1⟩
  go_wp2_with fail
  refine (HBK.out _).mono ?_
  rintro e w2 ⟨rfl, hb2⟩
  have hB2 := below_trans hb1 hb1.size hb2
  obtain ⟨P, ok, hP⟩ : ∃ P ok, backV key.data.toList size = .tuple #[P, .bool ok] := by
    unfold backV; split <;> exact ⟨_, _, rfl⟩
  obtain ⟨pa, pn, hPa⟩ : ∃ pa pn, P = .agg #[.string pa, .int .i64 pn] := by
    unfold backV at hP; split at hP <;> (injection hP with hP; injection hP with hP; injection hP with hP _; exact ⟨_, _, hP.symm⟩)
  subst hPa
  have HP := Lib.hid hP
  rw [hP]
  clear hb2 hP
  go_upto_region 4 with fail
  obtain ⟨W, hW⟩ : ∃ W, W = w2.alloc (.cells #[.string pa, .int .i64 pn] 27) := ⟨_, rfl⟩
  have hBW : Below w.heap.size w W := by rw [hW]; exact hB2.alloc hB2.size _
  have c0 : W.cell? ⟨w2.heap.size, 0, none⟩ = some (.string pa) := by rw [hW]; simp
  have c1 : W.cell? ⟨w2.heap.size, 1, none⟩ = some (.int .i64 pn) := by rw [hW]; simp
  have hzW := hBW.size
  rw [← hW]
  clear hW
  go_cut [7] (fun v wc => v = .bool base ∧ wc = W)
  case first =>
    by_cases h4 : size = 4
    · subst h4
      have hbase := HBASE.out
      clear HBK HB
      go_wp2_with fail
      go_meet
      exact ⟨by rw [hbase]; rfl, rfl⟩
    · by_cases h16 : size = 16
      · subst h16
        have hbase := HBASE.out
        clear HBK HB
        go_wp2_with fail
        go_meet
        exact ⟨by rw [hbase]; rfl, rfl⟩
      · have hbase := HBASE.out
        have t4 : (size == 4) = false := by simpa using h4
        have t16 : (size == 16) = false := by simpa using h16
        rw [t4, t16] at hbase
        have HBF : Hid (base = false) := Lib.hid (by rw [hbase]; rfl)
        clear hbase h4 h16
        go_wp2_with fail
        go_meet
        exact ⟨by rw [HBF.out], rfl⟩
  case rest =>
    obtain ⟨rfl, rfl⟩ := hcut
    go_wp2_with fail
    go_loop [7, 8] (fun v i => ∃ k : Nat, k ≤ key.size ∧ i = .int .i64 k ∧ v = .bool (base && (key.data.toList.take k).all okKey)) (fun _ i => key.size - (intOf i).toNat)
    case atStart => exact ⟨0, Nat.zero_le _, rfl, by simp⟩
    case round =>
      obtain ⟨k, hk, rfl, rfl⟩ := hrel
      by_cases hlt : k < key.size
      · have hkk : k < key.data.toList.length := by rw [HKL.out]; exact hlt
        have hsnoc : (base && (key.data.toList.take (k + 1)).all okKey) = ((base && (key.data.toList.take k).all okKey) && okKey (key[k]'hlt)) := by
          rw [List.take_succ_eq_append_getElem hkk, List.all_append, ← Bool.and_assoc]
          simp [toList_get key k hlt]
        have hlt' : (k : Int) < key.size := by omega
        obtain ⟨bc, hbc⟩ : ∃ bc, (base && (key.data.toList.take k).all okKey) = bc := ⟨_, rfl⟩
        rw [hbc] at hsnoc ⊢
        have HSN := Lib.hid hsnoc
        clear hsnoc hkk hbc
        cases bc with
        | false =>
          go_wp2_with fail
          go_round
          case rel => exact ⟨k + 1, by omega, by go_num, by rw [HSN.out]; rfl⟩
          case measure => simp [intOf]; omega
        | true =>
          by_cases h0 : key[k] = 48
          · have t48 : (((key[k]).toNat : Int) == 48) = true := by rw [h0]; rfl
            have HN : Hid ((base && (key.data.toList.take (k + 1)).all okKey) = true) := Lib.hid (by rw [HSN.out, h0]; rfl)
            clear h0
            go_wp2_with fail
            go_round
            case rel => exact ⟨k + 1, by omega, by go_num, by rw [HN.out]⟩
            case measure => simp [intOf]; omega
          · by_cases h1 : key[k] = 49
            · have t48 : (((key[k]).toNat : Int) == 48) = false := by rw [h1]; rfl
              have t49 : (((key[k]).toNat : Int) == 49) = true := by rw [h1]; rfl
              have HN : Hid ((base && (key.data.toList.take (k + 1)).all okKey) = true) := Lib.hid (by rw [HSN.out, h1]; rfl)
              clear h0 h1
              go_wp2_with fail
              go_round
              case rel => exact ⟨k + 1, by omega, by go_num, by rw [HN.out]⟩
              case measure => simp [intOf]; omega
            · have t48 : (((key[k]).toNat : Int) == 48) = false := by
                rw [beq_eq_false_iff_ne]; intro e; apply h0; apply UInt8.toNat_inj.1; exact Int.ofNat.inj e
              have t49 : (((key[k]).toNat : Int) == 49) = false := by
                rw [beq_eq_false_iff_ne]; intro e; apply h1; apply UInt8.toNat_inj.1; exact Int.ofNat.inj e
              have HN : Hid ((base && (key.data.toList.take (k + 1)).all okKey) = false) := Lib.hid (by rw [HSN.out]; simp [okKey, h0, h1])
              clear h0 h1
              go_wp2_with fail
              go_round
              case rel => exact ⟨k + 1, by omega, by go_num, by rw [HN.out]⟩
              case measure => simp [intOf]; omega
      · obtain rfl : k = key.size := by omega
        have hall : (base && (key.data.toList.take key.size).all okKey) = backB key.data.toList size := by
          rw [HB.out, List.take_of_length_le (by rw [HKL.out]; exact Nat.le_refl _)]
        rw [hall]
        clear hall
        cases hbb : backB key.data.toList size with
        | false =>
          have hp := HP.out
          unfold backV at hp
          rw [hbb, if_neg (by simp)] at hp
          unfold noPrefix at hp
          simp at hp
          obtain ⟨⟨rfl, rfl⟩, rfl⟩ := hp
          clear hbb
          go_wp2_with fail
          go_ret
          exact ⟨rfl, hBW⟩
        | true =>
          have hp := HP.out
          unfold backV at hp
          rw [hbb, if_pos rfl] at hp
          simp only [Value.tuple.injEq, Array.mk.injEq, List.cons.injEq, Value.agg.injEq, Value.string.injEq, Value.int.injEq, Value.bool.injEq, and_true, true_and] at hp
          obtain ⟨⟨hpa, hpn⟩, hok⟩ := hp
          subst hok
          rw [HKL.out] at hpa hpn
          subst hpn
          have hb2 := hbb
          unfold backB at hb2
          simp only [Bool.and_eq_true, decide_eq_true_eq] at hb2
          obtain ⟨⟨h416, hle⟩, hall⟩ := hb2
          rw [HKL.out] at hle
          obtain ⟨n, rfl⟩ := Int.eq_ofNat_of_zero_le (show 0 ≤ size by simp at h416; omega)
          have hnA : isAddr n = true := by simp [isAddr] at h416 ⊢; omega
          obtain ⟨f1, f2, f3⟩ := fill_facts key.data.toList n hnA (by rw [HKL.out]; omega) hall
          rw [HKL.out] at f1 f2 f3
          simp only [Int.toNat_natCast] at hpa
          rw [hpa] at f2
          have hkey := fun w => key_yes (unbits (fillB key.data.toList n key.size)) key.size w (by rw [hpa]; exact f2)
          rw [f3, hpa, ba_eta] at hkey
          have hmay := fun w => may_any pa key.size w (by rw [← hpa, mk_size, f1]; have := isAddr_le hnA; omega)
          rw [f2] at hmay
          have hsz : pa.size = n := by rw [← hpa, mk_size, f1]
          have HKEY := Lib.hid hkey
          have HMAY := Lib.hid hmay
          have hsz1 : (pa.size : Int) = n := by omega
          have HSZ := Lib.hid hsz
          clear hbb hpa h416 hle hall hnA f1 f2 f3 hkey hmay hsz HB HBASE HBK HP
          go_wp2_with fail
          refine (HMAY.out _).mono ?_
          rintro e w3 ⟨rfl, hb3⟩
          have hB3 := hBW.trans (hb3.mono hzW)
          have hwc : w2.heap.size < wc.heap.size := World.block_lt_of_cell? wc _ c0
          have d0 := (hb3.cell (p := ⟨w2.heap.size, 0, none⟩) hwc).trans c0
          have d1 := (hb3.cell (p := ⟨w2.heap.size, 1, none⟩) hwc).trans c1
          have hz3 := hb3.size
          go_wp2_with fail
          refine (HKEY.out _).mono ?_
          rintro e w4 ⟨rfl, hb4⟩
          have hB4 := hB3.trans (hb4.mono hB3.size)
          have f0 := (hb4.cell (p := ⟨w2.heap.size, 0, none⟩) (by show w2.heap.size < _; omega)).trans d0
          go_wp2_with fail
          go_ret
          exact ⟨rfl, hB4⟩
end Go.Proofs.Ytioichenjoeonaa
