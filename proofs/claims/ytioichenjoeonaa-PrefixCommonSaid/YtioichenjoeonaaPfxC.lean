/- The contract of Back. -/
import Derived.Test.YtioichenjoeonaaPfxB
import Derived.Test.YtioichenjoeonaaPfx2
namespace Go.Proofs.Ytioichenjoeonaa
open Go.RowKit
set_option linter.unusedVariables false
theorem or_val (c e : Nat) (hc : c < 256) : Value.int .u8 (bits BinOp.or .u8 (c : Int) (128 / 2 ^ e)) = bv (UInt8.ofNat (c ||| 128 / 2 ^ e)) := by
  have h1 : 128 / 2 ^ e ≤ 128 := Nat.div_le_self _ _
  have h2 : c ||| 128 / 2 ^ e < 256 := Nat.or_lt_two_pow (n := 8) hc (by omega)
  rw [show (128 : Int) / 2 ^ e = ((128 / 2 ^ e : Nat) : Int) by simp, u8_or_nat _ _ hc (by omega)]
  unfold bv
  rw [UInt8.toNat_ofNat_of_lt' h2]
def backB (key : List UInt8) (size : Int) : Bool := (size == 4 || size == 16) && decide ((key.length : Int) ≤ 8 * size) && key.all okKey
def backV (key : List UInt8) (size : Int) : Value :=
  if backB key size then .tuple #[.agg #[.string ⟨(unbits (fillB key size.toNat key.length)).toArray⟩, .int .i64 (key.length : Nat)], .bool true] else .tuple #[noPrefix, .bool false]
set_option maxHeartbeats 1600000 in
theorem back_any (key : ByteArray) (size : Int) (w : World) (hs : key.size ≤ 140737488355328) (hlo : -9223372036854775808 ≤ size) (hhi : size ≤ 9223372036854775807) :
    Calls Try.prog 22 #[.string key, .int .i64 size] w fun e w' => e = .returned (backV key.data.toList size) ∧ Below w.heap.size w w' := by
  obtain ⟨i0, hi, hi0, hi1, hi2⟩ := info_parts pfx_info
  have hkl : key.data.toList.length = key.size := by simp
  by_cases hsz : size = 4 ∨ size = 16
  · by_cases hl : (key.size : Int) ≤ 8 * size
    · obtain ⟨n, rfl⟩ := Int.eq_ofNat_of_zero_le (show 0 ≤ size by omega)
      have hn16 : n = 4 ∨ n = 16 := by omega
      have hn2 : n ≤ 16 := by omega
      have hkn : key.size ≤ 8 * n := by omega
      have hbk : backB key.data.toList n = key.data.toList.all okKey := by
        unfold backB
        rw [hkl, decide_eq_true hl]
        rcases hn16 with rfl | rfl <;> rfl
      have HV : Hid (backV key.data.toList n = if key.data.toList.all okKey then .tuple #[.agg #[.string ⟨(unbits (fillB key.data.toList n key.size)).toArray⟩, .int .i64 (key.size : Nat)], .bool true] else .tuple #[noPrefix, .bool false]) := Lib.hid (by
        unfold backV; rw [hbk, hkl]; rfl)
      have t4 : ((n : Int) != 4) = !(n == 4) := by rcases hn16 with rfl | rfl <;> rfl
      have HKL := Lib.hid hkl
      clear hbk hkl hlo hhi hsz hl t4
      have hgo : ∀ (Q : Ending → World → Prop), (∀ w', Below w.heap.size w w' → Q (.returned (backV key.data.toList n)) w') → Calls Try.prog 22 #[.string key, .int .i64 n] w Q := by
        intro Q hQ
        have HQ := Lib.hid hQ
        clear hQ
        go_enter Try.func22, Try.ntmps22
        go_upto_region 1 with fail
        obtain ⟨W, hW⟩ : ∃ W, W = w.alloc (.cells #[.string ⟨#[]⟩, .int .i64 0] 27) := ⟨_, rfl⟩
        have hbW : Below w.heap.size w W := by rw [hW]; exact (Below.refl _ _).alloc (Nat.le_refl _) _
        have hzW : W.heap.size = w.heap.size + 1 := by rw [hW]; simp
        have hcW : ∀ j u, j < 2 → (#[Value.string ⟨#[]⟩, .int .i64 0])[j]? = some u → W.cell? ⟨w.heap.size, j, none⟩ = some u ∧ W.frozen? ⟨w.heap.size, j, none⟩ = false := by
          intro j u hj hu
          rw [hW]
          exact ⟨by simpa using hu, by simp⟩
        have HCW := Lib.hid hcW
        rw [← hW]
        clear hW hcW
        go_cut [20] (fun v wc => v = .bool false ∧ wc = W)
        case first =>
          rcases hn16 with rfl | rfl
          all_goals
            go_wp2_with fail
            go_meet
            exact ⟨by rw [decide_eq_false (by omega)], rfl⟩
        case rest =>
          obtain ⟨rfl, rfl⟩ := hcut
          go_wp2_with (first
            | (at_make; refine wpList_make_full _ rfl _ _ 22 rfl (w.heap.size + 1) 5 i0 (.int .u8 0) 1 Try.underlying22 hi hi0 hi1 _ _ _ _ n rfl rfl (by omega) (by omega) (by rw [hi2]; omega) (by unfold maxLen; omega) (by omega) ?_; intro w2 hown2 hg2))
          rw [show (madeCells (Value.int .u8 0).cells (n * 1)).toList = (List.replicate n (0 : UInt8)).map bv by rw [Nat.mul_one, List.map_replicate]; exact toList_madeCells_one _ _] at hown2
          have hob := OB.of_own hown2 (below_grown_none (Below.refl _ _) hg2 (by omega)) (by have := hg2.size; omega)
          rw [hzW] at hob
          clear hown2 hg2
          go_loopw [26] (fun i wr => ∃ k : Nat, k ≤ key.size ∧ i = .int .i64 k ∧ Hid ((key.data.toList.take k).all okKey = true) ∧ OB (w.heap.size + 1) wc (.slice (some ⟨w.heap.size + 1, 0, none⟩) n n) n ((unbits (fillB key.data.toList n k)).map bv) wr) (fun i _ => key.size - (intOf i).toNat)
          case atStart => exact ⟨0, Nat.zero_le _, rfl, Lib.hid (by simp), by rw [fillB_zero]; exact hob⟩
          case round =>
            obtain ⟨k, hk, rfl, hok, hb⟩ := hrel
            have hbel := hbW.trans (hb.bel.mono (by omega))
            have hcell1 := (hb.bel.cell (p := ⟨w.heap.size, 0, none⟩) (by show w.heap.size < _; omega)).trans (HCW.out 0 _ (by omega) rfl).1
            have hcell2 := (hb.bel.cell (p := ⟨w.heap.size, 1, none⟩) (by show w.heap.size < _; omega)).trans (HCW.out 1 _ (by omega) rfl).1
            have hfr1 := (hb.bel.frozen (p := ⟨w.heap.size, 0, none⟩) (by show w.heap.size < _; omega)).trans (HCW.out 0 _ (by omega) rfl).2
            have hfr2 := (hb.bel.frozen (p := ⟨w.heap.size, 1, none⟩) (by show w.heap.size < _; omega)).trans (HCW.out 1 _ (by omega) rfl).2
            by_cases hlt : k < key.size
            · have hkk : k < key.data.toList.length := by rw [HKL.out]; exact hlt
              have hsnoc : (key.data.toList.take (k + 1)).all okKey = ((key.data.toList.take k).all okKey && okKey key[k]) := by
                rw [List.take_succ_eq_append_getElem hkk, List.all_append]
                simp [toList_get key k hlt]
              have hall : okKey key[k] = false → key.data.toList.all okKey = false := by
                intro h
                rw [Bool.eq_false_iff]
                intro h2
                have := List.all_eq_true.1 h2 key[k] (by rw [← toList_get key k hlt]; exact List.getElem_mem hkk)
                rw [h] at this; cases this
              have hsame := fillB_same key.data.toList n k hkk (by rw [HKL.out]; exact hkn)
              have hor := fillB_or key.data.toList n k hkk (by rw [HKL.out]; exact hkn)
              rw [toList_get key k hlt] at hsame hor
              have hul : (unbits (fillB key.data.toList n k)).length = n := (bitsL_unbits n _ (fillB_length key.data.toList n k (by omega) (by rw [HKL.out]; exact hkn))).2
              have hkn8 : k / 8 < n := by omega
              have hlt' : (k : Int) < key.size := by omega
              by_cases h0 : key[k] = 48
              · have hn9 : key[k] ≠ 49 := by rw [h0]; decide
                have HS := Lib.hid (hsame hn9)
                rw [h0, hok.out] at hsnoc
                have HO : Hid ((key.data.toList.take (k + 1)).all okKey = true) := Lib.hid (by rw [hsnoc]; rfl)
                have t48 : (((key[k]).toNat : Int) == 48) = true := by rw [h0]; rfl
                clear hsnoc hall hsame hor hul hn9 h0 hcell1 hcell2 hfr1 hfr2
                go_wp2_with fail
                go_roundw
                case rel => exact ⟨k + 1, by omega, by go_num, HO, by rw [← HS.out]; exact hb⟩
                case measure => simp [intOf]; omega
              · by_cases h1 : key[k] = 49
                · have hor := hor h1 (by rw [hul]; exact hkn8)
                  rw [h1, hok.out] at hsnoc
                  have HO : Hid ((key.data.toList.take (k + 1)).all okKey = true) := Lib.hid (by rw [hsnoc]; rfl)
                  have t48 : (((key[k]).toNat : Int) == 48) = false := by rw [h1]; rfl
                  have t49 : (((key[k]).toNat : Int) == 49) = true := by rw [h1]; rfl
                  obtain ⟨old, hold⟩ : ∃ old, (unbits (fillB key.data.toList n k))[k / 8]? = some old := ⟨_, List.getElem?_eq_getElem (by rw [hul]; exact hkn8)⟩
                  obtain ⟨hx, hold'⟩ := List.getElem?_eq_some_iff.1 hold
                  rw [hold'] at hor
                  have hcell := hb.cell (k / 8) (bv old) (by rw [List.getElem?_map, hold]; rfl)
                  have hfrz := hb.frozen (k / 8) hkn8
                  have hb2 := hb.set (k / 8) hkn8 (bv (UInt8.ofNat (old.toNat ||| 128 / 2 ^ (k % 8))))
                  rw [← List.map_set, hor] at hb2
                  simp only [bv] at hcell
                  have h8 := UInt8.toNat_lt old
                  have HOR := Lib.hid (or_val old.toNat (k % 8) h8)
                  have HB2 := Lib.hid hb2
                  have hk8' : (k : Int) / 8 < n := by omega
                  have hk8'' : ((k : Int) / 8).toNat = k / 8 := by omega
                  have hm8 : (k : Int).tmod 8 = (k : Int) % 8 := Int.tmod_eq_emod_of_nonneg (by omega)
                  have hm9 : ((k : Int) % 8).toNat = k % 8 := by omega
                  have hm10 : (k : Int).tdiv 8 = (k : Int) / 8 := Int.tdiv_eq_ediv_of_nonneg (by omega)
                  have hw1 : IntKind.i64.wrap ((k : Int) / 8) = (k : Int) / 8 := IntWalk.i64_in _ (by omega)
                  have hw2 : IntKind.i64.wrap ((k : Int) % 8) = (k : Int) % 8 := IntWalk.i64_in _ (by omega)
                  have hw3 : 0 ≤ (k : Int) / 8 := by omega
                  have hw4 : 0 ≤ (k : Int) % 8 := by omega
                  generalize old.toNat = o8 at *
                  clear hsnoc hall hsame hor hul h0 h1 hcell1 hcell2 hfr1 hfr2 hold hold' hx hb2
                  go_upto_region 11 with fail
                  go_still_tail 10, (by kernel_rfl)
                  change wpList _ _ _ _ _ wr.drew
                  have hcell2 : wr.drew.cell? ⟨w.heap.size + 1, k / 8, none⟩ = some (.int .u8 (o8 : Int)) := hcell
                  have hfrz2 : wr.drew.frozen? ⟨w.heap.size + 1, k / 8, none⟩ = false := hfrz
                  clear hcell hfrz
                  go_wp2_with fail
                  rw [HOR.out]
                  go_roundw
                  case rel => exact ⟨k + 1, by omega, by go_num, HO, HB2.out.drew⟩
                  case measure => simp [intOf]; omega
                · have hbad : okKey key[k] = false := by simp [okKey, h0, h1]
                  have hall := hall hbad
                  have hv := HV.out
                  rw [hall, if_neg (by simp)] at hv
                  have t48 : (((key[k]).toNat : Int) == 48) = false := by
                    rw [beq_eq_false_iff_ne]; intro e; apply h0; apply UInt8.toNat_inj.1; exact Int.ofNat.inj e
                  have t49 : (((key[k]).toNat : Int) == 49) = false := by
                    rw [beq_eq_false_iff_ne]; intro e; apply h1; apply UInt8.toNat_inj.1; exact Int.ofNat.inj e
                  have hq := HQ.out
                  rw [hv] at hq
                  have HQ2 := Lib.hid hq
                  clear hsnoc hall hsame hor hul h0 h1 hbad hv hq
                  go_wp2_with fail
                  refine bodyPost_ret (v := .tuple #[noPrefix, .bool false]) (by simp [results, Try.results22, go_sem, noPrefix, hcell1, hcell2]) rfl (HQ2.out _ ?_)
                  exact (hbel.setCell (Nat.le_refl _) _).setCell (Nat.le_refl _) _
            · obtain rfl : k = key.size := by omega
              have hall := hok.out
              rw [List.take_of_length_le (by rw [HKL.out]; omega)] at hall
              have hv := HV.out
              rw [hall, if_pos rfl] at hv
              have hst := run_string_of (P := Try.prog) wr 22 9 5 _ _ n (unbits (fillB key.data.toList n key.size)) Try.underlying22 Try.underlying5 Try.underlying9 hb.sl (by intro h; cases h) n
              obtain ⟨C, eC⟩ : ∃ C : ByteArray, C = ⟨(unbits (fillB key.data.toList n key.size)).toArray⟩ := ⟨_, rfl⟩
              rw [← eC] at hst hv
              have hq := HQ.out
              rw [hv] at hq
              have HQ2 := Lib.hid hq
              clear hall hv hq eC hb
              go_wp2_with fail
              refine bodyPost_ret (v := .tuple #[.agg #[.string C, .int .i64 (key.size : Nat)], .bool true]) (by simp [results, Try.results22, go_sem, hcell1, hcell2]) rfl (HQ2.out _ ?_)
              exact (hbel.setCell (Nat.le_refl _) _).setCell (Nat.le_refl _) _
      exact hgo _ fun w' hb => ⟨rfl, hb⟩
    · have hv : backV key.data.toList size = .tuple #[noPrefix, .bool false] := by
        unfold backV backB
        rw [hkl, decide_eq_false hl]
        simp
      have HV := Lib.hid hv
      clear hv hkl
      rcases hsz with rfl | rfl
      all_goals
        have hl' : ¬ (key.size : Int) ≤ 8 * 16 ∨ True := .inr trivial
        clear hl'
        go_enter Try.func22, Try.ntmps22
        go_wp2_with fail
        refine bodyPost_ret (v := .tuple #[noPrefix, .bool false]) (by simp [results, Try.results22, go_sem, noPrefix]) rfl ⟨by rw [HV.out], (Below.refl _ _).alloc (Nat.le_refl _) _⟩
  · have hv : backV key.data.toList size = .tuple #[noPrefix, .bool false] := by
      unfold backV backB
      rw [show (size == 4 || size == 16) = false by simp; omega]
      simp
    have HV := Lib.hid hv
    have h4 : (size != 4) = true := by simp; omega
    have h16 : (size != 16) = true := by simp; omega
    clear hv hkl hsz
    go_enter Try.func22, Try.ntmps22
    go_wp2_with fail
    refine bodyPost_ret (v := .tuple #[noPrefix, .bool false]) (by simp [results, Try.results22, go_sem, noPrefix]) rfl ⟨by rw [HV.out], (Below.refl _ _).alloc (Nat.le_refl _) _⟩
end Go.Proofs.Ytioichenjoeonaa
