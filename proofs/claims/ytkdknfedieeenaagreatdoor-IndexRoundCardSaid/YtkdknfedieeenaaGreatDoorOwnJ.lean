/- slices.Concat of strings. -/
import Derived.Test.YtkdknfedieeenaaGreatDoorOwnH
import Derived.Lib.SliceRun
namespace Go.Proofs.YtkdknfedieeenaaGreatDoor
open Go.RowKit
set_option linter.unusedVariables false
set_option linter.unusedSimpArgs false
set_option maxRecDepth 20000
/-- A block of zeros that was just laid, of which nothing is used yet. -/
theorem OB.zeros (w : World) (cs : Array Value) (t : TypeId) (K : Nat) (hcs : cs.size = K) (hK : K ≤ maxLen) :
    OB w.heap.size w (.slice (some ⟨w.heap.size, 0, none⟩) 0 K) 0 [] (w.drew.alloc (.cells cs t)) := by
  refine ⟨((Below.refl w.heap.size w).drew).alloc (Nat.le_refl _) _, by simp, by simp, .inr ⟨w.heap.size, K, rfl, Nat.le_refl _, by simp, Nat.zero_le _, hK, fun j hj => ?_, fun j u hu => by simp at hu⟩⟩
  have hg : (w.drew.alloc (.cells cs t)).heap[w.heap.size]? = some (.cells cs t (0, 0)) := heap_alloc_new w.drew _
  refine ⟨?_, frozen_of_row _ _ j _ t hg⟩
  rw [cell_of_row _ _ j _ t (0, 0) hg, Array.getElem?_eq_getElem (by rw [hcs]; exact hj)]; rfl
set_option maxHeartbeats 800000 in
theorem growS_any (n : Nat) (w : World) (hn : n ≤ 1000000) :
    Calls Tryz.prog 131 #[.slice none 0 0, .int .i64 (n : Nat)] w fun e w' => ∃ v, e = .returned v ∧ OB w.heap.size w v 0 [] w' := by
  obtain ⟨i0, hi, hz0, hz1, hz2⟩ := info_parts str_info
  rcases Nat.eq_zero_or_pos n with rfl | hp
  · go_enter Tryz.func131, Tryz.ntmps131
    go_wp2_with fail
    go_ret
    exact ⟨_, rfl, OB.start w⟩
  · have hpi : (0 : Int) < n := by omega
    have hni : ¬ (n : Int) < 0 := by omega
    have hbig : n * i0.bytes ≤ 281474976710656 := by rw [hz2]; omega
    have hr := Lib.hid (Lib.run_append_nil_zeros (P := Tryz.prog) w 63 3 63 9 i0 _ .i64 .i64 (by kernel_rfl) Tryz.underlying3 hi hz0 n hp (by rw [hz1]; decide) (by omega) hbig)
    have hge := grownCap_ge w n 0 9
    have hcm := grownCap_le_maxLen w n 0 9 (by unfold maxLen; omega)
    obtain ⟨K, hK⟩ : ∃ K, grownCap w n 0 9 = K := ⟨_, rfl⟩
    rw [hK] at hr hge hcm
    obtain ⟨cs, hcs⟩ : ∃ cs, Builtin.zeroCells (Value.string ⟨#[]⟩).cells n ++ Builtin.zeroCells (Value.string ⟨#[]⟩).cells (K - n) = cs := ⟨_, rfl⟩
    have hsz : cs.size = K := by
      rw [← hcs, Array.size_append, size_zeroCells, size_zeroCells]
      show n * 1 + (K - n) * 1 = K
      omega
    rw [hcs] at hr
    have HS := Lib.hid (OB.zeros w cs 9 K hsz hcm)
    clear hK hcs hsz hz0 hz1 hz2 hbig
    go_enter Tryz.func131, Tryz.ntmps131
    go_wp2_with (at_builtin; go_loud (refine Lib.wpList_append_run _ rfl _ _ 63 3 rfl _ _ rfl rfl _ _ hr.out ?_))
    go_ret
    exact ⟨_, rfl, HS.out⟩
/-- A row of records among others. -/
abbrev RowS := Option Addr × Nat × Nat × List (List UInt8)
def rowSV (r : RowS) : Value := .slice r.1 r.2.1 r.2.2.1
structure RowSOk (w : World) (r : RowS) : Prop where
  sl : Sl w w.heap.size 1 r.1 r.2.1 (r.2.2.2.map sv)
  none_ : r.1 = none → r.2.1 = 0
  len : r.2.2.2.length = r.2.1
theorem RowSOk.below {w w' : World} {r : RowS} (h : RowSOk w r) (hb : Below w.heap.size w w') : RowSOk w' r := ⟨(h.sl.below hb).more hb.size, h.none_, h.len⟩
def allS (rows : List RowS) : List (List UInt8) := rows.flatMap (·.2.2.2)
theorem allS_snoc {rows : List RowS} {k : Nat} {r : RowS} (h : rows[k]? = some r) : allS (rows.take (k + 1)) = allS (rows.take k) ++ r.2.2.2 := by
  unfold allS; rw [List.take_add_one, h]; simp
theorem allS_le (rows : List RowS) (k : Nat) : (allS (rows.take k)).length ≤ (allS rows).length := by
  have h : allS rows = allS (rows.take k) ++ allS (rows.drop k) := by unfold allS; rw [← List.flatMap_append, List.take_append_drop]
  rw [h, List.length_append]; omega
set_option maxHeartbeats 1600000 in
theorem concatS_any (A : Option Addr) (n c : Nat) (rows : List RowS) (w : World) (h : Sl w w.heap.size 1 A n (rows.map rowSV)) (hn : n ≤ 1000000) (hok : ∀ r ∈ rows, RowSOk w r) (hs : (allS rows).length ≤ 1000000) :
    Calls Tryz.prog 102 #[.slice A n c] w fun e w' => ∃ v, e = .returned v ∧ OB w.heap.size w v (allS rows).length ((allS rows).map sv) w' := by
  have hl : rows.length = n := by simpa using h.1
  obtain ⟨i0, hi, hz0, hz1, hz2⟩ := info_parts str_info
  have H := Lib.hid h
  have HL := Lib.hid hl
  have HK := Lib.hid hok
  have HS := Lib.hid hs
  clear h hl hok hs
  go_enter Tryz.func102, Tryz.ntmps102
  go_wp2_with fail
  go_loop [3, 11] (fun s i => ∃ k m : Nat, k ≤ n ∧ i = .int .i64 k ∧ s = .int .i64 m ∧ Hid (m = (allS (rows.take k)).length) ∧ m ≤ 1000000) (fun _ i => n - (intOf i).toNat)
  case atStart => exact ⟨0, 0, Nat.zero_le _, rfl, rfl, Lib.hid (by simp [allS]), by omega⟩
  case round =>
    obtain ⟨k, m, hk, rfl, rfl, HM, hm⟩ := hrel
    by_cases hlt : k < n
    · have hlt' : (k : Int) < n := by omega
      obtain ⟨b, off, u, rfl, hb, hu, hc⟩ := H.out.at_ hlt
      obtain ⟨r, hr⟩ : ∃ x, rows[k]? = some x := ⟨_, List.getElem?_eq_getElem (by rw [HL.out]; exact hlt)⟩
      rw [List.getElem?_map, hr] at hu
      simp only [Option.map_some, Option.some.injEq] at hu
      subst hu
      unfold rowSV at hc
      have hlen := (HK.out r (List.mem_of_getElem? hr)).len
      obtain ⟨M, hM⟩ : ∃ M : Nat, M = m + r.2.1 := ⟨_, rfl⟩
      have HM2 : Hid (M = (allS (rows.take (k + 1))).length) := Lib.hid (by rw [allS_snoc hr, List.length_append, hM, HM.out, hlen])
      have hM6 : M ≤ 1000000 := by have := allS_le rows (k + 1); have := HS.out; have := HM2.out; omega
      have hsum : (m : Int) + (r.2.1 : Int) = (M : Int) := by omega
      have hMn : ¬ (M : Int) < 0 := by omega
      clear hr hlen hM
      go_wp2_with fail
      go_round
      case rel => exact ⟨k + 1, M, by omega, by go_num, rfl, HM2, hM6⟩
      case measure => simp [intOf]; omega
    · have hlt' : ¬ (k : Int) < n := by omega
      go_wp2_with fail
      refine (growS_any m w hm).mono ?_
      rintro e w1 ⟨v0, rfl, ho0⟩
      have HO0 := Lib.hid ho0
      clear ho0
      go_wp2_with fail
      go_loopw [6, 27] (fun v i wr => ∃ k : Nat, k ≤ n ∧ i = .int .i64 k ∧ Hid (OB w.heap.size w v (allS (rows.take k)).length ((allS (rows.take k)).map sv) wr)) (fun _ i _ => n - (intOf i).toNat)
      case atStart => exact ⟨0, Nat.zero_le _, rfl, Lib.hid (by simpa [allS] using HO0.out)⟩
      case round =>
        obtain ⟨k, hk, rfl, HB⟩ := hrel
        by_cases hlt : k < n
        · have hlt' : (k : Int) < n := by omega
          obtain ⟨b, off, u, rfl, hb, hu, hc⟩ := ((H.out.below HB.out.bel).more HB.out.bel.size).at_ hlt
          obtain ⟨r, hr⟩ : ∃ x, rows[k]? = some x := ⟨_, List.getElem?_eq_getElem (by rw [HL.out]; exact hlt)⟩
          rw [List.getElem?_map, hr] at hu
          simp only [Option.map_some, Option.some.injEq] at hu
          subst hu
          unfold rowSV at hc
          have hR := (HK.out r (List.mem_of_getElem? hr)).below HB.out.bel
          have hS := Lib.hid (Sl.src (P := Tryz.prog) (c := r.2.2.1) (tx := 63) (e' := 9) (by kernel_rfl) hR.sl hR.none_ (by intro u hu; obtain ⟨x, _, rfl⟩ := List.mem_map.1 hu; rfl))
          have HAS := Lib.hid (allS_snoc hr)
          have hlen := hR.len
          have hle := allS_le rows (k + 1)
          have hs := HS.out
          have HB3 : Hid ((allS (rows.take k)).length + r.2.1 ≤ 1000000) := Lib.hid (by rw [HAS.out, List.length_append, hlen] at hle; omega)
          have HLEN := Lib.hid hR.sl.1
          have HLN := Lib.hid hlen
          clear hr hR hlen hle hs
          go_wp2_with (at_builtin; go_loud (refine wpList_append_ob rfl _ _ 63 63 rfl 9 i0 _ 16 (by kernel_rfl) hi hz0 hz1 hz2 rfl HB.out rfl rfl hS.out (by have := HB3.out; unfold maxLen; omega) (by have := HB3.out; omega) ?_))
          intro v' w' q1 q2 q3 q4
          clear q2 q3 q4
          have Q1 := Lib.hid q1
          clear q1
          go_wp2_with fail
          go_round
          case rel => exact ⟨k + 1, by omega, by go_num, Lib.hid (by rw [HAS.out, List.map_append, List.length_append, HLN.out]; exact Q1.out)⟩
          case measure => simp [intOf]; omega
        · have hlt' : ¬ (k : Int) < n := by omega
          go_wp2_with fail
          go_ret
          have := HB.out
          rw [List.take_of_length_le (by rw [HL.out]; omega)] at this
          exact ⟨_, rfl, this⟩
end Go.Proofs.YtkdknfedieeenaaGreatDoor
