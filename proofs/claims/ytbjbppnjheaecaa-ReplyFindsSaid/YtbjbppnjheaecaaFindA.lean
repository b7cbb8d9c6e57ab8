/- The addresses and the names among records. -/
import Derived.Test.YtbjbppnjheaecaaViewR
import Derived.Test.YtbjbppnjheaecaaRecB
import Derived.Test.YtbjbppnjheaecaaNameB
import Derived.Test.YtbjbppnjheaecaaOb
import Derived.Outline
namespace Go.Proofs.Ytbjbppnjheaecaa
open Go.RowKit
set_option linter.unusedVariables false
set_option linter.unusedSimpArgs false
set_option maxRecDepth 20000
/-- Is it an address's record? -/
def adB (r : RecT) : Bool := (r.2.1 == 1 && ((r.2.2.2.size : Int) == 4)) || (r.2.1 == 28 && ((r.2.2.2.size : Int) == 16))
/-- Is it a record of a name that others are served by? -/
def nsB (r : RecT) : Bool := r.2.1 == 2 && (labelsOf r.2.2.2).isSome
def adsOf (rs : List RecT) : List ByteArray := (rs.filter adB).map fun r => r.2.2.2
theorem adsOf_next {rs : List RecT} {k : Nat} {r : RecT} (hr : rs[k]? = some r) : adsOf (rs.take (k + 1)) = if adB r then adsOf (rs.take k) ++ [r.2.2.2] else adsOf (rs.take k) := by
  unfold adsOf
  rw [List.take_add_one, hr]
  cases h : adB r <;> simp [List.filter_append, h]
theorem adsOf_le (rs : List RecT) (k : Nat) : (adsOf (rs.take k)).length ≤ k := by
  unfold adsOf
  rw [List.length_map]
  refine Nat.le_trans (List.length_filter_le _ _) ?_
  rw [List.length_take]; omega
def nssOf (rs : List RecT) : List ByteArray := (rs.filter nsB).map fun r => r.2.2.2
theorem nssOf_next {rs : List RecT} {k : Nat} {r : RecT} (hr : rs[k]? = some r) : nssOf (rs.take (k + 1)) = if nsB r then nssOf (rs.take k) ++ [r.2.2.2] else nssOf (rs.take k) := by
  unfold nssOf
  rw [List.take_add_one, hr]
  cases h : nsB r <;> simp [List.filter_append, h]
theorem nssOf_le (rs : List RecT) (k : Nat) : (nssOf (rs.take k)).length ≤ k := by
  unfold nssOf
  rw [List.length_map]
  refine Nat.le_trans (List.length_filter_le _ _) ?_
  rw [List.length_take]; omega
set_option maxHeartbeats 3200000 in
theorem addresses_any (A : Option Addr) (n c : Nat) (rs : List RecT) (w : World) (h : Recs w A rs) (hl : rs.length = n) (hn : n ≤ 3518437208780) (hd : ∀ r ∈ rs, r.2.2.2.size ≤ maxLen) :
    Calls Try.prog 17 #[.slice A n c] w fun e w' => ∃ v, e = .returned v ∧ OB w.heap.size w v (adsOf rs).length ((adsOf rs).map Value.string) w' := by
  obtain ⟨i0, hi, hz0, hz1, hz2⟩ := info_parts4 (show (Try.prog.info? 9).map (fun i => (i.zero, i.size, i.bytes)) = some (some (Value.string ⟨#[]⟩), 1, 16) by kernel_rfl)
  have H := Lib.hid h
  have HL := Lib.hid hl
  have HD := Lib.hid hd
  clear h hl hd
  go_enter Try.func17, Try.ntmps17
  go_wp2_with fail
  go_loopw [3, 8] (fun v i wr => ∃ k : Nat, k ≤ n ∧ i = .int .i64 k ∧ Hid (OB w.heap.size w v (adsOf (rs.take k)).length ((adsOf (rs.take k)).map Value.string) wr)) (fun _ i _ => n - (intOf i).toNat)
  case atStart => exact ⟨0, Nat.zero_le _, rfl, Lib.hid (by have := OB.start w; simpa [adsOf] using this)⟩
  case round =>
    obtain ⟨k, hk, rfl, HB⟩ := hrel
    by_cases hlt : k < n
    · have hlt' : (k : Int) < n := by omega
      obtain ⟨⟨x0, x1, x2, x3⟩, hr⟩ : ∃ r, rs[k]? = some r := ⟨_, List.getElem?_eq_getElem (by rw [HL.out]; omega)⟩
      obtain ⟨bb, off, rfl, hbb, g0, g1, g2, g3⟩ := (H.out.below HB.out.bel) k _ hr
      dsimp only at g0 g1 g2 g3
      have hnext := adsOf_next (rs := rs) hr
      have hlen : (adsOf (rs.take k)).length ≤ k := adsOf_le rs k
      obtain ⟨X', c', rfl, -, -, -⟩ := HB.out.slice
      generalize hpr : adsOf (rs.take k) = pr at *
      have HN := Lib.hid hnext
      have HLN := Lib.hid hlen
      have HM := Lib.hid (HD.out _ (List.mem_of_getElem? hr))
      clear hnext hlen hpr hr
      have hc : ((x1 == 1) = true ∧ ((x3.size : Int) == 4) = true) ∨ ((x1 == 1) = true ∧ ((x3.size : Int) == 4) = false ∧ (x1 == 28) = false) ∨ ((x1 == 1) = false ∧ (x1 == 28) = false) ∨ ((x1 == 1) = false ∧ (x1 == 28) = true ∧ ((x3.size : Int) == 16) = true) ∨ ((x1 == 1) = false ∧ (x1 == 28) = true ∧ ((x3.size : Int) == 16) = false) := by
        have h1 : (x1 == 1) = true → (x1 == 28) = false := by
          intro h
          rw [beq_iff_eq] at h
          rw [h]; rfl
        cases q1 : (x1 == 1) <;> cases q2 : ((x3.size : Int) == 4) <;> cases q3 : (x1 == 28) <;> cases q4 : ((x3.size : Int) == 16) <;> simp_all
      rcases hc with ⟨c1, c2⟩ | ⟨c1, c2, c3⟩ | ⟨c1, c3⟩ | ⟨c1, c3, c4⟩ | ⟨c1, c3, c4⟩
      · have HT := Lib.hid (show adB (x0, x1, x2, x3) = true by unfold adB; simp only [c1, c2]; rfl)
        have hA2 : Hid (OB w.heap.size w (.slice X' pr.length c') pr.length (pr.map Value.string) ((wr.alloc (.cells #[.string x0, .int .u16 x1, .int .u32 x2, .string x3] 44)).alloc (.cells #[.string x3] 9))) := Lib.hid ((HB.out.alloc _).alloc _)
        have hS : Hid (Src Try.prog 1 40 (.slice (some ⟨(wr.alloc (.cells #[.string x0, .int .u16 x1, .int .u32 x2, .string x3] 44)).heap.size, 0, none⟩) 1 1) 1 [.string x3] ((wr.alloc (.cells #[.string x0, .int .u16 x1, .int .u32 x2, .string x3] 44)).alloc (.cells #[.string x3] 9))) := by
          refine Lib.hid (Src.ofSlice _ Try.underlying40 _ 1 1 _ rfl ?_ (by simp [Value.oneCell']))
          exact news_at _ #[.string x3] _
        rw [show (wr.alloc (.cells #[.string x0, .int .u16 x1, .int .u32 x2, .string x3] 44)).heap.size = wr.heap.size + 1 by simp] at hS
        go_wp2_with (at_builtin; go_loud (refine wpList_append_ob rfl _ _ 40 40 rfl 9 i0 _ 16 Try.underlying40 hi hz0 hz1 hz2 rfl hA2.out rfl rfl hS.out (by have := HLN.out; unfold maxLen; omega) (by have := HLN.out; omega) ?_))
        intro v' w' p1 p2 p3 p4
        have P1 := Lib.hid p1
        clear p1 p2 p3 p4 hA2 hS
        go_wp2_with fail
        go_round
        case rel => exact ⟨k + 1, by omega, by go_num, Lib.hid (by rw [HN.out, if_pos HT.out, List.map_append, List.length_append]; exact P1.out)⟩
        case measure => simp [intOf]; omega
      · have HT := Lib.hid (show ¬ adB (x0, x1, x2, x3) = true by unfold adB; simp only [c1, c2, c3]; simp)
        go_wp2_with fail
        go_round
        case rel => exact ⟨k + 1, by omega, by go_num, Lib.hid (by rw [HN.out, if_neg HT.out]; exact HB.out.alloc _)⟩
        case measure => simp [intOf]; omega
      · have HT := Lib.hid (show ¬ adB (x0, x1, x2, x3) = true by unfold adB; simp only [c1, c3]; simp)
        go_wp2_with fail
        go_round
        case rel => exact ⟨k + 1, by omega, by go_num, Lib.hid (by rw [HN.out, if_neg HT.out]; exact HB.out.alloc _)⟩
        case measure => simp [intOf]; omega
      · have HT := Lib.hid (show adB (x0, x1, x2, x3) = true by unfold adB; simp only [c1, c3, c4]; simp)
        have hA2 : Hid (OB w.heap.size w (.slice X' pr.length c') pr.length (pr.map Value.string) ((wr.alloc (.cells #[.string x0, .int .u16 x1, .int .u32 x2, .string x3] 44)).alloc (.cells #[.string x3] 9))) := Lib.hid ((HB.out.alloc _).alloc _)
        have hS : Hid (Src Try.prog 1 40 (.slice (some ⟨(wr.alloc (.cells #[.string x0, .int .u16 x1, .int .u32 x2, .string x3] 44)).heap.size, 0, none⟩) 1 1) 1 [.string x3] ((wr.alloc (.cells #[.string x0, .int .u16 x1, .int .u32 x2, .string x3] 44)).alloc (.cells #[.string x3] 9))) := by
          refine Lib.hid (Src.ofSlice _ Try.underlying40 _ 1 1 _ rfl ?_ (by simp [Value.oneCell']))
          exact news_at _ #[.string x3] _
        rw [show (wr.alloc (.cells #[.string x0, .int .u16 x1, .int .u32 x2, .string x3] 44)).heap.size = wr.heap.size + 1 by simp] at hS
        go_wp2_with (at_builtin; go_loud (refine wpList_append_ob rfl _ _ 40 40 rfl 9 i0 _ 16 Try.underlying40 hi hz0 hz1 hz2 rfl hA2.out rfl rfl hS.out (by have := HLN.out; unfold maxLen; omega) (by have := HLN.out; omega) ?_))
        intro v' w' p1 p2 p3 p4
        have P1 := Lib.hid p1
        clear p1 p2 p3 p4 hA2 hS
        go_wp2_with fail
        go_round
        case rel => exact ⟨k + 1, by omega, by go_num, Lib.hid (by rw [HN.out, if_pos HT.out, List.map_append, List.length_append]; exact P1.out)⟩
        case measure => simp [intOf]; omega
      · have HT := Lib.hid (show ¬ adB (x0, x1, x2, x3) = true by unfold adB; simp only [c1, c3, c4]; simp)
        go_wp2_with fail
        go_round
        case rel => exact ⟨k + 1, by omega, by go_num, Lib.hid (by rw [HN.out, if_neg HT.out]; exact HB.out.alloc _)⟩
        case measure => simp [intOf]; omega
    · have hlt' : ¬ (k : Int) < n := by omega
      go_wp2_with fail
      go_ret
      have := HB.out
      rw [List.take_of_length_le (by rw [HL.out]; omega)] at this
      exact ⟨_, rfl, this⟩
set_option maxHeartbeats 3200000 in
theorem names_any (A : Option Addr) (n c : Nat) (rs : List RecT) (w : World) (h : Recs w A rs) (hl : rs.length = n) (hn : n ≤ 3518437208780) (hd : ∀ r ∈ rs, r.2.2.2.size ≤ maxLen) :
    Calls Try.prog 18 #[.slice A n c] w fun e w' => ∃ v, e = .returned v ∧ OB w.heap.size w v (nssOf rs).length ((nssOf rs).map Value.string) w' := by
  obtain ⟨i0, hi, hz0, hz1, hz2⟩ := info_parts4 (show (Try.prog.info? 25).map (fun i => (i.zero, i.size, i.bytes)) = some (some (Value.string ⟨#[]⟩), 1, 16) by kernel_rfl)
  have H := Lib.hid h
  have HL := Lib.hid hl
  have HD := Lib.hid hd
  clear h hl hd
  go_enter Try.func18, Try.ntmps18
  go_wp2_with fail
  go_loopw [3, 9] (fun v i wr => ∃ k : Nat, k ≤ n ∧ i = .int .i64 k ∧ Hid (OB w.heap.size w v (nssOf (rs.take k)).length ((nssOf (rs.take k)).map Value.string) wr)) (fun _ i _ => n - (intOf i).toNat)
  case atStart => exact ⟨0, Nat.zero_le _, rfl, Lib.hid (by have := OB.start w; simpa [nssOf] using this)⟩
  case round =>
    obtain ⟨k, hk, rfl, HB⟩ := hrel
    by_cases hlt : k < n
    · have hlt' : (k : Int) < n := by omega
      obtain ⟨⟨x0, x1, x2, x3⟩, hr⟩ : ∃ r, rs[k]? = some r := ⟨_, List.getElem?_eq_getElem (by rw [HL.out]; omega)⟩
      obtain ⟨bb, off, rfl, hbb, g0, g1, g2, g3⟩ := (H.out.below HB.out.bel) k _ hr
      dsimp only at g0 g1 g2 g3
      have hnext := nssOf_next (rs := rs) hr
      have hlen : (nssOf (rs.take k)).length ≤ k := nssOf_le rs k
      obtain ⟨X', c', rfl, -, -, -⟩ := HB.out.slice
      generalize hpr : nssOf (rs.take k) = pr at *
      have HN := Lib.hid hnext
      have HLN := Lib.hid hlen
      have HM := Lib.hid (HD.out _ (List.mem_of_getElem? hr))
      clear hnext hlen hpr hr
      cases c1 : (x1 == 2) with
      | false =>
        have HT := Lib.hid (show ¬ nsB (x0, x1, x2, x3) = true by unfold nsB; simp only [c1]; simp)
        go_wp2_with fail
        go_round
        case rel => exact ⟨k + 1, by omega, by go_num, Lib.hid (by rw [HN.out, if_neg HT.out]; exact HB.out.alloc _)⟩
        case measure => simp [intOf]; omega
      | true =>
        have MA := may_any x3 (wr.alloc (.cells #[.string x0, .int .u16 x1, .int .u32 x2, .string x3] 44)) HM.out
        cases c2 : (labelsOf x3).isSome with
        | false =>
          have HT := Lib.hid (show ¬ nsB (x0, x1, x2, x3) = true by unfold nsB; simp only [c1, c2]; simp)
          rw [c2] at MA
          have MA := Lib.hid MA
          clear c2
          go_wp2_with fail
          refine MA.out.mono ?_
          rintro e w2 ⟨rfl, hb2'⟩
          have HB2 := Lib.hid ((HB.out.alloc (.cells #[.string x0, .int .u16 x1, .int .u32 x2, .string x3] 44)).keep hb2' (Nat.le_refl _))
          clear hb2' MA
          go_wp2_with fail
          go_round
          case rel => exact ⟨k + 1, by omega, by go_num, Lib.hid (by rw [HN.out, if_neg HT.out]; exact HB2.out)⟩
          case measure => simp [intOf]; omega
        | true =>
          have HT := Lib.hid (show nsB (x0, x1, x2, x3) = true by unfold nsB; simp only [c1, c2]; rfl)
          rw [c2] at MA
          have MA := Lib.hid MA
          clear c2
          go_wp2_with fail
          refine MA.out.mono ?_
          rintro e w2 ⟨rfl, hb2'⟩
          have HB2 := Lib.hid ((HB.out.alloc (.cells #[.string x0, .int .u16 x1, .int .u32 x2, .string x3] 44)).keep hb2' (Nat.le_refl _))
          clear hb2' MA
          have hA2 : Hid (OB w.heap.size w (.slice X' pr.length c') pr.length (pr.map Value.string) (w2.alloc (.cells #[.string x3] 25))) := Lib.hid ((HB2.out).alloc _)
          have hS : Hid (Src Try.prog 1 41 (.slice (some ⟨w2.heap.size, 0, none⟩) 1 1) 1 [.string x3] (w2.alloc (.cells #[.string x3] 25))) := by
            refine Lib.hid (Src.ofSlice _ Try.underlying41 _ 1 1 _ rfl ?_ (by simp [Value.oneCell']))
            exact news_at _ #[.string x3] _
          go_wp2_with (at_builtin; go_loud (refine wpList_append_ob rfl _ _ 41 41 rfl 25 i0 _ 16 Try.underlying41 hi hz0 hz1 hz2 rfl hA2.out rfl rfl hS.out (by have := HLN.out; unfold maxLen; omega) (by have := HLN.out; omega) ?_))
          intro v' w' p1 p2 p3 p4
          have P1 := Lib.hid p1
          clear p1 p2 p3 p4 hA2 hS
          go_wp2_with fail
          go_round
          case rel => exact ⟨k + 1, by omega, by go_num, Lib.hid (by rw [HN.out, if_pos HT.out, List.map_append, List.length_append]; exact P1.out)⟩
          case measure => simp [intOf]; omega
    · have hlt' : ¬ (k : Int) < n := by omega
      go_wp2_with fail
      go_ret
      have := HB.out
      rw [List.take_of_length_le (by rw [HL.out]; omega)] at this
      exact ⟨_, rfl, this⟩
end Go.Proofs.Ytbjbppnjheaecaa
