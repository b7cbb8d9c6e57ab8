/- The walk of ZoneAt. -/
import Derived.Test.YtoacmdjbmbdjdaaZonG
import Derived.Test.YtoacmdjbmbdjdaaRecD
namespace Go.Proofs.Ytoacmdjbmbdjdaa
open Go.RowKit
set_option linter.unusedVariables false
set_option linter.unusedSimpArgs false
set_option maxRecDepth 20000
theorem insR_mem {out : List RecT} {r q : RecT} (h : q ∈ insR out r) : q ∈ out ∨ q = r := by
  unfold insR at h
  rcases List.mem_append.1 h with h | h
  · exact .inl ((List.takeWhile_sublist _).mem h)
  · rcases List.mem_cons.1 h with h | h
    · exact .inr h
    · exact .inl ((List.dropWhile_sublist _).mem h)
theorem stepS_mem {out : List RecT} {r q : RecT} (h : q ∈ stepS out r) : q ∈ out ∨ q = r := by
  unfold stepS at h
  split at h
  · split at h
    · exact .inl h
    · exact insR_mem h
  · exact insR_mem h
theorem foldl_mem : ∀ (rs out : List RecT) (q : RecT), q ∈ rs.foldl stepS out → q ∈ out ∨ q ∈ rs
  | [], out, q, h => .inl h
  | r :: rs, out, q, h => by
    rcases foldl_mem rs (stepS out r) q h with h | h
    · rcases stepS_mem h with h | h
      · exact .inl h
      · exact .inr (by simp [h])
    · exact .inr (by simp [h])
theorem sortedR_mem {rs : List RecT} {q : RecT} (h : q ∈ sortedR rs) : q ∈ rs := by
  rcases foldl_mem rs [] q h with h | h
  · cases h
  · exact h
theorem sizeR_bound : ∀ (rs : List RecT), (∀ r ∈ rs, r.1.size ≤ 254 ∧ r.2.2.2.size ≤ 600) → sizeR rs ≤ rs.length * 900
  | [], _ => by simp [sizeR]
  | r :: rs, h => by
    have h1 := sizeR_bound rs (fun q hq => h q (by simp [hq]))
    have h2 := h r (by simp)
    have : sizeR (r :: rs) = 10 + r.1.size + r.2.2.2.size + sizeR rs := by simp [sizeR]
    rw [this, List.length_cons]; omega
theorem recsOf_size (ds : List ActT) (m : Nat) : ∀ r ∈ recsOf ds m, r.1.size ≤ 254 ∧ r.2.2.2.size ≤ 600 := by
  intro r hr
  obtain ⟨a, -, rfl⟩ := List.mem_map.1 hr
  exact ⟨recOf_name a, recOf_data a⟩
theorem field_name (r : RecT) (w : World) : (Instr.field 27 (recV r) 0).run Try.prog w = .ok (.string r.1) w := by
  unfold recV
  first
  | rfl
  | kernel_rfl
  | simp [Instr.field, go_sem]
set_option maxHeartbeats 6400000 in
theorem zoneAt_walk (w : World) (A : Option Addr) (n c : Nat) (ds : List ActT) (hV : Acts5 w A n c ds)
    (C : Option Addr) (p q : Nat) (zs : List Int) (hT : SlView w C p q (zs.map (Value.int .u8))) (hl : zs.length = p) (hzw : ∀ z ∈ zs, (Lit.int .u8 z).wf = true) (hq : q ≤ 140737488351232) :
    Calls Try.prog 6 #[.slice A n c, .slice C p q] w fun e w' => e = .returned (.bool true) ∧ Below w.heap.size w w' := by
  obtain ⟨i0, hi, hz0, hz1, hz2⟩ := info_parts4 rec_info
  obtain ⟨l, hl2⟩ := bytes_of zs hzw
  have hpq := hT.le
  have HOKA : Hid (ActOk w ((C, p, q, l), 0, 0, (none, 0, 0, []), ⟨#[]⟩)) := Lib.hid ⟨by have := hT.sl; rw [hl2] at this; exact this, (by unfold maxLen; dsimp only; omega), ⟨Int.le_refl _, by simp⟩, ⟨Int.le_refl _, by simp⟩, Sl.nil _ _ _ _, Nat.zero_le _, Nat.zero_le _⟩
  have HV := Lib.hid hV
  clear hV hT hl hzw hl2
  go_enter Try.func6, Try.ntmps6
  go_wp2_with fail
  refine (awake08_any _).mono ?_
  rintro e w1 ⟨rfl, hb1⟩
  have HB1 := Lib.hid hb1
  clear hb1
  go_wp2_with fail
  refine (records_any A n c 40 ds w1 (HV.out.at_.below HB1.out) HV.out.most (by decide)).mono ?_
  rintro e w2 ⟨v1, rfl, ho1⟩
  obtain ⟨rs, hrs⟩ : ∃ rs, rs = recsOf ds 40 := ⟨_, rfl⟩
  have hsz := recsOf_size ds 40
  rw [← hrs] at ho1 hsz
  obtain ⟨N, hN⟩ : ∃ N, rs.length = N := ⟨_, rfl⟩
  have hN8 : N ≤ 40 := by rw [← hN, hrs, recsOf_len]; omega
  obtain ⟨A1, c1, rfl, -, -, -⟩ := ho1.slice
  have HR2 := Lib.hid (ho1.recs rfl)
  rw [hN]
  have HB2 := Lib.hid (below_trans HB1.out HB1.out.size ho1.bel)
  have HN := Lib.hid hN
  have HSZ := Lib.hid hsz
  clear ho1 hrs hN hsz HB1
  go_wp2_with fail
  refine (sorted_any A1 N c1 rs w2 HR2.out HN.out (by omega)).mono ?_
  rintro e w3 ⟨v2, rfl, ho2⟩
  obtain ⟨z, hz⟩ : ∃ z, sortedR rs = z := ⟨_, rfl⟩
  have hzl := sortedR_le rs
  have hzm : ∀ r ∈ z, r.1.size ≤ 254 ∧ r.2.2.2.size ≤ 600 := fun r hr => HSZ.out r (sortedR_mem (by rw [hz]; exact hr))
  rw [hz] at ho2 hzl
  obtain ⟨M, hM⟩ : ∃ M, z.length = M := ⟨_, rfl⟩
  have hM4 : M ≤ 40 := by have := HN.out; omega
  obtain ⟨A2, c2, rfl, -, -, -⟩ := ho2.slice
  have HR3 := Lib.hid (ho2.recs rfl)
  have HB3 := Lib.hid (below_trans HB2.out HB2.out.size ho2.bel)
  rw [hM]
  have hzs := sizeR_bound z hzm
  have HZS : Hid (sizeR z ≤ 1000000000000) := Lib.hid (by omega)
  have HM := Lib.hid hM
  clear ho2 hz hzl hzm hM hzs HB2
  have RC := Lib.hid (fun w h => record_any ((C, p, q, l), 0, 0, (none, 0, 0, []), ⟨#[]⟩) w h)
  obtain ⟨rr, hrr⟩ : ∃ rr, recOf ((C, p, q, l), 0, 0, (none, 0, 0, []), ⟨#[]⟩) = rr := ⟨_, rfl⟩
  rw [hrr] at RC
  obtain ⟨s, t0, t1, t2⟩ := rr
  unfold actA rowV recV at RC
  simp only at RC
  clear hrr
  go_wp2_with fail
  refine (RC.out _ (HOKA.out.below HB3.out)).mono ?_
  rintro e w4 ⟨rfl, hb4⟩
  have HR4 := Lib.hid (HR3.out.below hb4)
  have HB4 := Lib.hid (below_trans HB3.out HB3.out.size hb4)
  clear hb4
  have hf := fun w => field_name (s, t0, t1, t2) w
  unfold recV at hf
  simp only at hf
  go_wp2_with fail
  go_loopw [7, 8, 22] (fun v sz i wr => ∃ k m : Nat, k ≤ M ∧ i = .int .i64 k ∧ sz = .int .i64 m ∧ Hid (m = sizeR (z.take k)) ∧ Hid (OBM 4 w4.heap.size w4 v (atR (z.take k) s).length (flatR (atR (z.take k) s)) wr)) (fun _ _ i _ => M - (intOf i).toNat)
  case atStart => exact ⟨0, 0, Nat.zero_le _, rfl, rfl, Lib.hid (by simp [sizeR]), Lib.hid (by simpa [atR, flatR] using OBM.start (sz := 4) w4)⟩
  case round =>
    obtain ⟨k, m, hk, rfl, rfl, HMM, HB⟩ := hrel
    by_cases hlt : k < M
    · have hlt' : (k : Int) < M := by omega
      obtain ⟨r, hr⟩ : ∃ q, z[k]? = some q := ⟨_, List.getElem?_eq_getElem (by rw [HM.out]; exact hlt)⟩
      obtain ⟨b, off, rfl, hb, y0, y1, y2, y3⟩ := (HR4.out.below HB.out.bel) k _ hr
      have HR := Lib.hid hr
      have hnx := sizeR_next hr
      have hle := sizeR_le z (k + 1)
      have hm := HMM.out
      have hs := HZS.out
      obtain ⟨M2, hM2⟩ : ∃ M2 : Nat, M2 = m + (10 + r.1.size + r.2.2.2.size) := ⟨_, rfl⟩
      have HM2 : Hid (M2 = sizeR (z.take (k + 1))) := Lib.hid (by rw [hnx, hM2, hm])
      have hb1 : M2 ≤ 1000000000000 := by omega
      have hb2 : (r.1.size : Int) ≤ 1000000000000 := by omega
      have hb3 : (r.2.2.2.size : Int) ≤ 1000000000000 := by omega
      have hsum : (m : Int) + (10 + (r.1.size : Int) + (r.2.2.2.size : Int)) = (M2 : Int) := by omega
      have hmi : (m : Int) ≤ 1000000000000 := by omega
      clear hr hnx hle hm hs hM2
      cases en : (r.1.toList == s.toList) with
      | false =>
        have HN2 : Hid (nameB s r = false) := Lib.hid en
        go_wp2_with fail
        go_round
        case rel => exact ⟨k + 1, M2, by omega, by go_num, by first | rfl | rw [hsum], HM2, Lib.hid (by rw [atR_no HR.out HN2.out]; exact HB.out.alloc _)⟩
        case measure => simp [intOf]; omega
      | true =>
        have HN2 : Hid (nameB s r = true) := Lib.hid en
        have HLE := Lib.hid (atR_le z s k)
        have ho := Lib.hid ((HB.out.alloc (.cells #[.string r.1, .int .u16 r.2.1, .int .u32 r.2.2.1, .string r.2.2.2] 27)).alloc (.cells #[.string r.1, .int .u16 r.2.1, .int .u32 r.2.2.1, .string r.2.2.2] 27))
        have hS := Lib.hid (src_one' (w := wr.alloc (.cells #[.string r.1, .int .u16 r.2.1, .int .u32 r.2.2.1, .string r.2.2.2] 27)) Try.underlying31 r)
        have hz : (wr.alloc (.cells #[.string r.1, .int .u16 r.2.1, .int .u32 r.2.2.1, .string r.2.2.2] 27)).heap.size = wr.heap.size + 1 := by simp
        rw [hz] at hS
        have hC1 := fun w1 (h : Below (wr.alloc (.cells #[.string r.1, .int .u16 r.2.1, .int .u32 r.2.2.1, .string r.2.2.2] 27)).heap.size ((wr.alloc (.cells #[.string r.1, .int .u16 r.2.1, .int .u32 r.2.2.1, .string r.2.2.2] 27)).alloc (.cells #[.string r.1, .int .u16 r.2.1, .int .u32 r.2.2.1, .string r.2.2.2] 27)) w1) => True
        clear hz hC1
        go_wp2_with (at_builtin; go_loud (refine wpList_append_obm rfl _ _ 31 31 rfl 27 i0 _ 40 Try.underlying31 hi hz0 hz1 hz2 rfl ho.out rfl rfl hS.out rfl (by have := HLE.out; have := HM.out; unfold maxLen; omega) (by have := HLE.out; have := HM.out; omega) ?_))
        intro v' w' q1 q2 q3 q4
        -- the record's own box is another block than the slice's
        have hbox : ∀ j, w'.cell? ⟨wr.heap.size, j, none⟩ = ((wr.alloc (.cells #[.string r.1, .int .u16 r.2.1, .int .u32 r.2.2.1, .string r.2.2.2] 27)).alloc (.cells #[.string r.1, .int .u16 r.2.1, .int .u32 r.2.2.1, .string r.2.2.2] 27)).cell? ⟨wr.heap.size, j, none⟩ := by
          intro j
          refine World.cell?_of_block (a := ⟨wr.heap.size, j, none⟩) (q3 _ (by simp; exact Nat.lt_succ_of_lt (Nat.lt_succ_self _)) ?_)
          intro e
          exact absurd (HB.out.lt _ e.symm).2 (Nat.lt_irrefl _)
        have hcs := (Cs.new wr #[.string r.1, .int .u16 r.2.1, .int .u32 r.2.2.1, .string r.2.2.2] 27 [.string r.1, .int .u16 r.2.1, .int .u32 r.2.2.1, .string r.2.2.2]).alloc (.cells #[.string r.1, .int .u16 r.2.1, .int .u32 r.2.2.1, .string r.2.2.2] 27)
        have x0 := (hbox 0).trans (hcs.get 0 _)
        have x3 := (hbox 3).trans (hcs.get 3 _)
        clear q2 q3 q4 hbox hcs
        have Q1 := Lib.hid q1
        clear q1
        go_wp2_with fail
        go_round
        case rel => exact ⟨k + 1, M2, by omega, by go_num, by first | rfl | rw [hsum], HM2, Lib.hid (by rw [atR_yes HR.out HN2.out, flatR_snoc, List.length_append]; exact Q1.out)⟩
        case measure => simp [intOf]; omega
    · have hlt' : ¬ (k : Int) < M := by omega
      have hmz : m = sizeR z := by have := HMM.out; rwa [List.take_of_length_le (by rw [HM.out]; omega)] at this
      have hob := HB.out
      rw [List.take_of_length_le (by rw [HM.out]; omega)] at hob
      have HR5 := Lib.hid (HR4.out.below HB.out.bel)
      obtain ⟨A5, c5, rfl, -, -, -⟩ := hob.slice
      have HWN := Lib.hid (hob.recs rfl)
      have hal : (atR z s).length ≤ 40 := by have := atR_le z s M; rw [List.take_of_length_le (by rw [HM.out]; exact Nat.le_refl _)] at this; have := HM.out; omega
      have HB5 := Lib.hid (below_trans HB4.out HB4.out.size HB.out.bel)
      have AT := Lib.hid (fun w h => at_any A2 M c2 z s w h HM.out (by omega))
      have SZ := Lib.hid (fun w h => size_any A2 M c2 z w h HM.out (by unfold maxLen; omega) HZS.out)
      rw [← hmz] at SZ
      have SM := Lib.hid (fun A c (w : World) h h' => same_recs A A5 c c5 (atR z s) (atR z s) w h h' (by unfold maxLen; omega) (by unfold maxLen; omega))
      simp only [decide_true] at SM
      have hmm : ((m : Int) == (m : Int)) = true := by simp
      clear hmz hob hal
      go_wp2_with fail
      refine (AT.out _ HR5.out).mono ?_
      rintro e w5 ⟨v5, rfl, ho5⟩
      have HR6 := Lib.hid (HR5.out.below ho5.bel)
      have HWN6 := Lib.hid (HWN.out.below ho5.bel)
      have HB6 := Lib.hid (below_trans HB5.out HB5.out.size ho5.bel)
      obtain ⟨A6, c6, rfl, -, -, -⟩ := ho5.slice
      have HA6 := Lib.hid (ho5.recs rfl)
      clear ho5
      go_wp2_with fail
      refine (SM.out A6 c6 _ HA6.out HWN6.out).mono ?_
      rintro e w6 ⟨rfl, hb6⟩
      have HR7 := Lib.hid (HR6.out.below hb6)
      have HB7 := Lib.hid (below_trans HB6.out HB6.out.size hb6)
      clear hb6
      go_wp2_with fail
      refine (SZ.out _ HR7.out).mono ?_
      rintro e w7 ⟨rfl, hb7⟩
      have HB8 := Lib.hid (below_trans HB7.out HB7.out.size hb7)
      clear hb7
      go_wp2_with fail
      go_ret
      exact ⟨rfl, HB8.out⟩
end Go.Proofs.Ytoacmdjbmbdjdaa
