/- renew of a table in general. -/
import Derived.Test.YtikbekchddinfaaTabG
import Derived.OwnWalk
import Derived.LoopTactic
namespace Go.Proofs.Ytikbekchddinfaa
open Go.RowKit
set_option linter.unusedVariables false
set_option maxRecDepth 20000
theorem slot_info : (Try.prog.info? 47).map (fun i => (i.zero, i.size, i.bytes)) = some (some (.agg #[.int .i64 0, .string ByteArray.empty, .int .i64 0]), 3, 32) := by kernel_rfl
theorem made_slots (m : Nat) : (madeCells (Value.agg #[.int .i64 0, .string ByteArray.empty, .int .i64 0]).cells (m * 3)).toList = slotsC (List.replicate m noSlot) := by
  have hc : (Value.agg #[.int .i64 0, .string ByteArray.empty, .int .i64 0]).cells = #[.int .i64 0, .string ⟨#[]⟩, .int .i64 0] := by kernel_rfl
  rw [hc]
  apply List.ext_getElem?
  intro i
  by_cases hi : i < m * 3
  · have h3 : i / 3 < m := by omega
    have hs := slotsC_get (List.replicate m noSlot) (i / 3) (i % 3) (by simpa using h3) (Nat.mod_lt _ (by decide))
    rw [show i / 3 * 3 + i % 3 = i by omega] at hs
    rw [hs, List.getElem_replicate]
    unfold madeCells
    rw [Array.toList_map, List.getElem?_map, Array.toList_range, List.getElem?_range hi]
    have : i % 3 = 0 ∨ i % 3 = 1 ∨ i % 3 = 2 := by omega
    rcases this with h | h | h <;> simp [h, slotC, noSlot] <;> rfl
  · rw [List.getElem?_eq_none, List.getElem?_eq_none]
    · rw [slotsC_len]; simp; omega
    · simp [madeCells]; omega
theorem make_slots (m : Nat) (hm : m ≤ 4398046511104) (w : World) : ∃ AR : Array Value, AR.toList = slotsC (List.replicate m noSlot) ∧ ∀ w, (Instr.makeSlice 25 (.int .i64 m) (.int .i64 m)).run Try.prog w = .ok (.slice (some ⟨w.heap.size, 0, none⟩) m m) (w.alloc (.cells AR 47)) := by
  obtain ⟨i, hi, hz, hs, hb⟩ := info_parts slot_info
  refine ⟨_, made_slots m, fun w => ?_⟩
  have h := run_make (P := Try.prog) w 25 47 i _ Try.underlying25 hi hz .i64 .i64 m m (by omega) (Int.le_refl _) (by rw [hb]; omega) (by omega)
  rw [hs, Int.toNat_natCast] at h
  exact h
/-- What renew leaves. -/
def RenewR (w : World) (b : Nat) (post : List Value) (M : ByteArray → Option Int) (lv : Nat) (e : Ending) (w' : World) : Prop :=
  e = .returned (.tuple #[]) ∧ ∃ (g m : Nat) (ss' : List Slot), Cs w' b (.slice (some ⟨g, 0, none⟩) m m :: .int .i64 lv :: .int .i64 lv :: post) ∧ Cs w' g (slotsC ss') ∧ ss'.length = m ∧ TI hashB ss' M ∧ lives ss' = lv ∧ fulls ss' = lv ∧
    4 * (lv + 1) ≤ m ∧ (m = 8 ∨ m < 8 * (lv + 1)) ∧ 8 ≤ m ∧ w.heap.size ≤ g ∧ Only (fun q => q = b) w w'
/-- In the midst of it: k slots are laid anew. -/
def RenewL (w : World) (b g m : Nat) (post : List Value) (ss : List Slot) (k : Nat) (wr : World) : Prop :=
  ∃ ssk : List Slot, Cs wr b (.slice (some ⟨g, 0, none⟩) m m :: .int .i64 (liveTo ss k : Nat) :: .int .i64 (liveTo ss k : Nat) :: post) ∧ Cs wr g (slotsC ssk) ∧ ssk.length = m ∧ TI hashB ssk (headM ss k) ∧ lives ssk = liveTo ss k ∧ fulls ssk = liveTo ss k ∧ Only (fun q => q = b) w wr
theorem RenewL.start {w w2 : World} {b g m : Nat} {post : List Value} {ss : List Slot} (hC : Cs w2 b (.slice (some ⟨g, 0, none⟩) m m :: .int .i64 0 :: .int .i64 0 :: post)) (hS : Cs w2 g (slotsC (List.replicate m noSlot))) (ho : Only (fun q => q = b) w w2) : RenewL w b g m post ss 0 w2 :=
  ⟨List.replicate m noSlot, by simpa [liveTo, lives] using hC, hS, by simp, TI.empty hashB m, by rw [lives_empty]; simp [liveTo, lives], by rw [fulls_empty]; simp [liveTo, lives], ho⟩
theorem RenewL.skip {w wr w2 : World} {b g m k : Nat} {post : List Value} {ss : List Slot} (h : RenewL w b g m post ss k wr) (hk : k < ss.length) (h1 : (sl ss k).st ≠ 1) (ho : Below wr.heap.size wr w2) : RenewL w b g m post ss (k + 1) w2 := by
  obtain ⟨ssk, a1, a2, a3, a4, a5, a6, a7⟩ := h
  have e1 : liveTo ss (k + 1) = liveTo ss k := by rw [liveTo_next hk, if_neg h1]; rfl
  have e2 : headM ss (k + 1) = headM ss k := by rw [headM, if_neg h1]
  refine ⟨ssk, ?_, a2.below ho, a3, ?_, ?_, ?_, a7.trans (Only.of_below (fun q => q = b) ho) (fun _ _ e => e)⟩
  · rw [e1]; exact a1.below ho
  · rw [e2]; exact a4
  · rw [e1]; exact a5
  · rw [e1]; exact a6
/-- The slot's word is laid. -/
theorem RenewL.lay {w wr : World} {b g m k : Nat} {post : List Value} {ss : List Slot} {M : ByteArray → Option Int} (h : RenewL w b g m post ss k wr) (hI : TI hashB ss M) (hk : k < ss.length) (h1 : (sl ss k).st = 1) (hm : lives ss < m) (hmx : m ≤ 4398046511104) (hbg : b ≠ g) (hg : w.heap.size ≤ g) (w1 : World) (hb1 : Below wr.heap.size wr w1) :
    Calls Try.prog 17 #[.pointer (some ⟨b, 0, none⟩), .string (sl ss k).key, .int .i64 (sl ss k).val] w1 fun e w' => e = .returned (.tuple #[]) ∧ RenewL w b g m post ss (k + 1) w' := by
  obtain ⟨ssk, a1, a2, a3, a4, a5, a6, a7⟩ := h
  have e1 : liveTo ss (k + 1) = liveTo ss k + 1 := by rw [liveTo_next hk, if_pos h1]
  have hle := liveTo_le ss (k + 1)
  obtain ⟨j, bb, he, hno⟩ := ends_ex a4.ok (empty_ex ssk (by rw [a6, a3]; omega)) (sl ss k).key
  have hnew := headM_new hI.ok hk h1
  cases bb with
  | true => have := a4.found he; rw [hnew] at this; cases this
  | false =>
    have b1 := a1.below hb1
    have b2 := a2.below hb1
    refine (lay_any b g m (liveTo ss k) (liveTo ss k) post ssk w1 (sl ss k).key (sl ss k).val j b1 b2 a3 (by omega) (hI.sm k) hbg (by omega) (by omega) he).mono ?_
    rintro e w' ⟨rfl, c1, c2, c3⟩
    have hi : (hashB (sl ss k).key + j) % ssk.length < ssk.length := mod_in he.lt
    rw [a3] at hi
    have hno' := he.no rfl
    rw [a3] at hno'
    have t1 := a4.put_new he hnew (sl ss k).val (hI.sm k)
    rw [a3] at t1
    have t2 := lives_set ssk _ ⟨1, (sl ss k).key, (sl ss k).val⟩ (by rw [a3]; exact hi)
    have t3 := fulls_set ssk _ ⟨1, (sl ss k).key, (sl ss k).val⟩ (by rw [a3]; exact hi)
    rw [hno'] at t2 t3
    simp at t2 t3
    refine ⟨rfl, _, by rw [e1]; exact c1, c2, by simpa using a3, ?_, by rw [e1]; omega, by rw [e1]; omega, ?_⟩
    · rw [headM, if_pos h1]; exact t1
    · have := (a7.trans (Only.of_below (fun q => q = b) hb1) (fun _ _ e => e)).trans c3 (S := fun q => q = b) (fun q hq e => by
        rcases e with e | e
        · exact e
        · subst e; omega)
      exact this
set_option maxHeartbeats 1600000 in
theorem renew_any (w : World) (b : Nat) (post : List Value) (ss : List Slot) (V : Value) (lv us n : Nat) (M : ByteArray → Option Int) (hT : TabS w b post ss V lv us) (hI : TI hashB ss M) (hl : lives ss = lv) (hlv : lv ≤ 68719476736) (hn : ss.length = n) (hnn : n ≤ 4398046511104) :
    Calls Try.prog 16 #[.pointer (some ⟨b, 0, none⟩)] w (RenewR w b post M lv) := by
  obtain ⟨A, hV, hA⟩ : ∃ A, V = .slice A n n ∧ (0 < n → ∃ g0, A = some ⟨g0, 0, none⟩ ∧ g0 ≠ b ∧ Cs w g0 (slotsC ss)) := by
    rcases hT.slots with ⟨h1, h2⟩ | ⟨g, e1, e2, e3, e4⟩
    · subst h1; simp at hn; subst hn; exact ⟨none, h2, fun h => by omega⟩
    · rw [hn] at e1; exact ⟨_, e1, fun _ => ⟨g, rfl, e2, e3⟩⟩
  subst hV
  have hC := hT.own
  have c0 := hC.get 0 _
  have c1 := hC.get 1 _
  have c2 := hC.get 2 _
  have f0 := hC.froz 0 (by simp)
  have f1 := hC.froz 1 (by simp)
  have f2 := hC.froz 2 (by simp)
  have g1 := hC.lt
  have HC := Lib.hid hC
  have HA := Lib.hid hA
  have HI := Lib.hid hI
  have HL := Lib.hid hl
  have HN := Lib.hid hn
  clear hC hA hI hl hn hT
  go_enter Try.func16, Try.ntmps16
  go_wp2_with fail
  go_loopw [2] (fun v wr => ∃ m : Nat, v = .int .i64 m ∧ 8 ≤ m ∧ (m = 8 ∨ m < 8 * (lv + 1)) ∧ wr = w) (fun v _ => 4 * (lv + 1) - (intOf v).toNat)
  case atStart => exact ⟨8, rfl, by omega, .inl rfl, rfl⟩
  case round =>
    obtain ⟨m, rfl, hm8, hmx, hw⟩ := hrel
    obtain rfl := hw.symm
    by_cases hlt : m < 4 * (lv + 1)
    · have hlt' : (m : Int) < 4 * ((lv : Int) + 1) := by omega
      go_wp2_with fail
      go_round
      case rel => exact ⟨m * 2, by go_num, by omega, by omega, by first | trivial | rfl⟩
      case measure => simp [intOf]; omega
    · have hlt' : ¬ (m : Int) < 4 * ((lv : Int) + 1) := by omega
      have hm4 : 4 * (lv + 1) ≤ m := by omega
      have hmb : m ≤ 4398046511104 := by omega
      obtain ⟨AR, hAR, hmk⟩ := make_slots m hmb w
      have HAR := Lib.hid hAR
      clear hAR
      obtain ⟨G, hG⟩ : ∃ G, G = w.heap.size := ⟨_, rfl⟩
      have HG := Lib.hid hG
      clear hG
      have hbG : b ≠ G := by have := HG.out; omega
      go_wp2_with fail
      go_loopw [27] (fun v w2 => ∃ k : Nat, k ≤ n ∧ v = .int .i64 k ∧ Hid (RenewL w b G m post ss k w2)) (fun v _ => n - (intOf v).toNat)
      case atStart =>
        refine ⟨0, Nat.zero_le _, rfl, Lib.hid ?_⟩
        obtain ⟨W3, hW3⟩ : ∃ W3, (((w.setCell ⟨b, 0, none⟩ (.slice (some ⟨w.heap.size, 0, none⟩) m m)).setCell ⟨b, 1, none⟩ (.int .i64 0)).setCell ⟨b, 2, none⟩ (.int .i64 0)) = W3 := ⟨_, rfl⟩
        have hz : W3.heap.size = w.heap.size := by rw [← hW3]; simp
        rw [hW3]
        have hA3 : Cs W3 b (.slice (some ⟨G, 0, none⟩) m m :: .int .i64 0 :: .int .i64 0 :: post) := by
          rw [← hW3, HG.out]
          exact ((HC.out.set' 0 (.slice (some ⟨w.heap.size, 0, none⟩) m m) (by simp)).set' 1 (.int .i64 0) (by simp)).set' 2 (.int .i64 0) (by simp)
        have hO3 : Only (fun q => q = b) w W3 := by
          rw [← hW3]
          exact (((Only.refl (fun q => q = b) w).setCell ⟨b, 0, none⟩ _ (fun _ => rfl)).setCell ⟨b, 1, none⟩ _ (fun _ => rfl)).setCell ⟨b, 2, none⟩ _ (fun _ => rfl)
        have hn3 : Cs (W3.alloc (.cells AR 47)) W3.heap.size (slotsC (List.replicate m noSlot)) := Cs.new W3 AR _ _ HAR.out
        exact RenewL.start (hA3.alloc _) (hn3.at_ _ (by rw [hz, HG.out])) (hO3.alloc _)
      case round =>
        obtain ⟨k, hk, rfl, HR⟩ := hrel
        by_cases hkn : k < n
        · have hkn' : (k : Int) < n := by omega
          have hk0 : ¬ (k : Int) < 0 := by omega
          obtain ⟨g0, rfl, hg0, hS0⟩ := HA.out (by omega)
          have hS2 : Cs w g0 (slotsC ss) := hS0
          have hRo : Only (fun q => q = b) w wr := by obtain ⟨_, _, _, _, _, _, _, h⟩ := HR.out; exact h
          obtain ⟨d0, d1, d2, -, -, -⟩ := slot_cells (hRo.cs hS0 hg0) (q := k) (by rw [HN.out]; exact hkn)
          have z1 := (hRo.cs hS0 hg0).lt
          have hkl : k < ss.length := by rw [HN.out]; exact hkn
          have LAY : Hid ((sl ss k).st = 1 → ∀ w1, Below wr.heap.size wr w1 → Calls Try.prog 17 #[.pointer (some ⟨b, 0, none⟩), .string (sl ss k).key, .int .i64 (sl ss k).val] w1 fun e w' => e = .returned (.tuple #[]) ∧ RenewL w b G m post ss (k + 1) w') :=
            Lib.hid (fun h1 w1 hb1 => RenewL.lay HR.out HI.out hkl h1 (by rw [HL.out]; omega) hmb hbG (by rw [HG.out]; exact Nat.le_refl _) w1 hb1)
          have SK : Hid ((sl ss k).st ≠ 1 → ∀ w1, Below wr.heap.size wr w1 → RenewL w b G m post ss (k + 1) w1) := Lib.hid (fun h1 w1 hb1 => RenewL.skip HR.out hkl h1 hb1)
          generalize sl ss k = s at *
          obtain ⟨st, key, val⟩ := s
          simp only at d0 d1 d2 LAY SK
          clear hS2 hRo hS0 hkl
          by_cases h1 : st = 1
          · subst h1
            have LAY2 := Lib.hid (LAY.out rfl)
            clear LAY SK
            go_wp2_with fail
            refine (LAY2.out _ ((Below.refl _ _).alloc (Nat.le_refl _) _)).mono ?_
            rintro e w5 ⟨rfl, hL5⟩
            have HL5 := Lib.hid hL5
            clear hL5
            go_wp2_with fail
            go_roundw
            case rel => exact ⟨k + 1, by omega, by go_num, HL5⟩
            case measure => simp [intOf]; omega
          · have h1' : ((st : Int) == 1) = false := by rw [beq_eq_false_iff_ne]; omega
            have SK2 := Lib.hid (SK.out h1)
            clear LAY SK
            go_wp2_with fail
            go_roundw
            case rel => exact ⟨k + 1, by omega, by go_num, Lib.hid (SK2.out _ ((Below.refl _ _).alloc (Nat.le_refl _) _))⟩
            case measure => simp [intOf]; omega
        · obtain rfl : k = n := by omega
          have hkn' : ¬ (k : Int) < k := by omega
          go_wp2_with fail
          go_end0
          obtain ⟨ssk, a1, a2, a3, a4, a5, a6, a7⟩ := HR.out
          have e1 : liveTo ss k = lv := by rw [← HN.out, liveTo_all, HL.out]
          have e2 : headM ss k = M := by rw [← HN.out]; exact headM_all HI.out
          rw [e1] at a1 a5 a6
          rw [e2] at a4
          exact ⟨rfl, G, m, ssk, a1, a2, a3, a4, a5, a6, hm4, hmx, hm8, by rw [HG.out]; exact Nat.le_refl _, a7⟩
end Go.Proofs.Ytikbekchddinfaa
