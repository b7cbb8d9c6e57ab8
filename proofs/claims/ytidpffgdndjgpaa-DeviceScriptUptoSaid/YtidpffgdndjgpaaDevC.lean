/- The contracts of a device's Crash, Safe and Segments. -/
import Derived.Test.YtidpffgdndjgpaaDevB
import Derived.Lib.SliceRun
namespace Go.Proofs.Ytidpffgdndjgpaa
open Go.RowKit
set_option linter.unusedVariables false
set_option maxRecDepth 20000
theorem dev_follows : Try.prog.follows .mixedOrders = true := by kernel_rfl
section
variable {F : Nat → Prop} {B : Nat} {W : World} {d : Nat} {segs : List (List UInt8)} {safe writes : Nat} {w : World}
attribute [local simp] putsF isV wordOf Deps Region.binds Region.wanted Act.put
set_option maxHeartbeats 1600000 in
theorem crash_any (k : Int) (hk1 : -9223372036854775808 ≤ k) (hk2 : k ≤ 9223372036854775807) (h : DevE F B W d segs safe writes w) (hs : safe ≤ lastN segs) :
    Calls Try.prog 18 #[.pointer (some ⟨d, 0, none⟩), .int .i64 k] w fun e w' => e = .returned (.tuple #[]) ∧ DevE F B W d (cutS segs (safe + k.toNat)) (min (safe + k.toNat) (lastN segs)) writes w' ∧ Keep F w w' := by
  obtain ⟨m, hm⟩ : ∃ m : Nat, m = k.toNat := ⟨_, rfl⟩
  have hll := h.lastLe
  unfold maxLen at hll
  have hm63 : m ≤ 9223372036854775807 := by omega
  rw [← hm]
  have hmax : max k 0 = (m : Int) := by omega
  have LA := Lib.hid (fun (w' : World) (hb : Below w.heap.size w w') => last_any (h.keep hb))
  obtain ⟨L, hL⟩ : ∃ L, L = lastN segs := ⟨_, rfl⟩
  obtain ⟨M, hM⟩ : ∃ M, M = min m (L - safe) := ⟨_, rfl⟩
  have hMi : min (m : Int) ((L : Int) - safe) = (M : Int) := by omega
  have hcs : Hid (∃ SV, Cs w d [SV, .int .i64 safe, .int .i64 writes]) := Lib.hid (by obtain ⟨SV, vals, h⟩ := h; exact ⟨SV, h.cs⟩)
  have HD := Lib.hid h
  rw [← hL] at LA hs hll ⊢
  have HL := Lib.hid hL
  have HM := Lib.hid hM
  have HMX := Lib.hid hmax
  have HMN := Lib.hid hMi
  clear h hL hM hm hmax hMi
  go_enter Try.func18, Try.ntmps18
  go_upto_region 1 with fail
  obtain ⟨SV, hC⟩ := hcs.out
  have hlt := hC.lt
  have hsub : IntKind.i64.wrap ((L : Int) - safe) = (L : Int) - safe := IntWalk.i64_in _ (by omega)
  refine wp_region_goes dev_follows w.heap.size w
    [isV (.int .i64 k), isV (.int .i64 m), isV (.pointer (some ⟨d, 0, none⟩)), isV (.int .i64 L), isV (.pointer (some ⟨d, 0, none⟩)), isV (.pointer (some ⟨d, 0, none⟩)), isV (.pointer (some ⟨d, 1, none⟩)), isV (.int .i64 safe), isV (.int .i64 ((L : Int) - safe)), isV (.int .i64 M), isV (.int .i64 M)]
    (by kernel_rfl) (by kernel_rfl) rfl ?_ (Below.refl _ _) ?_ ?_
  · repeat (first | exact trivial | refine ⟨by first | exact isV_stays _, ?_⟩)
  · refine ⟨?_, ?_, ?_, ?_, ?_, ?_, ?_, ?_, ?_, ?_, ?_, trivial⟩
    all_goals
      intro x wr hR hd
      simp at hd ⊢
    · go_simp; exact next_same _ rfl rfl hR
    · go_simp
      rw [show (if k < 0 then (0 : Int) else k) = (m : Int) by have := HMX.out; split <;> omega]
      exact next_same _ rfl rfl hR
    · go_simp; exact next_same _ rfl rfl hR
    · go_simp
      go_at_call 13
      refine (LA.out wr hR).mono ?_
      rintro e' w6 ⟨rfl, q, rfl⟩
      exact next_call _ rfl rfl hR hR.size (below_drewN (Below.refl _ _) _)
    · go_simp; exact next_same _ rfl rfl hR
    · go_simp; exact next_same _ rfl rfl hR
    · go_simp; exact next_same _ rfl rfl hR
    · have f0 := (hR.cell (p := ⟨d, 1, none⟩) hlt).trans (hC.get 1 _); go_simp; exact next_same _ rfl rfl hR
    · obtain ⟨e1, e2⟩ := hd; rw [e1, e2]; go_simp; exact next_same _ rfl rfl hR
    · obtain ⟨e1, e2⟩ := hd; rw [e1, e2]; go_simp
      rw [show (if (L : Int) - safe < (m : Int) then (L : Int) - safe else (m : Int)) = (M : Int) by have := HMN.out; split <;> omega]
      exact next_same _ rfl rfl hR
    · go_simp; exact next_same _ rfl rfl hR
  intro x w1 hb1 hx
  simp [AllWords] at hx ⊢
  obtain ⟨-, -, -, -, -, -, -, -, -, -, h10⟩ := hx
  rw [h10]
  have h1 := HD.out.keep hb1
  have hk1 := Keep.below HD.out.fl hb1
  have hC1 := hC.below hb1
  have c1 := hC1.get 1 _
  have q1 := hC1.lt
  have hMM := HM.out
  have hML : safe + M ≤ L := by omega
  have hsum : IntKind.i64.wrap ((safe : Int) + M) = (safe : Int) + M := by rw [IntWalk.i64_in _ (by omega)]
  have hsum2 := Lib.hid (show (safe : Int) + M = ((safe + M : Nat) : Int) by omega)
  have CT := Lib.hid (cut_nat (safe + M) (by omega) h1 (by have := HL.out; omega))
  have hcut : cutS segs (safe + M) = cutS segs (safe + m) := by
    have := HL.out
    by_cases e : m ≤ L - safe
    · rw [show M = m by omega]
    · rw [cutS_all _ (safe + M) (by omega), cutS_all _ (safe + m) (by omega)]
  have HC := Lib.hid hcut
  have HK := Lib.hid hk1
  clear h1 hC1 hMM LA HD hC hlt hcs hb1 h10 hcut hk1 HMX HMN
  go_wp2_with fail
  have CT := CT.out
  rw [← hsum2.out] at CT
  refine CT.mono ?_
  clear CT
  rintro e w2 ⟨rfl, h2, hk2⟩
  have hl2 : lastN (cutS segs (safe + M)) = min (safe + m) L := by rw [cutS_last, ← HL.out]; have := HM.out; omega
  have SY := Lib.hid (sync_any h2)
  have HK2 := Lib.hid hk2
  have HL2 := Lib.hid hl2
  clear hk2 h2 hl2 hsum hsum2
  go_wp2_with fail
  refine SY.out.mono ?_
  clear SY
  rintro e w3 ⟨rfl, h3, hk3⟩
  rw [HL2.out, HC.out] at h3
  have H3 := Lib.hid h3
  have HK3 := Lib.hid hk3
  clear hk3 h3
  go_wp2_with fail
  go_end0
  exact ⟨rfl, H3.out, (HK.out.trans HK2.out).trans HK3.out⟩
/-- The bytes of all segments. -/
def sumL (segs : List (List UInt8)) : Nat := (segs.map List.length).sum
theorem sumL_snoc (init : List (List UInt8)) (s : List UInt8) : sumL (init ++ [s]) = sumL init + s.length := by simp [sumL]
theorem sumL_append (a b : List (List UInt8)) : sumL (a ++ b) = sumL a + sumL b := by simp [sumL]
theorem last_le_sum (segs : List (List UInt8)) : lastN segs ≤ sumL segs := by
  rcases segs_cases segs with rfl | ⟨init, s, rfl⟩
  · simp [lastN]
  · rw [lastN_snoc, sumL_snoc]; omega
set_option maxHeartbeats 1600000 in
theorem safe_any (h : DevE F B W d segs safe writes w) (hs : safe ≤ lastN segs) (hb : sumL segs ≤ 4611686018427387904) (hn : segs.length ≤ 5864062014634) :
    Calls Try.prog 14 #[.pointer (some ⟨d, 0, none⟩)] w fun e w' => e = .returned (.int .i64 ((sumL segs - lastN segs + safe : Nat) : Int)) ∧ ∃ k, w.drewN k = w' := by
  have hls := last_le_sum segs
  obtain ⟨L, hL⟩ : ∃ L, L = lastN segs := ⟨_, rfl⟩
  have LA := Lib.hid (fun n => (last_any (h.drewN n)).mono (fun e w' (q : _ ∧ _) => And.intro q.1 (q.2.imp fun _ r => r.symm)))
  obtain ⟨SV, vals, h⟩ := h
  have c1 := h.cs.get 1 _
  have q0 := h.cs.lt
  have H := Lib.hid h
  rw [← hL] at LA hs hls ⊢
  have hsub : IntKind.i64.wrap ((safe : Int) - L) = (safe : Int) - L := IntWalk.i64_in _ (by omega)
  clear h hL
  go_enter Try.func14, Try.ntmps14
  go_wp2_with fail
  go_quiet ((go_at_call 13; exact Calls.quiet_of (LA.out _)))
  have h1 := H.out.move (w' := w.drewN nq) (H.out.ob.drewN nq).bel (Nat.le_refl _) (fun _ _ _ => rfl)
  obtain ⟨A0, cap0, rfl, h63, -, hA0⟩ := h1.ob.slice
  have c0 := h1.cs.get 0 _
  have q1 := h1.cs.lt
  have hres : Hid (∃ k, w.drewN k = w.drewN nq) := Lib.hid ⟨nq, rfl⟩
  generalize w.drewN nq = W1 at *
  have H1 := Lib.hid h1
  clear h1 H c1 q0
  go_wp2_with fail
  go_loop [3, 18] (fun s i => ∃ k : Nat, k ≤ segs.length ∧ i = .int .i64 k ∧ s = .int .i64 ((safe : Int) - L + sumL (segs.take k))) (fun _ i => segs.length - (intOf i).toNat)
  case atStart => exact ⟨0, Nat.zero_le _, rfl, by simp [sumL]⟩
  case round =>
    obtain ⟨k, hk, rfl, rfl⟩ := hrel
    by_cases hlt : k < segs.length
    · obtain ⟨g, A, c, rfl, e1, e2, e3, -, -⟩ := H1.out.at_ k hlt
      have hlt' : (k : Int) < segs.length := by omega
      have hstep : sumL (segs.take (k + 1)) = sumL (segs.take k) + segs[k].length := by rw [List.take_succ_eq_append_getElem hlt, sumL_snoc]
      have hle : sumL (segs.take (k + 1)) ≤ sumL segs := by
        have := sumL_append (segs.take (k + 1)) (segs.drop (k + 1))
        rw [List.take_append_drop] at this
        omega
      have hi1 : IntKind.i64.wrap ((safe : Int) - L + sumL (segs.take k) + segs[k].length) = (safe : Int) - L + sumL (segs.take k) + segs[k].length := IntWalk.i64_in _ (by omega)
      have HST := Lib.hid hstep
      clear hstep
      go_wp2_with fail
      go_round
      case rel => exact ⟨k + 1, by omega, by go_num, by rw [HST.out, show ((safe : Int) - L + ((sumL (segs.take k) + segs[k].length : Nat) : Int)) = (safe : Int) - L + sumL (segs.take k) + segs[k].length by omega]⟩
      case measure => simp [intOf]; omega
    · have hlt' : ¬ (k : Int) < segs.length := by omega
      go_wp2_with fail
      go_ret
      refine ⟨?_, hres.out⟩
      rw [List.take_of_length_le (by omega)]
      rw [show ((safe : Int) - L + (sumL segs : Nat) : Int) = ((sumL segs - L : Nat) : Int) + safe by omega]
      rfl
end
set_option maxHeartbeats 800000 in
/-- bytes.Clone, as an own slice. -/
theorem clone_ob (A : Option Addr) (n c : Nat) (l : List UInt8) (w : World) (C : Nat) (h : Sl w C 1 A n (l.map bv)) (hA0 : A = none → n = 0 ∧ c = 0) (hn : n ≤ 140737488355328) :
    Calls Try.prog 28 #[.slice A n c] w fun e w' => ∃ v, e = .returned v ∧ OB w.heap.size w v n (l.map bv) w' := by
  have hl : l.length = n := by simpa using h.1
  obtain ⟨i0, hi, hz0, hz1, hz2⟩ := info_parts devb_info
  cases A with
  | none =>
    obtain ⟨rfl, rfl⟩ := hA0 rfl
    obtain rfl : l = [] := List.eq_nil_of_length_eq_zero hl
    have hen := fun w => Lib.run_eql_slice_nil (P := Try.prog) w 23 5 none 0 0 0 0 Try.underlying23
    clear hA0 h hl
    go_enter Try.func28, Try.ntmps28
    go_wp2_with fail
    go_ret
    exact ⟨_, rfl, OB.start _⟩
  | some a =>
    have ho := OB.fresh (Below.refl w.heap.size w) (Nat.le_refl _) #[] 5 0 [] rfl rfl (by decide)
    have hA1 := h.keep (w' := w.alloc (.cells #[] 5))
    have hS : Src Try.prog 1 23 (.slice (some a) n c) n (l.map bv) (w.alloc (.cells #[] 5)) := by
      refine Src.ofSlice _ Try.underlying23 a n c _ (by simpa using hl) ?_ (one_bytes l)
      intro j u hu
      have hc := h.cells_at a rfl j u hu
      exact (World.cell?_alloc_lt w _ _ (World.block_lt_of_cell? w _ hc)).trans hc
    have hen := fun w => Lib.run_eql_slice_nil (P := Try.prog) w 23 5 (some a) n c 0 0 Try.underlying23
    clear hA0 h hl hA1
    go_enter Try.func28, Try.ntmps28
    go_wp2_with (at_builtin; go_loud (refine wpList_append_ob rfl _ _ 23 23 rfl 5 i0 _ 1 Try.underlying23 hi hz0 hz1 hz2 rfl ho rfl rfl hS (by unfold maxLen; omega) (by omega) ?_))
    intro v' w' h1 h2 h3 h4
    have h1 : OB w.heap.size w v' n (l.map bv) w' := by simpa using h1
    go_wp2
    go_ret
    exact ⟨_, rfl, h1⟩
end Go.Proofs.Ytidpffgdndjgpaa
