/- The contracts of layer 8: where a record is among others. -/
import Derived.Test.YtpbbnpglcadimaaDoorZonA
namespace Go.Proofs.YtpbbnpglcadimaaDoor
open Go.RowKit
set_option linter.unusedVariables false
set_option linter.unusedSimpArgs false
set_option maxRecDepth 20000
def eqB (r r' : RecT) : Bool := r.1.toList == r'.1.toList && (r.2.1 == r'.2.1 && (r.2.2.1 == r'.2.2.1 && r.2.2.2.toList == r'.2.2.2.toList))
theorem eqB_iff (r r' : RecT) : eqB r r' = true ↔ r = r' := by
  constructor
  · intro h; exact rec_eq (by rw [show (r.1.toList == r'.1.toList && (r.2.1 == r'.2.1 && (r.2.2.1 == r'.2.2.1 && r.2.2.2.toList == r'.2.2.2.toList))) = true from h]; rfl)
  · rintro rfl; unfold eqB; simp
theorem eqB_false {r r' : RecT} (h : eqB r r' = false) : r ≠ r' := by
  intro e; rw [(eqB_iff r r').2 e] at h; cases h
theorem rec_eql (r r' : RecT) (w : World) : (binOp .eql 41 (recV r) (recV r')).run Tryd.prog w = .ok (.bool (eqB r r')) w := by
  obtain ⟨f0, f1, f2, f3, hf, ⟨t0, t1, t2, t3⟩, ⟨n0, n1, n2, n3⟩, ⟨o0, o1, o2, o3⟩, ⟨c0, c1, c2, c3⟩⟩ := rec_fields
  unfold recV eqB
  rw [run_eql_struct, run_equalIn_agg (P := Tryd.prog) w _ _ _ _ Tryd.underlying41 (by kernel_rfl), hf]
  simp [go_sem, Op.eqFields, isAgg, run_underlying t0, run_underlying t1, run_underlying t2, run_underlying t3, t0, t1, t2, t3, n0, n1, n2, n3, o0, o1, o2, o3]
  by_cases e0 : r.1.toList = r'.1.toList <;> by_cases e1 : r.2.1 = r'.2.1 <;> by_cases e2 : r.2.2.1 = r'.2.2.1 <;> by_cases e3 : r.2.2.2.toList = r'.2.2.2.toList <;> simp [e0, e1, e2, e3]
/-- The first place of a record among others; -1, if there is none. -/
def IdxR (rs : List RecT) (r : RecT) (i : Int) : Prop := (i = -1 ∧ r ∉ rs) ∨ ∃ k : Nat, i = k ∧ rs[k]? = some r ∧ r ∉ rs.take k
def hasB (rs : List RecT) (r : RecT) : Bool := rs.any (eqB r)
theorem hasB_iff (rs : List RecT) (r : RecT) : hasB rs r = true ↔ r ∈ rs := by
  unfold hasB
  rw [List.any_eq_true]
  constructor
  · rintro ⟨q, hq, he⟩; rw [(eqB_iff r q).1 he]; exact hq
  · intro h; exact ⟨r, h, (eqB_iff r r).2 rfl⟩
theorem hasB_false {rs : List RecT} {r : RecT} : hasB rs r = false ↔ r ∉ rs := by
  rw [← hasB_iff]; simp
theorem IdxR.has {rs : List RecT} {r : RecT} {i : Int} (h : IdxR rs r i) : decide (0 ≤ i) = hasB rs r := by
  rcases h with ⟨rfl, h⟩ | ⟨k, rfl, h, _⟩
  · rw [hasB_false.2 h]; rfl
  · rw [(hasB_iff _ _).2 (List.mem_of_getElem? h)]; simp
set_option maxHeartbeats 1600000 in
theorem index_any (A : Option Addr) (n c : Nat) (rs : List RecT) (r : RecT) (w : World) (h : Recs w A rs) (hl : rs.length = n) (hn : n ≤ maxLen) :
    Calls Tryd.prog 70 #[.slice A n c, recV r] w fun e w' => ∃ i, e = .returned (.int .i64 i) ∧ IdxR rs r i ∧ Below w.heap.size w w' := by
  unfold maxLen at hn
  have HH := Lib.hid h
  have HL := Lib.hid hl
  clear h hl
  unfold recV
  obtain ⟨W, hW⟩ : ∃ W, W = w.alloc (.cells #[.string r.1, .int .u16 r.2.1, .int .u32 r.2.2.1, .string r.2.2.2] 41) := ⟨_, rfl⟩
  have hC : Cs W w.heap.size [.string r.1, .int .u16 r.2.1, .int .u32 r.2.2.1, .string r.2.2.2] := by rw [hW]; exact Cs.new w _ _ _
  have hbW : Below w.heap.size w W := by rw [hW]; exact (Below.refl _ _).alloc (Nat.le_refl _) _
  have HW := Lib.hid hW
  have HC := Lib.hid hC
  have HBW := Lib.hid hbW
  have HR := Lib.hid (HH.out.below hbW)
  clear hW hC hbW
  go_enter Tryd.func70, Tryd.ntmps70
  go_wp2_with fail
  rw [← HW.out]
  go_loopw [8] (fun i wr => ∃ k : Nat, k ≤ n ∧ i = .int .i64 k ∧ Hid (r ∉ rs.take k) ∧ Hid (Below W.heap.size W wr)) (fun i _ => n - (intOf i).toNat)
  case atStart => exact ⟨0, Nat.zero_le _, rfl, Lib.hid (by simp), Lib.hid (Below.refl _ _)⟩
  case round =>
    obtain ⟨k, hk, rfl, HN, HB⟩ := hrel
    by_cases hlt : k < n
    · have hlt' : (k : Int) < n := by omega
      obtain ⟨q, hq⟩ : ∃ q, rs[k]? = some q := ⟨_, List.getElem?_eq_getElem (by rw [HL.out]; exact hlt)⟩
      obtain ⟨b, off, rfl, hb, z0, z1, z2, z3⟩ := (HR.out.below HB.out) k _ hq
      have hc := HC.out.below HB.out
      have c0 := hc.get 0 _
      have c1 := hc.get 1 _
      have c2 := hc.get 2 _
      have c3 := hc.get 3 _
      have HQ := Lib.hid hq
      have hnq := fun w => rec_eql r q w
      obtain ⟨t, ht⟩ : ∃ t, eqB r q = t := ⟨_, rfl⟩
      rw [ht] at hnq
      unfold recV at hnq
      have HT := Lib.hid ht
      clear hc hq ht
      go_upto_region 4 with fail
      go_quiet (fail)
      have HB2 := Lib.hid (show Below W.heap.size W _ from ⟨HB.out.os, HB.out.tape, HB.out.output, HB.out.size, HB.out.block⟩ : Below W.heap.size W (World.drewN _ nq))
      generalize World.drewN _ nq = W1 at *
      clear z0 z1 z2 z3 c0 c1 c2 c3 hnq
      cases t with
      | false =>
        go_wp2_with fail
        go_round
        case rel => exact ⟨k + 1, by omega, by go_num, Lib.hid (by rw [List.take_add_one, HQ.out]; intro hm; exact (List.mem_append.1 hm).elim (fun hm => HN.out hm) (fun hm => by simp at hm; exact eqB_false HT.out hm)), HB2⟩
        case measure => simp [intOf]; omega
      | true =>
        go_wp2_with fail
        go_ret
        exact ⟨_, rfl, .inr ⟨k, rfl, by rw [HQ.out, (eqB_iff r q).1 HT.out], HN.out⟩, below_trans HBW.out HBW.out.size HB2.out⟩
    · have hlt' : ¬ (k : Int) < n := by omega
      go_wp2_with fail
      go_ret
      exact ⟨_, rfl, .inl ⟨rfl, by have := HN.out; rwa [List.take_of_length_le (by rw [HL.out]; omega)] at this⟩, below_trans HBW.out HBW.out.size HB.out⟩
theorem contains_any (A : Option Addr) (n c : Nat) (rs : List RecT) (r : RecT) (w : World) (h : Recs w A rs) (hl : rs.length = n) (hn : n ≤ maxLen) :
    Calls Tryd.prog 73 #[.slice A n c, recV r] w fun e w' => e = .returned (.bool (hasB rs r)) ∧ Below w.heap.size w w' := by
  have IX := Lib.hid (fun w h => index_any A n c rs r w h hl hn)
  have HH := Lib.hid h
  unfold recV at IX ⊢
  clear h hl hn
  go_enter Tryd.func73, Tryd.ntmps73
  go_wp2_with fail
  refine (IX.out _ (HH.out.below ((Below.refl _ _).alloc (Nat.le_refl _) _))).mono ?_
  rintro e w1 ⟨i, rfl, hi, hb⟩
  have HI := Lib.hid hi.has
  have HB := Lib.hid (below_alloc _ (Below.refl _ _) (Nat.le_refl _) hb)
  clear hi hb
  go_wp2_with fail
  go_ret
  exact ⟨by rw [← HI.out]; rfl, HB.out⟩
theorem has_any (A : Option Addr) (n c : Nat) (rs : List RecT) (r : RecT) (w : World) (h : Recs w A rs) (hl : rs.length = n) (hn : n ≤ maxLen) :
    Calls Tryd.prog 56 #[.slice A n c, recV r] w fun e w' => e = .returned (.bool (hasB rs r)) ∧ Below w.heap.size w w' := by
  have IX := Lib.hid (fun w h => contains_any A n c rs r w h hl hn)
  have HH := Lib.hid h
  obtain ⟨q, hq⟩ : ∃ q, hasB rs r = q := ⟨_, rfl⟩
  rw [hq] at IX ⊢
  unfold recV at IX ⊢
  clear h hl hn hq
  go_enter Tryd.func56, Tryd.ntmps56
  go_wp2_with fail
  refine (IX.out _ (HH.out.below ((Below.refl _ _).alloc (Nat.le_refl _) _))).mono ?_
  rintro e w1 ⟨rfl, hb⟩
  have HB := Lib.hid (below_alloc _ (Below.refl _ _) (Nat.le_refl _) hb)
  clear hb
  go_wp2_with fail
  go_ret
  exact ⟨rfl, HB.out⟩
end Go.Proofs.YtpbbnpglcadimaaDoor
