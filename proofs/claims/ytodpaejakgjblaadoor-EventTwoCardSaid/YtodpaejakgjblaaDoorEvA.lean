/- The contracts of layer 25 that no trigger has a part in: put, cut, within. -/
import Derived.Test.YtodpaejakgjblaaDoorEvP
import Derived.Test.YtodpaejakgjblaaDoorOb
import Derived.Deep.AppendSrc
import Derived.IntWalk
import Derived.Deep.QuietTactic
import Derived.OwnWalk
namespace Go.Proofs.YtodpaejakgjblaaDoor
open Go.RowKit
set_option linter.unusedVariables false
set_option maxRecDepth 20000

theorem src_byte {P : Program} {e' tx : TypeId} (w : World) (hk : P.underlying tx = some (.slice e')) (x : Int) (e : TypeId) : Src P 1 tx (.slice (some ⟨w.heap.size, 0, none⟩) 1 1) 1 [.int .u8 x] (w.alloc (.cells #[.int .u8 x] e)) :=
  Src.ofSlice _ hk ⟨w.heap.size, 0, none⟩ 1 1 [.int .u8 x] rfl (news_at w _ _) (by intro u hu; simp at hu; subst hu; rfl)
theorem src_byte2 {P : Program} {e' tx : TypeId} (w : World) (hk : P.underlying tx = some (.slice e')) (x y : Int) (e : TypeId) : Src P 1 tx (.slice (some ⟨w.heap.size, 0, none⟩) 2 2) 2 [.int .u8 x, .int .u8 y] (w.alloc (.cells #[.int .u8 x, .int .u8 y] e)) :=
  Src.ofSlice _ hk ⟨w.heap.size, 0, none⟩ 2 2 [.int .u8 x, .int .u8 y] rfl (news_at w _ _) (by intro u hu; simp at hu; rcases hu with rfl | rfl <;> rfl)
theorem bytes_bv (s : ByteArray) : byteCells s = s.data.toList.map bv := by
  unfold byteCells
  simp [bv]
theorem u8_of {n : Nat} (h : n < 256) : Value.int .u8 (n : Int) = bv (UInt8.ofNat n) := by
  simp only [bv]
  rw [UInt8.toNat_ofNat_of_lt' (by simpa using h)]

set_option maxHeartbeats 4000000 in
theorem evput_any {B n : Nat} {W w : World} {v : Value} {l : List UInt8} (s : ByteArray) (h : OB B W v n (l.map bv) w) (hn : n ≤ 1000000) (hs : s.size ≤ 255) :
    Calls Tryd.prog 56 #[v, .string s] w fun e w' => ∃ v', e = .returned v' ∧ OB B W v' (n + (1 + s.size)) ((l ++ lenB s.data.toList).map bv) w' := by
  obtain ⟨i0, hi, hz0, hz1, hz2⟩ := info_parts num_info
  obtain ⟨A, c, rfl, h1, h2, h3⟩ := h.slice
  have hu : IntKind.u8.wrap (s.size : Int) = s.size := by rw [IntKind.wrap_u8]; omega
  have H := Lib.hid h
  have hlb : (l ++ lenB s.data.toList).map bv = l.map bv ++ [.int .u8 (s.size : Int)] ++ byteCells s := by
    have hln : s.data.toList.length = s.size := by simp
    rw [bytes_bv, u8_of (by omega)]
    unfold lenB
    rw [hln, List.map_append, List.map_cons, List.append_assoc]
    rfl
  have HLB := Lib.hid hlb
  clear h h3 hlb
  go_enter Tryd.func56, Tryd.ntmps56
  go_wp2_with (at_builtin; go_loud (refine wpList_append_ob rfl _ _ 22 22 rfl 5 i0 _ 1 Tryd.underlying22 hi hz0 hz1 hz2 rfl (H.out.alloc _) rfl rfl (src_byte w Tryd.underlying22 _ _) ?c1 ?c2 ?_))
  case c1 => unfold maxLen; omega
  case c2 => omega
  intro v1 w1 hb1 _ _ _
  go_wp2_with (at_builtin; go_loud (refine wpList_append_ob rfl _ _ 22 9 rfl 5 i0 _ 1 Tryd.underlying22 hi hz0 hz1 hz2 rfl hb1 rfl rfl (Src.ofString w1 Tryd.underlying9 s) ?c1 ?c2 ?_))
  case c1 => unfold maxLen; omega
  case c2 => omega
  intro v2 w2 hb2 _ _ _
  go_wp2
  go_ret
  refine ⟨_, rfl, ?_⟩
  rw [HLB.out, ← Nat.add_assoc, List.append_assoc]
  exact hb2

def cutV : Option (List UInt8 × List UInt8) → Value
  | some (l, r) => .tuple #[sv l, sv r, .bool true]
  | none => .tuple #[.string ⟨#[]⟩, .string ⟨#[]⟩, .bool false]

set_option maxHeartbeats 4000000 in
theorem evcut_any (s : ByteArray) (w : World) (hs : s.size ≤ 140737488355328) :
    Calls Tryd.prog 74 #[.string s] w fun e w' => e = .returned (cutV (cutR s.data.toList)) ∧ ∃ k, w' = w.drewN k := by
  cases hl : s.data.toList with
  | nil =>
    have h0 : s = ⟨#[]⟩ := by apply ByteArray.ext; apply Array.ext'; simpa using hl
    subst h0
    go_enter Tryd.func74, Tryd.ntmps74
    go_wp2_with fail
    go_ret3
    exact ⟨rfl, 0, rfl⟩
  | cons c r =>
    have hsz : s.size = r.length + 1 := by have := congrArg List.length hl; simpa using this
    have hne : (s.toList == []) = false := str_empty s (by omega)
    have hne2 := str_empty' s (by omega)
    have h0 : 0 < s.size := by omega
    have hc : s[0] = c := by
      have h1 := toList_get s 0 h0
      simp only [hl, List.getElem_cons_zero] at h1
      exact h1.symm
    have hcl := c.toNat_lt
    obtain ⟨q, hq⟩ : ∃ q, q = c.toNat := ⟨_, rfl⟩
    have hcv : (s[0].toNat : Int) = q := by rw [hc, hq]
    have hw1 : IntKind.i64.wrap (q : Int) = q := IntWalk.i64_in _ (by omega)
    have hw2 : IntKind.i64.wrap (1 + (q : Int)) = 1 + (q : Int) := IntWalk.i64_in _ (by omega)
    have hr : cutR (c :: r) = if r.length < q then none else some (r.take q, r.drop q) := by rw [hq]; rfl
    rw [hr]
    by_cases hlt : r.length < q
    · rw [if_pos hlt]
      have hlt' : (s.size : Int) < 1 + q := by omega
      clear hr hl hc
      go_enter Tryd.func74, Tryd.ntmps74
      go_wp2_with fail
      go_ret3
      exact ⟨rfl, 0, rfl⟩
    · rw [if_neg hlt]
      have hlt' : ¬ ((s.size : Int) < 1 + q) := by omega
      have hle : (1 : Int) + q ≤ s.size := by omega
      have ht : ((1 : Int) + q).toNat = 1 + q := by omega
      have hx1 : Value.string (s.extract 1 (1 + q)) = sv (r.take q) := by
        rw [ba_extract, hl, List.extract_eq_take_drop]; simp
      have hx2 : Value.string (s.extract (1 + q) s.size) = sv (r.drop q) := by
        rw [ba_extract, hl, List.extract_eq_take_drop, hsz, Nat.add_comm 1 q]
        simp
        rw [List.take_of_length_le (by simp)]
      rw [hq] at hx1
      rw [hq, hsz] at hx2
      have HX1 := Lib.hid hx1
      have HX2 := Lib.hid hx2
      clear hr hl hc hx1 hx2
      go_enter Tryd.func74, Tryd.ntmps74
      go_upto_region 4 with fail
      go_quiet (fail)
      go_wp2_with fail
      go_ret3
      refine ⟨?_, _, rfl⟩
      show Ending.returned (Value.tuple #[Value.string (s.extract 1 (1 + c.toNat)), Value.string (s.extract (1 + c.toNat) (r.length + 1)), Value.bool true]) = Ending.returned (Value.tuple #[sv _, sv _, Value.bool true])
      rw [HX1.out, HX2.out]

theorem evin_any (n m : Int) (w : World) : Calls Tryd.prog 59 #[.int .i64 n, .int .i64 m] w fun e w' => e = .returned (.bool (inE n m)) ∧ w' = w := by
  unfold inE
  by_cases h0 : 0 ≤ n
  · by_cases h1 : n ≤ m
    · have e0 : (decide (0 ≤ n) && decide (n ≤ m)) = true := by simp [h0, h1]
      rw [e0]
      clear e0
      go_enter Tryd.func59, Tryd.ntmps59
      go_wp2_with fail
      go_ret
      exact ⟨rfl, rfl⟩
    · have e0 : (decide (0 ≤ n) && decide (n ≤ m)) = false := by simp [h0, h1]
      rw [e0]
      clear e0
      go_enter Tryd.func59, Tryd.ntmps59
      go_wp2_with fail
      go_ret
      exact ⟨rfl, rfl⟩
  · have e0 : (decide (0 ≤ n) && decide (n ≤ m)) = false := by simp [h0]
    rw [e0]
    clear e0
    go_enter Tryd.func59, Tryd.ntmps59
    go_wp2_with fail
    go_ret
    exact ⟨rfl, rfl⟩
end Go.Proofs.YtodpaejakgjblaaDoor
