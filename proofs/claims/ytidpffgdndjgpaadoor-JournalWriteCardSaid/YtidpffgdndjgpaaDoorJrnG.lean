/- Write of bytes that are too many; a deed's bytes. -/
import Derived.Test.YtidpffgdndjgpaaDoorJrnF
import Derived.Test.YtidpffgdndjgpaaDoorView3
import Derived.Outline
import Derived.Deep.OwnRows
import Derived.Laws.OwnMore
namespace Go.Proofs.YtidpffgdndjgpaaDoor
open Go.RowKit
set_option linter.unusedVariables false
set_option maxRecDepth 20000
section
variable {F : Nat → Prop} {B : Nat} {W : World} {d j : Nat} {segs : List (List UInt8)} {safe writes : Nat} {w w' : World}
theorem write_no (A : Option Addr) (n c : Nat) (w : World) (h : 600 < n) (hn : n ≤ maxLen) :
    Calls Tryd.prog 7 #[.pointer (some ⟨j, 0, none⟩), .slice A n c] w fun e w' => (∃ T v, e = .returned (.iface T v)) ∧ w = w' := by
  have MK := Lib.hid (make_no A n c w h hn)
  clear h hn
  go_enter Tryd.func7, Tryd.ntmps7
  go_wp2_with fail
  refine MK.out.mono ?_
  clear MK
  rintro e w1 ⟨rfl, rfl⟩
  go_wp2_with fail
  go_ret
  exact ⟨⟨_, _, rfl⟩, rfl⟩
end
theorem Sl.up2 {w : World} {B B' size n : Nat} {A : Option Addr} {xs : List Value} (h : Sl w B size A n xs) (hB : B ≤ B') : Sl w B' size A n xs := ⟨h.1, fun hn => by
  obtain ⟨b, o, e, hb, hc⟩ := h.2 hn
  exact ⟨b, o, e, Nat.lt_of_lt_of_le hb hB, hc⟩⟩
/-- The bytes that a deed writes. -/
def deedL (a : DeedT) : List UInt8 := if a.2.2.1 % 8 = 7 then List.replicate (100 + 2 * a.2.2.1.toNat) 0 else a.2.1.2.2.2
theorem byte_makes : (Tryd.prog.info? 5).map (fun i => (i.zero, i.size, i.bytes)) = some (some (.int .u8 0), 1, 1) := by kernel_rfl
theorem made_bytes (n : Nat) : (madeCells #[Value.int .u8 0] n).toList = (List.replicate n (0 : UInt8)).map bv := by
  rw [toList_madeCells_one, List.map_replicate]; rfl
theorem deed_bytes (o : Int) (A : Option Addr) (n c : Nat) (l : List UInt8) (L N : Int) (hL : 0 ≤ L ∧ L < 256) (w : World) (hS : Sl w w.heap.size 1 A n (l.map bv)) (hA0 : A = none → n = 0) (hn : n ≤ 140737488355328) :
    Calls Tryd.prog 6 #[.agg #[.int .u8 o, .slice A n c, .int .u8 L, .int .i8 N]] w fun e w' => ∃ A' n' c', e = .returned (.slice A' n' c') ∧ Sl w' w'.heap.size 1 A' n' ((deedL (o, (A, n, c, l), L, N)).map bv) ∧ (A' = none → n' = 0) ∧ n' ≤ 140737488355328 ∧ Below w.heap.size w w' := by
  obtain ⟨k, rfl⟩ : ∃ k : Nat, L = k := ⟨L.toNat, by omega⟩
  have hk : k < 256 := by omega
  obtain ⟨q, hq⟩ : ∃ q, q = k % 8 := ⟨_, rfl⟩
  have hqi : (k : Int) % 8 = (q : Int) := by omega
  by_cases h7 : q = 7
  · subst h7
    obtain ⟨m, hm⟩ : ∃ m, m = 100 + 2 * k := ⟨_, rfl⟩
    have hm1 : 2 * (k : Int) = ((2 * k : Nat) : Int) := by omega
    have hm2 : 100 + 2 * (k : Int) = (m : Int) := by omega
    have hm3 : IntKind.i64.wrap (k : Int) = (k : Int) := IntWalk.i64_in _ (by omega)
    have hm4 : IntKind.i64.wrap (2 * (k : Int)) = 2 * (k : Int) := IntWalk.i64_in _ (by omega)
    have hm5 : IntKind.i64.wrap (100 + 2 * (k : Int)) = (m : Int) := by rw [hm2]; exact IntWalk.i64_in _ (by omega)
    have hd : deedL (o, (A, n, c, l), (k : Int), N) = List.replicate m 0 := by
      unfold deedL; simp only; rw [if_pos (by omega), hm]; simp
    have hmk := run_make_row' (P := Tryd.prog) 32 5 (.int .u8 0) 1 Tryd.underlying32 byte_makes rfl .i64 .i64 m (by omega) (by omega)
    rw [hd]
    have HM := Lib.hid hm
    clear hd hm hq hS hA0 hn hm1 hL hm2
    go_enter Tryd.func6, Tryd.ntmps6
    go_wp2_with fail
    go_ret
    obtain ⟨W1, hW1⟩ : ∃ W1, W1 = w.alloc (.cells #[.int .u8 o, .slice A n c, .int .u8 k, .int .i8 N] 35) := ⟨_, rfl⟩
    have hz : W1.heap.size = w.heap.size + 1 := by rw [hW1]; simp
    have hb : Below w.heap.size w W1 := by rw [hW1]; exact (Below.refl _ _).alloc (Nat.le_refl _) _
    rw [← hW1, ← hz]
    exact ⟨_, _, _, rfl, Sl.fresh W1 _ _ m _ (made_bytes m) (by simp), (fun h => by cases h), by have := HM.out; omega, hb.alloc hb.size _⟩
  · have hd : deedL (o, (A, n, c, l), (k : Int), N) = l := by unfold deedL; simp only; rw [if_neg (by omega)]
    have hq7 : ((q : Int) == 7) = false := by simp; omega
    rw [hd]
    obtain ⟨W1, hW1⟩ : ∃ W1, W1 = w.alloc (.cells #[.int .u8 o, .slice A n c, .int .u8 k, .int .i8 N] 35) := ⟨_, rfl⟩
    have hb : Below w.heap.size w W1 := by rw [hW1]; exact (Below.refl _ _).alloc (Nat.le_refl _) _
    have HS := Lib.hid ((hS.below hb).up2 hb.size)
    have HA := Lib.hid hA0
    have HW := Lib.hid hW1
    have HB := Lib.hid hb
    clear hd hq hS hA0 h7 hW1 hb hL
    go_enter Tryd.func6, Tryd.ntmps6
    go_wp2_with fail
    go_ret
    rw [← HW.out]
    exact ⟨_, _, _, rfl, HS.out, HA.out, hn, HB.out⟩
end Go.Proofs.YtidpffgdndjgpaaDoor
