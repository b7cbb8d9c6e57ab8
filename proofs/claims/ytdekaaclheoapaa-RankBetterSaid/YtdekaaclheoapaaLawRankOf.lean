/- The walks of RankOf and RankBetter. -/
import Derived.Test.YtdekaaclheoapaaRankC
namespace Go.Proofs.Ytdekaaclheoapaa
open Go.RowKit
set_option linter.unusedVariables false
set_option maxRecDepth 20000

theorem rb_u8 {z : Int} (h : (Lit.int .u8 z).wf = true) : ∃ k : Nat, z = k ∧ k < 256 := by
  have := bounds_u8 h
  exact ⟨z.toNat, by omega, by omega⟩
set_option maxHeartbeats 1600000 in
theorem rankOf_walk (w : World) (zone : Int) (hzw : (Lit.int .u32 zone).wf = true) (kind : Int) (hkw : (Lit.int .u8 kind).wf = true) (A : Option Addr) (n c : Nat) (zs : List Int) (hV : SlView w A n c (zs.map (Value.int .u8))) (hl : zs.length = n) (hz : ∀ z ∈ zs, (Lit.int .u8 z).wf = true) (hc : c ≤ 140737488351232) (six : Bool) (bits : Int) (hbw : (Lit.int .u8 bits).wf = true) :
    Calls Try.prog 8 #[.int .u32 zone, .int .u8 kind, .slice A n c, .bool six, .int .u8 bits] w fun e w' => e = .returned (.bool true) ∧ Below w.heap.size w w' := by
  obtain ⟨l, hzl⟩ := bytes_of zs hz
  rw [hzl] at hV
  have hnc := hV.le
  have hS : Sl w w.heap.size 1 A n (l.map bv) := hV.sl
  have hz32 := bounds_u32 hzw
  obtain ⟨q, rfl, hq⟩ := rb_u8 hkw
  obtain ⟨t, rfl, ht⟩ := rb_u8 hbw
  obtain ⟨Z, rfl⟩ : ∃ Z : Nat, zone = Z := ⟨zone.toNat, by omega⟩
  obtain ⟨K, hK⟩ : ∃ K, q % 7 = K := ⟨_, rfl⟩
  have TR := Lib.hid (fun (w' : World) (h : Sl w' w'.heap.size 1 A n (l.map bv)) => trigger_all q t hq ht A n c l six w' h (by omega))
  rw [hK] at TR
  have hq7 : (q : Int) % 7 = (K : Int) := by omega
  have hK7 : K < 7 := by omega
  clear hzl hz hl hV hzw hkw hbw hK
  go_enter Try.func8, Try.ntmps8
  go_wp2_with fail
  refine (awake18_any _).mono ?_
  rintro e w1 ⟨rfl, hb1⟩
  have hz1 := hb1.size
  go_wp2_with fail
  refine (TR.out _ ((hS.below hb1).more hb1.size)).mono ?_
  rintro e w2 ⟨nm, pa, tb, len, rfl, hnm, hlen, hlen2, htb0, htb1, hpa, hb2⟩
  have hB2 := below_trans hb1 hz1 hb2
  obtain ⟨X, hX⟩ : ∃ X, X = 256 * K + 255 - len := ⟨_, rfl⟩
  have OF := Lib.hid (fun w => of_rk Z K nm pa tb len w hK7 hnm hlen hlen2)
  have LE := Lib.hid (fun w => length18_any (K : Int) nm pa tb w (by unfold maxLen; omega))
  rw [hlen] at LE
  rw [← hX] at OF
  have ZO := Lib.hid (fun w => zone_rk Z X (by omega) w)
  have ST := Lib.hid (fun w => step_rk Z X (by omega) w)
  have LN := Lib.hid (fun w => length_rk Z X (by omega) w)
  rw [show X / 256 = K by omega] at ST
  rw [show (255 - X % 256 : Nat) = len by omega] at LN
  have o1 := wh_order Z Z (by omega) (by omega)
  have o2 := wh_order X X (by omega) (by omega)
  rw [Nat.compare_eq_eq.2 rfl] at o1 o2
  have hwant : 256 * (K : Int) + 255 - (len : Int) = (X : Int) := by omega
  have i1 : IntKind.i64.wrap (K : Int) = K := IntWalk.i64_in _ (by omega)
  have i2 : IntKind.i64.wrap (256 * (K : Int)) = 256 * (K : Int) := IntWalk.i64_in _ (by omega)
  have i3 : IntKind.i64.wrap (256 * (K : Int) + 255) = 256 * (K : Int) + 255 := IntWalk.i64_in _ (by omega)
  have i4 : IntKind.i64.wrap (256 * (K : Int) + 255 - (len : Int)) = (X : Int) := by rw [IntWalk.i64_in _ (by omega)]; exact hwant
  have i5 : IntKind.i64.wrap (Z : Int) = Z := IntWalk.i64_in _ (by omega)
  clear hnm hlen hb2 hb1 hz1 hS htb0 htb1 hpa hX hK7 hlen2 hq ht TR
  unfold trig rk at *
  go_wp2_with fail
  obtain ⟨W, hW⟩ : ∃ W, W = w2.alloc (.cells #[.int .i64 K, .string nm, .string pa, .int .i64 tb] 51) := ⟨_, rfl⟩
  rw [← hW]
  have hzW : W.heap.size = w2.heap.size + 1 := by rw [hW]; simp
  have hBW : Below w.heap.size w W := by rw [hW]; exact hB2.alloc hB2.size _
  have c0 : W.cell? ⟨w2.heap.size, 0, none⟩ = some (.int .i64 K) := by rw [hW]; simp
  have c1 : W.cell? ⟨w2.heap.size, 1, none⟩ = some (.string nm) := by rw [hW]; simp
  have c2 : W.cell? ⟨w2.heap.size, 2, none⟩ = some (.string pa) := by rw [hW]; simp
  have c3 : W.cell? ⟨w2.heap.size, 3, none⟩ = some (.int .i64 tb) := by rw [hW]; simp
  clear hW
  refine (OF.out _).mono ?_
  rintro e w3 ⟨rfl, hb3⟩
  have d0 := (hb3.cell (p := ⟨w2.heap.size, 0, none⟩) (by show w2.heap.size < W.heap.size; omega)).trans c0
  have d1 := (hb3.cell (p := ⟨w2.heap.size, 1, none⟩) (by show w2.heap.size < W.heap.size; omega)).trans c1
  have d2 := (hb3.cell (p := ⟨w2.heap.size, 2, none⟩) (by show w2.heap.size < W.heap.size; omega)).trans c2
  have d3 := (hb3.cell (p := ⟨w2.heap.size, 3, none⟩) (by show w2.heap.size < W.heap.size; omega)).trans c3
  have hB3 := below_trans hBW hBW.size hb3
  clear hb3 hB2 hBW c0 c1 c2 c3 hzW
  go_wp2_with fail
  refine (LE.out _).mono ?_
  rintro e w4 ⟨rfl, hb4⟩
  have hB4 := below_trans hB3 hB3.size hb4
  clear hb4 hB3 d0 d1 d2 d3
  go_wp2_with fail
  refine (ZO.out _).mono ?_
  rintro e w5 ⟨rfl, rfl⟩
  go_wp2_with fail
  refine (ST.out _).mono ?_
  rintro e w5 ⟨rfl, rfl⟩
  go_wp2_with fail
  refine (LN.out _).mono ?_
  rintro e w5 ⟨rfl, rfl⟩
  go_wp2_with fail
  go_ret
  exact ⟨rfl, hB4⟩
end Go.Proofs.Ytdekaaclheoapaa
