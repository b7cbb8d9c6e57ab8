/- A trigger by numbers (bolterlaw13.Trigger): of the kinds that have addresses. -/
import Derived.Test.YtdekaaclheoapaaTrigA
import Derived.Test.YtdekaaclheoapaaLawPfx
namespace Go.Proofs.Ytdekaaclheoapaa
open Go.RowKit
set_option linter.unusedVariables false
set_option maxRecDepth 20000

set_option maxHeartbeats 1600000 in
theorem trigger_addr (q K t : Nat) (hq : q < 256) (ht : t < 256) (hK : q % 7 = K) (hk : K = 0 ∨ K = 3 ∨ K = 6) (A : Option Addr) (n c : Nat) (l : List UInt8) (six : Bool) (w : World) (hA : Sl w w.heap.size 1 A n (l.map bv)) (hn : n ≤ 140737488355328) :
    Calls Try.prog 25 #[.int .u8 q, .slice A n c, .bool six, .int .u8 t] w fun e w' => ∃ s : ByteArray, s.size = addrN six ∧
      e = .returned (.agg #[.int .i64 K, .string ⟨#[]⟩, .string ⟨(cutL s.data.toList (t % (8 * addrN six + 1))).toArray⟩, .int .i64 ((t % (8 * addrN six + 1) : Nat) : Int)]) ∧ Below w.heap.size w w' := by
  obtain ⟨r, er⟩ : ∃ r, t % (8 * addrN six + 1) = r := ⟨_, rfl⟩
  rw [er]
  have ER := Lib.hid er
  clear er
  have hq7 : (q : Int) % 7 = (K : Int) := by omega
  have hks : ((K : Int) == 0) = true ∨ (((K : Int) == 0) = false ∧ ((K : Int) == 3) = true) ∨ (((K : Int) == 0) = false ∧ ((K : Int) == 3) = false ∧ ((K : Int) == 6) = true) := by
    rcases hk with h | h | h
    · left; simp; omega
    · right; left; constructor <;> (simp; omega)
    · right; right; refine ⟨?_, ?_, ?_⟩ <;> (simp; omega)
  have hK7 : K < 7 := by omega
  clear hK hk
  go_enter Try.func25, Try.ntmps25
  go_upto_region 2 with fail
  obtain ⟨W, hW⟩ : ∃ W, W = (w.alloc (.cells #[.int .i64 0, .string ⟨#[]⟩, .string ⟨#[]⟩, .int .i64 0] 51)).alloc (.cells #[.int .i64 K, .string ⟨#[]⟩, .string ⟨#[]⟩, .int .i64 0] 51) := ⟨_, rfl⟩
  rw [← hW]
  have hBW : Below w.heap.size w W := by rw [hW]; exact ((Below.refl _ _).alloc (Nat.le_refl _) _).alloc (by simp) _
  have hzW : W.heap.size = w.heap.size + 2 := by rw [hW]; simp
  have a0 : W.cell? ⟨w.heap.size, 0, none⟩ = some (.int .i64 0) := by rw [hW]; exact World.cell?_alloc2_first _ _ _ _
  have a1 : W.cell? ⟨w.heap.size, 1, none⟩ = some (.string ⟨#[]⟩) := by rw [hW]; exact World.cell?_alloc2_first _ _ _ _
  have a2 : W.cell? ⟨w.heap.size, 2, none⟩ = some (.string ⟨#[]⟩) := by rw [hW]; exact World.cell?_alloc2_first _ _ _ _
  have a3 : W.cell? ⟨w.heap.size, 3, none⟩ = some (.int .i64 0) := by rw [hW]; exact World.cell?_alloc2_first _ _ _ _
  have fa : ∀ i, W.frozen? ⟨w.heap.size, i, none⟩ = false := by
    intro i; rw [hW, World.frozen?_alloc_past _ _ _ (by simp), World.frozen?_alloc_at _ _ _ _ rfl]
  have fb : ∀ i, W.frozen? ⟨w.heap.size + 1, i, none⟩ = false := by
    intro i; rw [hW, World.frozen?_alloc_at _ _ _ _ (by simp)]
  have b0 : W.cell? ⟨w.heap.size + 1, 0, none⟩ = some (.int .i64 K) := by rw [hW]; simp
  have b1 : W.cell? ⟨w.heap.size + 1, 1, none⟩ = some (.string ⟨#[]⟩) := by rw [hW]; simp
  have b2 : W.cell? ⟨w.heap.size + 1, 2, none⟩ = some (.string ⟨#[]⟩) := by rw [hW]; simp
  have b3 : W.cell? ⟨w.heap.size + 1, 3, none⟩ = some (.int .i64 0) := by rw [hW]; simp
  have hAW := (hA.below hBW).more hBW.size
  have HAD := Lib.hid (fun _ : Unit => addr_any six A n c l W hAW hn)
  have HZW := Lib.hid hzW
  have HBW := Lib.hid hBW
  have hN : addrN six = 4 ∨ addrN six = 16 := by unfold addrN; cases six <;> simp
  clear hW hA hq7 hq hzW hBW hAW
  rcases hks with hK0 | ⟨hK0, hK3⟩ | ⟨hK0, hK3, hK6⟩
  all_goals
    go_wp2_with fail
    refine (HAD.out ()).mono ?_
    rintro e w4 ⟨s, hs, rfl, hb4⟩
    have hz4 := hb4.size
    have hr : r ≤ 8 * s.size := by rw [hs]; have h1 := Nat.mod_lt t (show 0 < 8 * addrN six + 1 by omega); have h2 := ER.out; omega
    have hsm : (t : Int) % (8 * (s.size : Int) + 1) = (r : Int) := by
      rw [hs]
      have h2 := ER.out
      rcases hN with h | h <;> (rw [h] at h2 ⊢; omega)
    have hcut := pcut_yes s.data.toList r w4 (by simp [isAddr]; omega) (by simpa using hr)
    rw [ba_eta] at hcut
    obtain ⟨CC, eCC⟩ : ∃ CC : ByteArray, CC = ⟨(cutL s.data.toList r).toArray⟩ := ⟨_, rfl⟩
    rw [← eCC] at hcut
    have HCUT := Lib.hid hcut
    have ECC := Lib.hid eCC
    have HS := Lib.hid hs
    have h16 : s.size ≤ 16 := by omega
    have hne : ¬ (8 * (s.size : Int) + 1) = 0 := by omega
    have v1 : IntKind.i64.wrap (8 * (s.size : Int)) = 8 * (s.size : Int) := IntWalk.i64_in _ (by omega)
    have v2 : IntKind.i64.wrap (8 * (s.size : Int) + 1) = 8 * (s.size : Int) + 1 := IntWalk.i64_in _ (by omega)
    clear hcut eCC hs
    go_wp2_with fail
    refine HCUT.out.mono ?_
    rintro e w5 ⟨rfl, hb5'⟩
    have hb5 := below_trans hb4 hz4 hb5'
    have hzW := HZW.out
    have hW5 := hb5
    have e0 := (hW5.cell (p := ⟨w.heap.size + 1, 0, none⟩) (by show w.heap.size + 1 < W.heap.size; omega)).trans b0
    have e1 := (hW5.cell (p := ⟨w.heap.size + 1, 1, none⟩) (by show w.heap.size + 1 < W.heap.size; omega)).trans b1
    have e2 := (hW5.cell (p := ⟨w.heap.size + 1, 2, none⟩) (by show w.heap.size + 1 < W.heap.size; omega)).trans b2
    have e3 := (hW5.cell (p := ⟨w.heap.size + 1, 3, none⟩) (by show w.heap.size + 1 < W.heap.size; omega)).trans b3
    have d0 := (hW5.cell (p := ⟨w.heap.size, 0, none⟩) (by show w.heap.size < W.heap.size; omega)).trans a0
    have d1 := (hW5.cell (p := ⟨w.heap.size, 1, none⟩) (by show w.heap.size < W.heap.size; omega)).trans a1
    have d2 := (hW5.cell (p := ⟨w.heap.size, 2, none⟩) (by show w.heap.size < W.heap.size; omega)).trans a2
    have d3 := (hW5.cell (p := ⟨w.heap.size, 3, none⟩) (by show w.heap.size < W.heap.size; omega)).trans a3
    have fd : ∀ i, w5.frozen? ⟨w.heap.size, i, none⟩ = false := fun i => (hW5.frozen (p := ⟨w.heap.size, i, none⟩) (by show w.heap.size < W.heap.size; omega)).trans (fa i)
    have fe : ∀ i, w5.frozen? ⟨w.heap.size + 1, i, none⟩ = false := fun i => (hW5.frozen (p := ⟨w.heap.size + 1, i, none⟩) (by show w.heap.size + 1 < W.heap.size; omega)).trans (fb i)
    have hwfin := HBW.out.trans (hW5.mono HBW.out.size)
    clear hW5 a0 a1 a2 a3 fa fb b0 b1 b2 b3 hb5 hb5' hzW hb4 hz4 HCUT hr hsm hne v1 v2 h16
    go_wp2_with fail
    refine bodyPost_ret (v := .agg #[.int .i64 K, .string ⟨#[]⟩, .string CC, .int .i64 r]) (by simp [results, Try.results25, go_sem, d0, d1, d2, d3]) rfl ⟨s, HS.out, congrArg (fun x => Ending.returned (.agg #[.int .i64 K, .string ⟨#[]⟩, .string x, .int .i64 r])) ECC.out, ?_⟩
    iterate 6 (refine Below.setCell ?_ (by simp) _)
    exact hwfin
end Go.Proofs.Ytdekaaclheoapaa
