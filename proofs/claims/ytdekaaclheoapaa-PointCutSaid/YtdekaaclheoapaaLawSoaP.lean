/- The walks of SoaParse and SoaOf. -/
import Derived.Test.YtdekaaclheoapaaLawSoa
import Derived.Test.YtdekaaclheoapaaNameW
import Derived.Test.YtdekaaclheoapaaOb
namespace Go.Proofs.Ytdekaaclheoapaa
open Go.RowKit
set_option linter.unusedVariables false
set_option maxRecDepth 20000

theorem at8_mk (t : List UInt8) (i : Nat) (h : i < t.length) : at8 ⟨t.toArray⟩ i = (t[i]).toNat := by
  unfold at8; simp [List.getD_eq_getElem?_getD, List.getElem?_eq_getElem h]
theorem n32_lt (s : ByteArray) (a : Nat) : n32 s a < 4294967296 := by
  have h1 := at8_lt s a; have h2 := at8_lt s (a + 1); have h3 := at8_lt s (a + 2); have h4 := at8_lt s (a + 3)
  unfold n32; omega
theorem b32_n32 (t : List UInt8) (a : Nat) (h : a + 4 ≤ t.length) : b32 (n32 ⟨t.toArray⟩ a) = (t.drop a).take 4 := by
  have h0 := at8_mk t a (by omega)
  have h1 := at8_mk t (a + 1) (by omega)
  have h2 := at8_mk t (a + 2) (by omega)
  have h3 := at8_mk t (a + 3) (by omega)
  have l0 := (t[a]'(by omega)).toNat_lt
  have l1 := (t[a+1]'(by omega)).toNat_lt
  have l2 := (t[a+2]'(by omega)).toNat_lt
  have l3 := (t[a+3]'(by omega)).toNat_lt
  have hd : (t.drop a).take 4 = [t[a]'(by omega), t[a+1]'(by omega), t[a+2]'(by omega), t[a+3]'(by omega)] := by
    rw [List.drop_eq_getElem_cons (by omega), List.drop_eq_getElem_cons (by omega), List.drop_eq_getElem_cons (by omega), List.drop_eq_getElem_cons (by omega)]; rfl
  rw [hd]
  unfold b32 n32
  rw [h0, h1, h2, h3]
  have key : ∀ (x : UInt8) (m : Nat), m = x.toNat → UInt8.ofNat m = x := by rintro x m rfl; simp
  simp only [List.cons.injEq, and_true]
  refine ⟨key _ _ ?_, key _ _ ?_, key _ _ ?_, key _ _ ?_⟩ <;> omega
/-- The five numbers of twenty bytes. -/
def nums (t : List UInt8) : List Nat := [n32 ⟨t.toArray⟩ 0, n32 ⟨t.toArray⟩ 4, n32 ⟨t.toArray⟩ 8, n32 ⟨t.toArray⟩ 12, n32 ⟨t.toArray⟩ 16]
theorem nums_bytes (t : List UInt8) (h : t.length = 20) : (nums t).flatMap b32 = t := by
  unfold nums
  simp only [List.flatMap_cons, List.flatMap_nil, List.append_nil]
  rw [b32_n32 t 0 (by omega), b32_n32 t 4 (by omega), b32_n32 t 8 (by omega), b32_n32 t 12 (by omega), b32_n32 t 16 (by omega)]
  have e : ∀ a, t.drop a = (t.drop a).take 4 ++ t.drop (a + 4) := fun a => by rw [← List.drop_drop]; exact (List.take_append_drop 4 _).symm
  have e5 : (t.drop 16).take 4 = t.drop 16 := List.take_of_length_le (by simp; omega)
  rw [e5, ← e 12, ← e 8, ← e 4, ← e 0, List.drop_zero]
theorem dataL_soa {l a b t : List UInt8} (h : IsSoa l a b t) : dataL a b (nums t) = l := by
  unfold dataL
  rw [nums_bytes t h.2.2]
  exact h.1.2.symm
set_option maxHeartbeats 1600000 in
theorem soaParse_walk (w : World) (d : ByteArray) (hd : d.size ≤ 140737488351232) :
    Calls Try.prog 4 #[.string d] w fun e w' => e = .returned (.bool true) ∧ Below w.heap.size w w' := by
  have PA := Lib.hid (fun w => parse_any d w (by omega))
  have RM := Lib.hid (fun w => rmay_soa d w (by omega))
  go_enter Try.func4, Try.ntmps4
  go_wp2_with fail
  refine (awake07_any _).mono ?_
  rintro e w1 ⟨rfl, hb1⟩
  go_wp2_with fail
  refine (PA.out _).mono ?_
  rintro e w2 ⟨hb2', ⟨a, b, t, hy, rfl⟩ | ⟨hno, rfl⟩⟩
  · have hb2 := below_trans hb1 hb1.size hb2'
    have l1 := hy.1.len
    have l2 : d.data.toList.length = d.size := by simp
    have l3 : (b ++ 0 :: t).length = b.length + t.length + 1 := by simp; omega
    have DA := Lib.hid (fun w => sdata_any ⟨a.toArray⟩ ⟨b.toArray⟩ (n32 ⟨t.toArray⟩ 0) (n32 ⟨t.toArray⟩ 4) (n32 ⟨t.toArray⟩ 8) (n32 ⟨t.toArray⟩ 12) (n32 ⟨t.toArray⟩ 16) w (by rw [mk_size]; omega) (by rw [mk_size]; omega) (n32_lt _ _) (n32_lt _ _) (n32_lt _ _) (n32_lt _ _) (n32_lt _ _))
    rw [mk_toList, mk_toList] at DA
    have hm : mayL a ∧ mayL b := ⟨hy.1.1, hy.2.1⟩
    have hdd : sv (dataL a b (nums t)) = .string d := by rw [dataL_soa hy, sv_bytes]
    have HY := Lib.hid hy
    have HM := Lib.hid hm
    have HD := Lib.hid hdd
    clear hy hm hdd l1 l2 l3 PA hb1 hb2'
    unfold soaV sv
    obtain ⟨N1, hN1⟩ : ∃ N, N = n32 ⟨t.toArray⟩ 0 := ⟨_, rfl⟩
    obtain ⟨N2, hN2⟩ : ∃ N, N = n32 ⟨t.toArray⟩ 4 := ⟨_, rfl⟩
    obtain ⟨N3, hN3⟩ : ∃ N, N = n32 ⟨t.toArray⟩ 8 := ⟨_, rfl⟩
    obtain ⟨N4, hN4⟩ : ∃ N, N = n32 ⟨t.toArray⟩ 12 := ⟨_, rfl⟩
    obtain ⟨N5, hN5⟩ : ∃ N, N = n32 ⟨t.toArray⟩ 16 := ⟨_, rfl⟩
    unfold nums at HD
    rw [← hN1, ← hN2, ← hN3, ← hN4, ← hN5] at DA HD ⊢
    clear hN1 hN2 hN3 hN4 hN5
    generalize ByteArray.mk a.toArray = AA at *
    generalize ByteArray.mk b.toArray = BB at *
    go_wp2_with fail
    obtain ⟨W, hW⟩ : ∃ W, W = w2.alloc (.cells #[.string AA, .string BB, .int .u32 N1, .int .u32 N2, .int .u32 N3, .int .u32 N4, .int .u32 N5] 28) := ⟨_, rfl⟩
    rw [← hW]
    have hzW : W.heap.size = w2.heap.size + 1 := by rw [hW]; simp
    have hBW : Below w.heap.size w W := by rw [hW]; exact hb2.alloc hb2.size _
    have c0 : W.cell? ⟨w2.heap.size, 0, none⟩ = some (.string AA) := by rw [hW]; simp
    have c1 : W.cell? ⟨w2.heap.size, 1, none⟩ = some (.string BB) := by rw [hW]; simp
    have c2 : W.cell? ⟨w2.heap.size, 2, none⟩ = some (.int .u32 N1) := by rw [hW]; simp
    have c3 : W.cell? ⟨w2.heap.size, 3, none⟩ = some (.int .u32 N2) := by rw [hW]; simp
    have c4 : W.cell? ⟨w2.heap.size, 4, none⟩ = some (.int .u32 N3) := by rw [hW]; simp
    have c5 : W.cell? ⟨w2.heap.size, 5, none⟩ = some (.int .u32 N4) := by rw [hW]; simp
    have c6 : W.cell? ⟨w2.heap.size, 6, none⟩ = some (.int .u32 N5) := by rw [hW]; simp
    clear hW
    refine (RM.out _).mono ?_
    rintro e w3 ⟨hb3, ⟨-, rfl⟩ | ⟨hno, -⟩⟩
    · have d0 := (hb3.cell (p := ⟨w2.heap.size, 0, none⟩) (by show w2.heap.size < W.heap.size; omega)).trans c0
      have d1 := (hb3.cell (p := ⟨w2.heap.size, 1, none⟩) (by show w2.heap.size < W.heap.size; omega)).trans c1
      have d2 := (hb3.cell (p := ⟨w2.heap.size, 2, none⟩) (by show w2.heap.size < W.heap.size; omega)).trans c2
      have d3 := (hb3.cell (p := ⟨w2.heap.size, 3, none⟩) (by show w2.heap.size < W.heap.size; omega)).trans c3
      have d4 := (hb3.cell (p := ⟨w2.heap.size, 4, none⟩) (by show w2.heap.size < W.heap.size; omega)).trans c4
      have d5 := (hb3.cell (p := ⟨w2.heap.size, 5, none⟩) (by show w2.heap.size < W.heap.size; omega)).trans c5
      have d6 := (hb3.cell (p := ⟨w2.heap.size, 6, none⟩) (by show w2.heap.size < W.heap.size; omega)).trans c6
      have hB3 := below_trans hBW hBW.size hb3
      clear hb3 hBW c0 c1 c2 c3 c4 c5 c6 hzW
      go_wp2_with fail
      refine (DA.out _).mono ?_
      rintro e w4 ⟨hb4, ⟨-, rfl⟩ | ⟨hno, -⟩⟩
      · have hB4 := below_trans hB3 hB3.size hb4
        rw [HD.out]
        go_wp2_with fail
        go_ret
        exact ⟨rfl, hB4⟩
      · exact absurd HM.out hno
    · exact absurd HY.out (hno _ _ _)
  · have hb2 := below_trans hb1 hb1.size hb2'
    have HN := Lib.hid hno
    clear hno PA hb1 hb2'
    unfold soa0
    go_wp2_with fail
    obtain ⟨W, hW⟩ : ∃ W, W = w2.alloc (.cells #[.string ⟨#[]⟩, .string ⟨#[]⟩, .int .u32 0, .int .u32 0, .int .u32 0, .int .u32 0, .int .u32 0] 28) := ⟨_, rfl⟩
    rw [← hW]
    have hzW : W.heap.size = w2.heap.size + 1 := by rw [hW]; simp
    have hBW : Below w.heap.size w W := by rw [hW]; exact hb2.alloc hb2.size _
    have c0 : W.cell? ⟨w2.heap.size, 0, none⟩ = some (.string ⟨#[]⟩) := by rw [hW]; simp
    have c1 : W.cell? ⟨w2.heap.size, 1, none⟩ = some (.string ⟨#[]⟩) := by rw [hW]; simp
    have c2 : W.cell? ⟨w2.heap.size, 2, none⟩ = some (.int .u32 0) := by rw [hW]; simp
    have c3 : W.cell? ⟨w2.heap.size, 3, none⟩ = some (.int .u32 0) := by rw [hW]; simp
    have c4 : W.cell? ⟨w2.heap.size, 4, none⟩ = some (.int .u32 0) := by rw [hW]; simp
    have c5 : W.cell? ⟨w2.heap.size, 5, none⟩ = some (.int .u32 0) := by rw [hW]; simp
    have c6 : W.cell? ⟨w2.heap.size, 6, none⟩ = some (.int .u32 0) := by rw [hW]; simp
    clear hW
    refine (RM.out _).mono ?_
    rintro e w3 ⟨hb3, ⟨⟨a, b, t, hy⟩, -⟩ | ⟨-, rfl⟩⟩
    · exact absurd hy (HN.out _ _ _)
    · have d0 := (hb3.cell (p := ⟨w2.heap.size, 0, none⟩) (by show w2.heap.size < W.heap.size; omega)).trans c0
      have d1 := (hb3.cell (p := ⟨w2.heap.size, 1, none⟩) (by show w2.heap.size < W.heap.size; omega)).trans c1
      have d2 := (hb3.cell (p := ⟨w2.heap.size, 2, none⟩) (by show w2.heap.size < W.heap.size; omega)).trans c2
      have d3 := (hb3.cell (p := ⟨w2.heap.size, 3, none⟩) (by show w2.heap.size < W.heap.size; omega)).trans c3
      have d4 := (hb3.cell (p := ⟨w2.heap.size, 4, none⟩) (by show w2.heap.size < W.heap.size; omega)).trans c4
      have d5 := (hb3.cell (p := ⟨w2.heap.size, 5, none⟩) (by show w2.heap.size < W.heap.size; omega)).trans c5
      have d6 := (hb3.cell (p := ⟨w2.heap.size, 6, none⟩) (by show w2.heap.size < W.heap.size; omega)).trans c6
      have hB3 := below_trans hBW hBW.size hb3
      clear hb3 hBW c0 c1 c2 c3 c4 c5 c6 hzW
      go_wp2_with fail
      go_ret
      exact ⟨rfl, hB3⟩
end Go.Proofs.Ytdekaaclheoapaa
