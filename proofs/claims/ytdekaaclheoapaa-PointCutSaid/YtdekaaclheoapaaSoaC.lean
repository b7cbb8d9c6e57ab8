/- The contract of an SOA's data that are made: Data. -/
import Derived.Test.YtdekaaclheoapaaSoaB
namespace Go.Proofs.Ytdekaaclheoapaa
open Go.RowKit
set_option linter.unusedVariables false
set_option maxRecDepth 20000

/-- The data of an SOA of two names and numbers. -/
def dataL (a b : List UInt8) (ns : List Nat) : List UInt8 := a ++ 0 :: (b ++ 0 :: ns.flatMap b32)
theorem b32_len (ns : List Nat) : (ns.flatMap b32).length = 4 * ns.length := by
  induction ns with
  | nil => rfl
  | cons x l ih => simp only [List.flatMap_cons, List.length_append, ih, List.length_cons]; simp [b32]; omega
set_option maxHeartbeats 3200000 in
theorem sdata_any (a b : ByteArray) (n1 n2 n3 n4 n5 : Nat) (w : World) (ha : a.size ≤ 140737488355328) (hb : b.size ≤ 140737488355328) (h1 : n1 < 4294967296) (h2 : n2 < 4294967296) (h3 : n3 < 4294967296) (h4 : n4 < 4294967296) (h5 : n5 < 4294967296) :
    Calls Try.prog 17 #[.agg #[.string a, .string b, .int .u32 n1, .int .u32 n2, .int .u32 n3, .int .u32 n4, .int .u32 n5]] w fun e w' => Below w.heap.size w w' ∧
      (((mayL a.data.toList ∧ mayL b.data.toList) ∧ e = .returned (.tuple #[sv (dataL a.data.toList b.data.toList [n1, n2, n3, n4, n5]), .bool true])) ∨ (¬ (mayL a.data.toList ∧ mayL b.data.toList) ∧ e = .returned (.tuple #[.string ⟨#[]⟩, .bool false]))) := by
  have ma := fun w => may_any a w (by unfold maxLen; omega)
  have mb := fun w => may_any b w (by unfold maxLen; omega)
  have ea := may_mayL a
  have eb := may_mayL b
  have EA := Lib.hid ea
  have EB := Lib.hid eb
  clear ea eb
  cases hma : (labelsOf a).isSome with
  | false =>
    rw [hma] at ma EA
    have MA := Lib.hid ma
    clear ma mb hma
    go_enter Try.func17, Try.ntmps17
    go_wp2_with fail
    refine (MA.out _).mono ?_
    rintro e w1 ⟨rfl, hb1⟩
    have hB1 := below_alloc _ (Below.refl _ _) (Nat.le_refl _) hb1
    go_wp2_with fail
    go_ret2
    exact ⟨hB1, .inr ⟨(fun h => by have := EA.out.2 h.1; cases this), rfl⟩⟩
  | true =>
  cases hmb : (labelsOf b).isSome with
  | false =>
    rw [hma] at ma EA
    rw [hmb] at mb EB
    have MA := Lib.hid ma
    have MB := Lib.hid mb
    clear ma mb hma hmb
    go_enter Try.func17, Try.ntmps17
    go_wp2_with fail
    refine (MA.out _).mono ?_
    rintro e w1 ⟨rfl, hb1⟩
    have c1 := (hb1.cell (p := ⟨w.heap.size, 1, none⟩) (by simp)).trans (show _ = some (.string b) by simp)
    have hB1 := below_alloc _ (Below.refl _ _) (Nat.le_refl _) hb1
    clear hb1
    go_wp2_with fail
    refine (MB.out _).mono ?_
    rintro e w2 ⟨rfl, hb2⟩
    have hB2 := below_trans hB1 hB1.size hb2
    go_wp2_with fail
    go_ret2
    exact ⟨hB2, .inr ⟨(fun h => by have := EB.out.2 h.2; cases this), rfl⟩⟩
  | true =>
    have HH := Lib.hid (And.intro (EA.out.1 hma) (EB.out.1 hmb))
    rw [hma] at ma
    rw [hmb] at mb
    have sa : a.size ≤ 254 := by have := mayL_wire HH.out.1; obtain ⟨_, _, _, h⟩ := this; simpa using h
    have sb : b.size ≤ 254 := by have := mayL_wire HH.out.2; obtain ⟨_, _, _, h⟩ := this; simpa using h
    have MA := Lib.hid ma
    have MB := Lib.hid mb
    clear ma mb hma hmb EA EB
    go_enter Try.func17, Try.ntmps17
    go_wp2_with fail
    refine (MA.out _).mono ?_
    rintro e w1 ⟨rfl, hb1⟩
    obtain ⟨W, hW⟩ : ∃ W, W = w.alloc (.cells #[.string a, .string b, .int .u32 n1, .int .u32 n2, .int .u32 n3, .int .u32 n4, .int .u32 n5] 28) := ⟨_, rfl⟩
    rw [← hW] at hb1
    have hzW : W.heap.size = w.heap.size + 1 := by rw [hW]; simp
    have hBW : Below w.heap.size w W := by rw [hW]; exact (Below.refl _ _).alloc (Nat.le_refl _) _
    have c0 : W.cell? ⟨w.heap.size, 0, none⟩ = some (.string a) := by rw [hW]; simp
    have c1 : W.cell? ⟨w.heap.size, 1, none⟩ = some (.string b) := by rw [hW]; simp
    have c2 : W.cell? ⟨w.heap.size, 2, none⟩ = some (.int .u32 n1) := by rw [hW]; simp
    have c3 : W.cell? ⟨w.heap.size, 3, none⟩ = some (.int .u32 n2) := by rw [hW]; simp
    have c4 : W.cell? ⟨w.heap.size, 4, none⟩ = some (.int .u32 n3) := by rw [hW]; simp
    have c5 : W.cell? ⟨w.heap.size, 5, none⟩ = some (.int .u32 n4) := by rw [hW]; simp
    have c6 : W.cell? ⟨w.heap.size, 6, none⟩ = some (.int .u32 n5) := by rw [hW]; simp
    clear hW
    have d1 := (hb1.cell (p := ⟨w.heap.size, 1, none⟩) (by show w.heap.size < W.heap.size; omega)).trans c1
    go_wp2_with fail
    clear d1
    refine (MB.out _).mono ?_
    rintro e w2 ⟨rfl, hb2⟩
    have hb := below_trans hb1 hb1.size hb2
    have d0 := (hb.cell (p := ⟨w.heap.size, 0, none⟩) (by show w.heap.size < W.heap.size; omega)).trans c0
    have d1 := (hb.cell (p := ⟨w.heap.size, 1, none⟩) (by show w.heap.size < W.heap.size; omega)).trans c1
    have d2 := (hb.cell (p := ⟨w.heap.size, 2, none⟩) (by show w.heap.size < W.heap.size; omega)).trans c2
    have d3 := (hb.cell (p := ⟨w.heap.size, 3, none⟩) (by show w.heap.size < W.heap.size; omega)).trans c3
    have d4 := (hb.cell (p := ⟨w.heap.size, 4, none⟩) (by show w.heap.size < W.heap.size; omega)).trans c4
    have d5 := (hb.cell (p := ⟨w.heap.size, 5, none⟩) (by show w.heap.size < W.heap.size; omega)).trans c5
    have d6 := (hb.cell (p := ⟨w.heap.size, 6, none⟩) (by show w.heap.size < W.heap.size; omega)).trans c6
    have hB2 := hBW.trans (hb.mono hBW.size)
    have hz2 := hb.size
    clear hb1 hb2 hb hBW c0 c1 c2 c3 c4 c5 c6
    go_wp2_with fail
    refine (put32_any none 0 0 [] _ 5 5 [n1, n2, n3, n4, n5] _ (Sl.nil _ _ _ _) (fun _ => ⟨rfl, rfl⟩) (Sl.fresh _ _ _ _ _ rfl rfl) (by simp; omega) (by omega)).mono ?_
    rintro e w3 ⟨g, rfl, hown, hb3⟩
    have hz2' := hB2.size
    have e0 := (hb3.cell (p := ⟨w.heap.size, 0, none⟩) (by simp; omega)).trans ((World.cell?_alloc_lt w2 _ _ (by show w.heap.size < w2.heap.size; omega)).trans d0)
    have e1 := (hb3.cell (p := ⟨w.heap.size, 1, none⟩) (by simp; omega)).trans ((World.cell?_alloc_lt w2 _ _ (by show w.heap.size < w2.heap.size; omega)).trans d1)
    have hB3 := below_alloc _ hB2 hz2' hb3
    clear d0 d1 d2 d3 d4 d5 d6 hb3 hB2
    have pa := fun w => plain_any a w (by omega)
    have pb := fun w => plain_any b w (by omega)
    unfold sv at pa pb
    have hcv := fun k => run_string_own (P := Try.prog) (w3.drewN k) 22 9 5 _ _ _ _ _ Try.underlying22 Try.underlying5 Try.underlying9 (show World.ownsRow (w3.drewN k) _ _ _ _ _ _ from hown)
    have hlT : ([] ++ List.flatMap b32 [n1, n2, n3, n4, n5]).length = 20 := by rw [List.nil_append, b32_len]; rfl
    obtain ⟨L, hL⟩ : ∃ L, [] ++ List.flatMap b32 [n1, n2, n3, n4, n5] = L := ⟨_, rfl⟩
    rw [hL] at hcv hlT
    obtain ⟨A1, hA1⟩ : ∃ A1, A1 = (ByteArray.mk (a.data.toList ++ [0]).toArray) := ⟨_, rfl⟩
    obtain ⟨B1, hB1⟩ : ∃ B1, B1 = (ByteArray.mk (b.data.toList ++ [0]).toArray) := ⟨_, rfl⟩
    obtain ⟨T, hT⟩ : ∃ T, T = (ByteArray.mk L.toArray) := ⟨_, rfl⟩
    rw [← hA1] at pa
    rw [← hB1] at pb
    rw [← hT] at hcv
    have sA : A1.size = a.size + 1 := by rw [hA1, mk_size]; simp
    have sB : B1.size = b.size + 1 := by rw [hB1, mk_size]; simp
    have sT : T.size = 20 := by rw [hT, mk_size]; exact hlT
    have hfin : Value.string (A1 ++ B1 ++ T) = sv (dataL a.data.toList b.data.toList [n1, n2, n3, n4, n5]) := by
      rw [hA1, hB1, hT, ← hL, sv_append]
      unfold sv dataL
      simp
    have HF := Lib.hid hfin
    have PA := Lib.hid pa
    have PB := Lib.hid pb
    have q1 : ¬ 9223372036854775807 < A1.size + B1.size := by omega
    have q2 : ¬ 9223372036854775807 < A1.size + B1.size + T.size := by omega
    have q3 : ¬ 9223372036854775807 < (A1 ++ B1).size + T.size := by rw [ByteArray.size_append]; omega
    clear hown hA1 hB1 hT hL hlT hfin pa pb sA sB sT
    go_wp2_with fail
    go_quiet ((go_at_call 35; first | exact Calls.quiet_of_same ((PA.out _).mono fun e w' ⟨a, b⟩ => ⟨a, b.symm⟩) | exact Calls.quiet_of_same ((PB.out _).mono fun e w' ⟨a, b⟩ => ⟨a, b.symm⟩)))
    go_wp2_with fail
    go_ret2
    exact ⟨below_drew hB3 _, .inl ⟨HH.out, by rw [← HF.out]; rfl⟩⟩
end Go.Proofs.Ytdekaaclheoapaa
