/- The walk of SoaOf. -/
import Derived.Test.YtdekaaclheoapaaLawSoaT
namespace Go.Proofs.Ytdekaaclheoapaa
open Go.RowKit
set_option linter.unusedVariables false
set_option maxRecDepth 20000

theorem soaV_data {a b : List UInt8} {n1 n2 n3 n4 n5 : Nat} (ha : mayL a) (hb : mayL b) (h1 : n1 < 4294967296) (h2 : n2 < 4294967296) (h3 : n3 < 4294967296) (h4 : n4 < 4294967296) (h5 : n5 < 4294967296) {a' b' t : List UInt8} (h : IsSoa (dataL a b [n1, n2, n3, n4, n5]) a' b' t) :
    soaV a' b' t = .agg #[sv a, sv b, .int .u32 n1, .int .u32 n2, .int .u32 n3, .int .u32 n4, .int .u32 n5] := by
  obtain ⟨rfl, rfl, rfl⟩ := h.one (isSoa_data ha hb rfl)
  have hl : ([n1, n2, n3, n4, n5].flatMap b32).length = 20 := by rw [b32_len]; rfl
  have hn := flat_inj (nums ([n1, n2, n3, n4, n5].flatMap b32)) [n1, n2, n3, n4, n5] rfl (by intro x hx; unfold nums at hx; simp at hx; rcases hx with rfl | rfl | rfl | rfl | rfl <;> exact n32_lt _ _)
    (by intro x hx; simp at hx; omega) (nums_bytes _ hl)
  unfold nums at hn
  simp only [List.cons.injEq, and_true] at hn
  obtain ⟨e1, e2, e3, e4, e5⟩ := hn
  unfold soaV
  rw [e1, e2, e3, e4, e5]
set_option maxHeartbeats 800000 in
theorem sof_other (nm d : ByteArray) (t ttl : Int) (w : World) (ht : (t != 6) = true) :
    Calls Try.prog 21 #[.agg #[.string nm, .int .u16 t, .int .u32 ttl, .string d]] w fun e w' => e = .returned (.tuple #[soa0, .bool false]) ∧ Below w.heap.size w w' := by
  go_enter Try.func21, Try.ntmps21
  go_wp2_with fail
  refine bodyPost_ret (v := .tuple #[soa0, .bool false]) (by simp [soa0, results, Try.results21, go_sem]) rfl ⟨rfl, ?_⟩
  exact ((Below.refl w.heap.size w).alloc (Nat.le_refl _) _).alloc (by simp) _
set_option maxHeartbeats 1600000 in
theorem sof_soa (nm d : ByteArray) (ttl : Int) (w : World) (hd : d.size ≤ 140737488355328) :
    Calls Try.prog 21 #[.agg #[.string nm, .int .u16 6, .int .u32 ttl, .string d]] w fun e w' => Below w.heap.size w w' ∧ ((∃ a b t, IsSoa d.data.toList a b t ∧ e = .returned (.tuple #[soaV a b t, .bool true])) ∨ ((∀ a b t, ¬ IsSoa d.data.toList a b t) ∧ e = .returned (.tuple #[soa0, .bool false]))) := by
  have PA := Lib.hid (fun w => parse_any d w hd)
  go_enter Try.func21, Try.ntmps21
  go_wp2_with fail
  have hC := Cs.new (w.alloc (.cells #[.string nm, .int .u16 6, .int .u32 ttl, .string d] 40)) #[.string ⟨#[]⟩, .string ⟨#[]⟩, .int .u32 0, .int .u32 0, .int .u32 0, .int .u32 0, .int .u32 0] 28 [.string ⟨#[]⟩, .string ⟨#[]⟩, .int .u32 0, .int .u32 0, .int .u32 0, .int .u32 0, .int .u32 0]
  have hP : (w.alloc (.cells #[.string nm, .int .u16 6, .int .u32 ttl, .string d] 40)).heap.size = w.heap.size + 1 := by simp
  rw [hP] at hC
  have hbW := ((Below.refl w.heap.size w).alloc (Nat.le_refl _) (.cells #[.string nm, .int .u16 6, .int .u32 ttl, .string d] 40)).alloc (by simp) (.cells #[.string ⟨#[]⟩, .string ⟨#[]⟩, .int .u32 0, .int .u32 0, .int .u32 0, .int .u32 0, .int .u32 0] 28)
  generalize hW : (w.alloc (.cells #[.string nm, .int .u16 6, .int .u32 ttl, .string d] 40)).alloc (.cells #[.string ⟨#[]⟩, .string ⟨#[]⟩, .int .u32 0, .int .u32 0, .int .u32 0, .int .u32 0, .int .u32 0] 28) = W at *
  clear hW hP
  refine (PA.out _).mono ?_
  rintro e w2 ⟨hb2', h2⟩
  have hC2 := hC.below hb2'
  have hb2 := below_trans hbW hbW.size hb2'
  have d0 := hC2.get 0 _
  have d1 := hC2.get 1 _
  have d2 := hC2.get 2 _
  have d3 := hC2.get 3 _
  have d4 := hC2.get 4 _
  have d5 := hC2.get 5 _
  have d6 := hC2.get 6 _
  have fz : ∀ j, j < 7 → w2.frozen? ⟨w.heap.size + 1, j, none⟩ = false := fun j hj => hC2.froz j hj
  have f0 := fz 0 (by omega)
  have f1 := fz 1 (by omega)
  have f2 := fz 2 (by omega)
  have f3 := fz 3 (by omega)
  have f4 := fz 4 (by omega)
  have f5 := fz 5 (by omega)
  have f6 := fz 6 (by omega)
  clear hC2 hC hbW hb2' PA fz
  rcases h2 with ⟨a, b, t, hy, rfl⟩ | ⟨hno, rfl⟩
  · have HY := Lib.hid hy
    clear hy
    obtain ⟨a1, a2, a3, a4, a5, a6, a7, ha⟩ : ∃ a1 a2 a3 a4 a5 a6 a7, soaV a b t = .agg #[.string a1, .string a2, .int .u32 a3, .int .u32 a4, .int .u32 a5, .int .u32 a6, .int .u32 a7] := ⟨_, _, _, _, _, _, _, rfl⟩
    rw [ha]
    have HA := Lib.hid ha
    clear ha
    go_wp2_with fail
    refine bodyPost_ret (v := .tuple #[.agg #[.string a1, .string a2, .int .u32 a3, .int .u32 a4, .int .u32 a5, .int .u32 a6, .int .u32 a7], .bool true]) (by simp [results, Try.results21, go_sem, d0, d1, d2, d3, d4, d5, d6]) rfl ⟨?_, .inl ⟨a, b, t, HY.out, by rw [HA.out]⟩⟩
    iterate 7 (refine Below.setCell ?_ (by simp) _)
    exact hb2
  · have HN := Lib.hid hno
    clear hno
    unfold soa0
    go_wp2_with fail
    refine bodyPost_ret (v := .tuple #[soa0, .bool false]) (by simp [soa0, results, Try.results21, go_sem, d0, d1, d2, d3, d4, d5, d6]) rfl ⟨?_, .inr ⟨HN.out, rfl⟩⟩
    iterate 7 (refine Below.setCell ?_ (by simp) _)
    exact hb2
end Go.Proofs.Ytdekaaclheoapaa
