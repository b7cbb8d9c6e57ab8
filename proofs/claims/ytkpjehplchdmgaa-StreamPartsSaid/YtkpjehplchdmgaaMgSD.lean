/- Texts that walks stand on, one behind the other. -/
import Derived.Test.YtkpjehplchdmgaaMgSC
namespace Go.Proofs.Ytkpjehplchdmgaa
open Go.RowKit
set_option linter.unusedVariables false
set_option linter.unusedSimpArgs false
set_option maxRecDepth 20000
theorem dataOf_ty9 (q : Nat) (X s : ByteArray) : (dataOf q X s).1 < 65536 := by
  unfold dataOf
  (repeat' split) <;> first | decide | (simp; done) | omega
def fit9 (r : RecT) : Prop := (0 ≤ r.2.1 ∧ r.2.1 < 65536) ∧ r.1.size ≤ 100000 ∧ r.2.2.2.size ≤ 100000
theorem fit9_soa (o : ByteArray) (ho : o.size ≤ 254) (n : Nat) : fit9 (soaR o n) := by
  refine ⟨⟨by show (0 : Int) ≤ 6; decide, by show (6 : Int) < 65536; decide⟩, Nat.le_trans ho (by decide), ?_⟩
  have hl := nameZ_len [] (by simp)
  show (soaD n).size ≤ 100000
  unfold soaD
  rw [mk_size, dataL_len9]
  simp
  omega
theorem fit9_rec (a : ActT) : fit9 (recOf a) := ⟨⟨Int.natCast_nonneg _, by
  have := dataOf_ty9 (a.2.1.toNat % 8) (nmB a.2.2.2.1.2.2.2) (txtB a.2.2.2.2)
  show ((dataOf _ _ _).1 : Int) < 65536
  omega⟩, Nat.le_trans (recOf_name a) (by decide), Nat.le_trans (recOf_data a) (by decide)⟩
theorem underN_le (o s : ByteArray) (ho : o.size ≤ 254) : (underN o s).size ≤ 254 := by
  unfold underN
  split
  · rename_i h
    unfold joinOf at h ⊢
    split
    · rename_i h2
      show (s ++ o).size ≤ 254
      rw [ByteArray.size_append]; exact h2.2.2
    · rename_i h2
      rw [if_neg h2] at h; cases h
  · exact ho
theorem fit9_under (o : ByteArray) (ho : o.size ≤ 254) (s : Bool) (a : ActT) : fit9 (underR o s a) := by
  have h := fit9_rec a
  unfold underR
  split
  · split
    · exact fit9_soa o ho _
    · exact ⟨⟨by show (0 : Int) ≤ 16; decide, by show (16 : Int) < 65536; decide⟩, Nat.le_trans ho (by decide), by show (ByteArray.mk #[1, 120]).size ≤ 100000; decide⟩
  · exact ⟨h.1, Nat.le_trans (underN_le o _ ho) (by decide), h.2.2⟩
theorem fit9_unders (o : ByteArray) (ho : o.size ≤ 254) (s : Bool) (ds : List ActT) (most : Nat) : ∀ r ∈ undersOf o s ds most, fit9 r := by
  intro r hr
  unfold undersOf at hr
  obtain ⟨a, -, rfl⟩ := List.mem_map.1 hr
  exact fit9_under o ho s a
theorem originB_le (n : Nat) : (originB n).size ≤ 254 := by
  unfold originB
  rw [mk_size]
  exact nameZ_le _ (by intro z hz; simp at hz; omega)
theorem may_fun : ∃ m : RecT → Bool, ∀ r, fit9 r → ∀ w, Calls Try.prog 30 #[recV r] w fun e w' => e = .returned (.bool (m r)) ∧ Below w.heap.size w w' := by
  have key : ∀ r : RecT, ∃ q : Bool, fit9 r → ∀ w, Calls Try.prog 30 #[recV r] w fun e w' => e = .returned (.bool q) ∧ Below w.heap.size w w' := fun r => by
    by_cases h : fit9 r
    · obtain ⟨q, hq⟩ := mayrec_any r h.1 h.2.1 h.2.2
      exact ⟨q, fun _ => hq⟩
    · exact ⟨false, fun h' => absurd h' h⟩
  exact ⟨fun r => Classical.choose (key r), fun r => Classical.choose_spec (key r)⟩
end Go.Proofs.Ytkpjehplchdmgaa
