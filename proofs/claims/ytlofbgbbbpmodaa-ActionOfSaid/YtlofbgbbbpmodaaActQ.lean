/- The contracts of layer 14: Of, whatever the records. -/
import Derived.Test.YtlofbgbbbpmodaaActP
namespace Go.Proofs.Ytlofbgbbbpmodaa
open Go.RowKit
set_option linter.unusedVariables false
set_option maxRecDepth 20000
set_option maxHeartbeats 1600000 in
theorem of_cname2 (g off c : Nat) (d : ByteArray) (w : World) (hlt : g < w.heap.size) (c1 : w.cell? ⟨g, off + 1, none⟩ = some (.int .u16 5)) (c3 : w.cell? ⟨g, off + 3, none⟩ = some (.string d)) (hd : d.size ≤ 140737488355328) :
    Calls Try.prog 8 #[.slice (some ⟨g, off, none⟩) 1 c] w fun e w' => e = .returned (.tuple #[actV (tgtOf d), .bool true]) ∧ Below w.heap.size w w' := by
  have OT := Lib.hid (fun w => ofTarget_any d w hd)
  have hD := Cs.new w #[.int .i64 0, .string ⟨#[]⟩, .bool false, .slice none 0 0] 34 [.int .i64 0, .string ⟨#[]⟩, .bool false, .slice none 0 0]
  obtain ⟨k, s, b, hv⟩ : ∃ k s b, actV (tgtOf d) = .agg #[.int .i64 k, .string s, .bool b, .slice none 0 0] := ⟨_, _, _, rfl⟩
  rw [hv] at OT
  have HV := Lib.hid hv
  clear hv
  go_enter Try.func8, Try.ntmps8
  go_wp2_with fail
  refine (OT.out _).mono ?_
  rintro e w1 ⟨rfl, hb1'⟩
  have hD1 := hD.below hb1'
  have hb1 := below_alloc _ (Below.refl _ _) (Nat.le_refl _) hb1'
  have d0 := hD1.get 0 _
  have d1 := hD1.get 1 _
  have d2 := hD1.get 2 _
  have d3 := hD1.get 3 _
  have f0 := hD1.froz 0
  have f1 := hD1.froz 1
  have f2 := hD1.froz 2
  have f3 := hD1.froz 3
  clear hD hD1 hb1' c1 c3 hlt
  go_wp2_with fail
  refine bodyPost_ret (v := .tuple #[.agg #[.int .i64 k, .string s, .bool b, .slice none 0 0], .bool true]) (by simp [results, Try.results8, go_sem, d0, d1, d2, d3]) rfl ⟨by rw [HV.out], ?_⟩
  iterate 4 (refine Below.setCell ?_ (by simp) _)
  exact hb1
/-- What Of tells. -/
def OfAll (w : World) (rs : List RecT) (e : Ending) (w' : World) : Prop :=
  ∃ (k : Int) (s : ByteArray) (b : Bool) (A : Option Addr) (n c : Nat) (is : Bool), e = .returned (.tuple #[.agg #[.int .i64 k, .string s, .bool b, .slice A n c], .bool is]) ∧ Below w.heap.size w w' ∧
    ((is = false ∧ k = 0 ∧ s = ⟨#[]⟩ ∧ b = false ∧ A = none ∧ n = 0 ∧ c = 0 ∧ (rs = [] ∨ (rs.any badT = true ∧ ∀ r, rs = [r] → ¬ r.2.1 = 5))) ∨
    (∃ r, rs = [r] ∧ r.2.1 = 5 ∧ is = true ∧ A = none ∧ n = 0 ∧ c = 0 ∧ tgtOf r.2.2.2 = (k, s, b)) ∨
    (rs ≠ [] ∧ rs.any badT = false ∧ is = true ∧ k = 8 ∧ s = ⟨#[]⟩ ∧ b = false ∧ n = rs.length ∧ Recs w' A rs))
theorem of_all (A : Option Addr) (c : Nat) (rs : List RecT) (w : World) (h : Rows4 w A c rs) (hd : ∀ r ∈ rs, r.2.2.2.size ≤ 140737488355328) :
    Calls Try.prog 8 #[.slice A rs.length c] w (OfAll w rs) := by
  by_cases h0 : rs = []
  · subst h0
    refine (of_none c A w).mono ?_
    unfold zeroA
    rintro e w' ⟨rfl, hb⟩
    exact ⟨0, ⟨#[]⟩, false, none, 0, 0, false, rfl, hb, .inl ⟨rfl, rfl, rfl, rfl, rfl, rfl, rfl, .inl rfl⟩⟩
  by_cases h5 : ∃ r, rs = [r] ∧ r.2.1 = 5
  · obtain ⟨r, rfl, hr⟩ := h5
    obtain ⟨b, off, rfl, hlt, -, c1, -, c3⟩ := h.recs 0 r rfl
    rw [hr] at c1
    simp only [Nat.zero_mul, Nat.add_zero] at c1 c3
    refine (of_cname2 b off c r.2.2.2 w hlt c1 c3 (hd r (by simp))).mono ?_
    rintro e w' ⟨rfl, hb⟩
    obtain ⟨k, s, b', hv⟩ : ∃ k s b, tgtOf r.2.2.2 = (k, s, b) := ⟨_, _, _, rfl⟩
    rw [hv]
    exact ⟨k, s, b', none, 0, 0, true, rfl, hb, .inr (.inl ⟨r, rfl, hr, rfl, rfl, rfl, rfl, hv⟩)⟩
  · have h1 : ∀ r, rs = [r] → ¬ r.2.1 = 5 := fun r e h => h5 ⟨r, e, h⟩
    refine (of_more A c rs w h h0 h1).mono ?_
    rintro e w' (⟨hb, rfl, hbel⟩ | ⟨hb, v, rfl, ho⟩)
    · unfold zeroA
      exact ⟨0, ⟨#[]⟩, false, none, 0, 0, false, rfl, hbel, .inl ⟨rfl, rfl, rfl, rfl, rfl, rfl, rfl, .inr ⟨hb, h1⟩⟩⟩
    · obtain ⟨A', c', rfl, -, -, -⟩ := ho.slice
      exact ⟨8, ⟨#[]⟩, false, A', _, c', true, rfl, ho.bel, .inr (.inr ⟨h0, hb, rfl, rfl, rfl, rfl, rfl, ho.recs rfl⟩)⟩
end Go.Proofs.Ytlofbgbbbpmodaa
