/- The walk of PendingFree. -/
import Derived.Test.YtpopnlbpeboiiaaDoorPendB
import Derived.Outline
namespace Go.Proofs.YtpopnlbpeboiiaaDoor
open Go.RowKit
set_option linter.unusedVariables false
set_option linter.unusedSimpArgs false
set_option maxRecDepth 20000
theorem u16_wf {z : Int} (h : (Lit.int .u16 z).wf = true) : 0 ≤ z ∧ z < 65536 := by
  have : IntKind.u16.min ≤ z ∧ z ≤ IntKind.u16.max := by simpa [Lit.wf] using h
  have a : IntKind.u16.min = 0 := rfl
  have b : IntKind.u16.max = 65535 := rfl
  omega
theorem u8_wf26 {z : Int} (h : (Lit.int .u8 z).wf = true) : 0 ≤ z ∧ z < 256 := by
  have : IntKind.u8.min ≤ z ∧ z ≤ IntKind.u8.max := by simpa [Lit.wf] using h
  have a : IntKind.u8.min = 0 := rfl
  have b : IntKind.u8.max = 255 := rfl
  omega
theorem i8_wf26 {z : Int} (h : (Lit.int .i8 z).wf = true) : -128 ≤ z ∧ z < 128 := by
  have : IntKind.i8.min ≤ z ∧ z ≤ IntKind.i8.max := by simpa [Lit.wf] using h
  have a : IntKind.i8.min = -128 := rfl
  have b : IntKind.i8.max = 127 := rfl
  omega
theorem DeedsP.ok_at {w : World} {A : Option Addr} {n c : Nat} {ds : List DeedP} (h : DeedsP w A n c ds) (a : DeedP) (ha : a ∈ ds) : DpOk w a := by
  obtain ⟨h1, h2, h3, h4, h5⟩ := h.ok a ha
  exact ⟨u8_wf26 h1, u8_wf26 h2, h3.1.sl, h3.1.none_, h3.1.le, h3.1.max, u8_wf26 h4, i8_wf26 h5⟩
def entsOf (ds : List DeedP) : List EntT := ds.map entOf
theorem entsOf_next {ds : List DeedP} {k : Nat} {a : DeedP} (ha : ds[k]? = some a) : entsOf (ds.take (k + 1)) = entsOf (ds.take k) ++ [entOf a] := by
  unfold entsOf
  rw [List.take_add_one, ha]
  simp
theorem idsE_snoc (es : List EntT) (e : EntT) : idsE (es ++ [e]) = idsE es ++ [e.1] := by unfold idsE; simp
theorem ids_few (ds : List DeedP) (x : Nat) (hx : x < 65536) (h : (idsE (entsOf ds)).contains ((x : Nat) : Int) = true) : (x + 4) % 65536 < 24 := by
  unfold idsE entsOf at h
  rw [List.contains_iff_mem, List.map_map, List.mem_map] at h
  obtain ⟨a, -, ha⟩ := h
  have ha : (((a.2.1.toNat % 24 + 65532) % 65536 : Nat) : Int) = ((x : Nat) : Int) := ha
  omega
theorem contains_next (ks : List Int) (es : List EntT) (e : EntT) (HX : ∀ x, ks.contains x = (idsE es).contains x) : ∀ x, (if ks.contains e.1 then ks else ks ++ [e.1]).contains x = (idsE (es ++ [e])).contains x := by
  intro x
  rw [idsE_snoc]
  have hx := HX x
  by_cases hce : ks.contains e.1 = true
  · rw [if_pos hce]
    have h2 := HX e.1
    rw [hce] at h2
    rw [hx]
    by_cases hxe : x = e.1
    · subst hxe; rw [← h2]; simp
    · simp [hxe]
  · rw [if_neg hce]
    simp only [List.contains_eq_mem, List.mem_append, decide_eq_true_eq] at hx ⊢
    simp only [List.mem_append, List.mem_singleton, decide_eq_decide] at hx ⊢
    rw [hx]
theorem ent_info : (Tryd.prog.info? 41).map (fun i => (i.zero, i.size, i.bytes)) = some (some (.agg #[.int .u16 0, .int .u16 0, .bool false, .int .i64 0, .bool false, .bool false, .bool false, .bool false, .int .i64 0, .string ⟨#[]⟩, .int .u16 0, .slice none 0 0, .slice none 0 0, .slice none 0 0, .int .i64 0, .string ⟨#[]⟩, .int .i64 0, .bool false, .int .i64 0]), 19, 184) := by kernel_rfl
end Go.Proofs.YtpopnlbpeboiiaaDoor
