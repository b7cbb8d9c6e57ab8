/- What a row's condition on the library's tables and errors gives a walk. -/
import Derived.Test.YtkdknfedieeenaaGreatDoorOwnT
import Derived.Test.YtkdknfedieeenaaGreatDoorRows
import Derived.Stop.LaidErr
import Derived.LaidMore
import Derived.Lay
namespace Go.Proofs.YtkdknfedieeenaaGreatDoor
open Go Go.RowKit
set_option linter.unusedVariables false

abbrev laidO : List (String × DataW Unit) := [("math/bits.deBruijn32tab", Rows.laid_math_bits_deBruijn32tab), ("math/bits.deBruijn64tab", Rows.laid_math_bits_deBruijn64tab), ("internal/strconv.uint64pow10", Rows.laid_internal_strconv_uint64pow10), ("strconv.ErrRange", Rows.laid_strconv_ErrRange), ("strconv.ErrSyntax", Rows.laid_strconv_ErrSyntax)]
def bruijn64 : List Int := [0, 1, 56, 2, 57, 49, 28, 3, 61, 58, 42, 50, 38, 29, 17, 4, 62, 47, 59, 36, 45, 43, 51, 22, 53, 39, 33, 30, 24, 18, 12, 5, 63, 55, 48, 27, 60, 41, 37, 16, 46, 35, 44, 21, 52, 32, 23, 11, 54, 26, 40, 15, 34, 20, 31, 10, 25, 14, 19, 9, 13, 8, 7, 6]
theorem starE : "*errors.errorString" = "*" ++ "errors.errorString" := by decide
theorem errorRow (u : TypeId) (h : Tryz.prog.typeName? 3 u = some "*errors.errorString") : u = 252 :=
  typeName_ptr_named (nm := "errors.errorString") (by rw [← starE]; kernel_rfl) (by kernel_rfl) (by decide) u (by rw [← starE]; exact h)
theorem laidT_of_met {W : World} (hH : laidMetH Tryz.prog laidO W) : LaidT W := by
  have h0 : laidMet Tryz.prog laidO W := by rw [← MakeChecks.laidMetH_plain _ _ _ (by kernel_rfl)]; exact hH
  have h1 := h0.tail
  have h2 := h1.tail
  have h3 := h2.tail
  have h4 := h3.tail
  refine ⟨?_, ?_, ?_, ?_⟩
  · exact Lib.tabIs_of_head (k := .u64) (zs := Lib.pow10Tab) (g := 4) (t := 263) (e := 215) (n := 20) (by kernel_rfl) (by kernel_rfl) Tryz.underlying263 Tryz.underlying215 (by kernel_rfl) (by kernel_rfl) h2
  · have ht := Lib.tabIs_of_head (k := .u8) (zs := bruijn64) (g := 7) (t := 269) (e := 5) (n := 64) (by kernel_rfl) (by kernel_rfl) Tryz.underlying269 Tryz.underlying5 (by kernel_rfl) (by kernel_rfl) h1
    exact ht.cell (by kernel_rfl) 15 (by decide)
  · obtain ⟨a, s, hv, _⟩ := laid_sentinel (g := 0) (ti := 107) (tp := 252) (te := 254) (ts := 9) h4 (by kernel_rfl) (by kernel_rfl) Tryz.underlying107 errorRow Tryz.underlying252 Tryz.underlying254 rfl rfl Tryz.underlying9 (by kernel_rfl) (by kernel_rfl)
    exact ⟨_, _, hv⟩
  · obtain ⟨a, s, hv, _⟩ := laid_sentinel (g := 1) (ti := 107) (tp := 252) (te := 254) (ts := 9) h3 (by kernel_rfl) (by kernel_rfl) Tryz.underlying107 errorRow Tryz.underlying252 Tryz.underlying254 rfl rfl Tryz.underlying9 (by kernel_rfl) (by kernel_rfl)
    exact ⟨_, _, hv⟩
end Go.Proofs.YtkdknfedieeenaaGreatDoor
