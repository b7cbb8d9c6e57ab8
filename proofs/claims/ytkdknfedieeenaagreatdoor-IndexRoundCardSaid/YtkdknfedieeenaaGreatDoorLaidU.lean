/- What a row's condition on the library's tables and errors gives a walk, where tables of utf8 are among them. -/
import Derived.Test.YtkdknfedieeenaaGreatDoorLaidO
namespace Go.Proofs.YtkdknfedieeenaaGreatDoor
open Go Go.RowKit
set_option linter.unusedVariables false
abbrev laidU : List (String × DataW Unit) := [("math/bits.deBruijn32tab", Rows.laid_math_bits_deBruijn32tab), ("math/bits.deBruijn64tab", Rows.laid_math_bits_deBruijn64tab), ("internal/strconv.uint64pow10", Rows.laid_internal_strconv_uint64pow10), ("unicode/utf8.acceptRanges", Rows.laid_unicode_utf8_acceptRanges), ("strconv.ErrRange", Rows.laid_strconv_ErrRange), ("strconv.ErrSyntax", Rows.laid_strconv_ErrSyntax), ("unicode/utf8.first", Rows.laid_unicode_utf8_first)]
theorem laidT_of_metU {W : World} (hH : laidMetH Tryz.prog laidU W) : LaidT W := by
  have h0 : laidMet Tryz.prog laidU W := by rw [← MakeChecks.laidMetH_plain _ _ _ (by kernel_rfl)]; exact hH
  have h1 := h0.tail
  have h2 := h1.tail
  have h3 := h2.tail
  have h4 := h3.tail
  have h5 := h4.tail
  refine ⟨?_, ?_, ?_, ?_⟩
  · exact Lib.tabIs_of_head (k := .u64) (zs := Lib.pow10Tab) (g := 4) (t := 263) (e := 215) (n := 20) (by kernel_rfl) (by kernel_rfl) Tryz.underlying263 Tryz.underlying215 (by kernel_rfl) (by kernel_rfl) h2
  · have ht := Lib.tabIs_of_head (k := .u8) (zs := bruijn64) (g := 7) (t := 269) (e := 5) (n := 64) (by kernel_rfl) (by kernel_rfl) Tryz.underlying269 Tryz.underlying5 (by kernel_rfl) (by kernel_rfl) h1
    exact ht.cell (by kernel_rfl) 15 (by decide)
  · obtain ⟨a, s, hv, _⟩ := laid_sentinel (g := 0) (ti := 107) (tp := 252) (te := 254) (ts := 9) h5 (by kernel_rfl) (by kernel_rfl) Tryz.underlying107 errorRow Tryz.underlying252 Tryz.underlying254 rfl rfl Tryz.underlying9 (by kernel_rfl) (by kernel_rfl)
    exact ⟨_, _, hv⟩
  · obtain ⟨a, s, hv, _⟩ := laid_sentinel (g := 1) (ti := 107) (tp := 252) (te := 254) (ts := 9) h4 (by kernel_rfl) (by kernel_rfl) Tryz.underlying107 errorRow Tryz.underlying252 Tryz.underlying254 rfl rfl Tryz.underlying9 (by kernel_rfl) (by kernel_rfl)
    exact ⟨_, _, hv⟩
end Go.Proofs.YtkdknfedieeenaaGreatDoor
