/- strconv, as the owner's names use it: numerals at bases 10 and 16, written and read, where the library's tables and errors lie as their initialisers lay them. -/
import Derived.Test.YtkdknfedieeenaaGreatDoorShelf
import Derived.Test.YtkdknfedieeenaaGreatDoorOwnU
import Derived.Test.YtkdknfedieeenaaGreatDoorOwnV
import Derived.Lib.LaidTab
import Derived.Lib.SmallJoins
import Derived.Outline
import Derived.Deep.DeepCutAuto
namespace Go.Proofs.YtkdknfedieeenaaGreatDoor
open Go.RowKit Go.Sort
set_option linter.unusedVariables false

/-- The library's tables and errors lie where they are laid. -/
structure LaidT (w : World) : Prop where
  pow : Lib.TabIs Tryz.prog w "internal/strconv.uint64pow10" .u64 Lib.pow10Tab
  tz : w.cell? ⟨7, 15, none⟩ = some (.int .u8 4)
  syn : ∃ tp p, w.var? Tryz.prog "strconv.ErrSyntax" = some #[.iface tp p]
  rng : ∃ tp p, w.var? Tryz.prog "strconv.ErrRange" = some #[.iface tp p]
theorem LaidT.below {w w' : World} {B : Nat} (h : LaidT w) (hb : Below B w w') (hB : w.heap.size ≤ B) : LaidT w' := by
  refine ⟨?_, ?_, ?_, ?_⟩
  · exact Go.Joins.var_stays (g := 4) (by kernel_rfl) h.pow hb hB
  · rw [hb.cell (p := ⟨7, 15, none⟩) (Nat.lt_of_lt_of_le (Lib.lt_of_cell h.tz) hB)]; exact h.tz
  · obtain ⟨tp, p, h⟩ := h.syn
    exact ⟨tp, p, Go.Joins.var_stays (g := 0) (by kernel_rfl) h hb hB⟩
  · obtain ⟨tp, p, h⟩ := h.rng
    exact ⟨tp, p, Go.Joins.var_stays (g := 1) (by kernel_rfl) h hb hB⟩
theorem LaidT.alloc {w : World} (h : LaidT w) (o : Obj) : LaidT (w.alloc o) := h.below ((Below.refl _ _).alloc (Nat.le_refl _) o) (Nat.le_refl _)

theorem grow_below (w : World) (k : Nat) (os : Array Obj) : Below w.heap.size w (grow (w.drewN k) os) := by
  refine ⟨rfl, rfl, rfl, ?_, ?_⟩
  · show w.heap.size ≤ (w.heap ++ os).size
    simp
  · intro g hg
    show (w.heap ++ os)[g]? = w.heap[g]?
    exact Array.getElem?_append_left hg
theorem drewN_below (w : World) (k : Nat) : Below w.heap.size w (w.drewN k) := ⟨rfl, rfl, rfl, Nat.le_refl _, fun _ _ => rfl⟩

theorem itoa_dec' : ∀ n : Fin 256, Lib.itoa ((n.val : Nat) : Int) = dec n.val := by decide +kernel
theorem itoa_any (n : Nat) (hn : n < 256) (w : World) (h : LaidT w) :
    Calls Tryz.prog 130 #[.int .i64 n] w fun e w' => e = .returned (sv (dec n)) ∧ Below w.heap.size w w' := by
  refine (Tryz.strconv_Itoa (n : Int) (by omega) (by omega) w h.pow).mono ?_
  rintro e w' ⟨rfl, k, os, rfl⟩
  refine ⟨?_, grow_below w k os⟩
  rw [itoa_dec' ⟨n, hn⟩]; rfl

set_option maxRecDepth 20000 in
theorem tz64_any (w : World) (h : LaidT w) : Calls Tryz.prog 186 #[.int .u64 16] w fun e w' => e = .returned (.int .i64 4) ∧ ∃ k, w' = w.drewN k := by
  have hc := h.tz
  have hlt := Lib.lt_of_cell h.tz
  have hand : bits .and .u64 16 18446744073709551600 = 16 := by decide +kernel
  have hw1 : IntKind.u64.wrap (-16) = 18446744073709551600 := by rw [IntKind.wrap_u64]; decide
  have hw2 : IntKind.u64.wrap 4573923408821661840 = 4573923408821661840 := by rw [IntKind.wrap_u64]; decide
  clear h
  go_enter Tryz.func186, Tryz.ntmps186
  go_wp2
  go_ret
  first
    | exact ⟨rfl, 0, rfl⟩
    | exact ⟨rfl, 1, rfl⟩
    | exact ⟨rfl, 2, rfl⟩
theorem tz_any (w : World) (h : LaidT w) : Calls Tryz.prog 183 #[.int .u64 16] w fun e w' => e = .returned (.int .i64 4) ∧ ∃ k, w' = w.drewN k := by
  have ht := tz64_any w h
  clear h
  go_enter Tryz.func183, Tryz.ntmps183
  go_wp2_with (go_at_call 186; refine ht.mono ?_; rintro e w1 ⟨rfl, k, rfl⟩)
  go_ret
  exact ⟨rfl, k, rfl⟩
theorem ihex_any (n : Nat) (hn : n < 65536) (w : World) (h : LaidT w) :
    Calls Tryz.prog 162 #[.int .u64 n, .int .i64 16] w fun e w' => e = .returned (sv (hex n)) ∧ Below w.heap.size w w' := by
  have hf := fbits_any n hn w (fun w' hb => tz_any w' (h.below hb (Nat.le_refl _)))
  clear h
  go_enter Tryz.func162, Tryz.ntmps162
  go_wp2_with (go_at_call 174; refine hf.mono ?_; rintro e w1 ⟨rfl, hb⟩)
  go_ret
  exact ⟨rfl, hb⟩
theorem hex_any (n : Nat) (hn : n < 65536) (w : World) (h : LaidT w) :
    Calls Tryz.prog 149 #[.int .u64 n, .int .i64 16] w fun e w' => e = .returned (sv (hex n)) ∧ Below w.heap.size w w' := by
  have hf := ihex_any n hn w h
  clear h
  go_enter Tryz.func149, Tryz.ntmps149
  go_wp2_with (go_at_call 162; refine hf.mono ?_; rintro e w1 ⟨rfl, hb⟩)
  go_ret
  exact ⟨rfl, hb⟩

theorem atoi_ok (s : ByteArray) (hs : s.size ≤ 281474976710656) (v : Int) (h : Lib.atoiAll s.data.toList = .ok v) (w : World) :
    Calls Tryz.prog 112 #[.string s] w fun e w' => e = .returned (.tuple #[.int .i64 v, .nilIface]) ∧ Below w.heap.size w w' := by
  refine (Tryz.strconv_Atoi_ok s (by omega) v h w).mono ?_
  rintro e w' ⟨rfl, hw⟩
  refine ⟨rfl, ?_⟩
  rcases hw with rfl | ⟨t, rfl⟩
  · exact Below.refl _ _
  · exact Lib.bytesWorld_below _ _ _
theorem atoi_no (s : ByteArray) (hs : s.size ≤ 281474976710656) (h : ∀ v, Lib.atoiAll s.data.toList ≠ .ok v) (w : World) (hL : LaidT w) :
    Calls Tryz.prog 112 #[.string s] w fun e w' => ∃ v N, e = .returned (.tuple #[.int .i64 v, .iface 234 (.pointer (some ⟨N, 0, none⟩))]) ∧ Below w.heap.size w w' := by
  rcases ha : Lib.atoiAll s.data.toList with v | _ | _
  · exact absurd ha (h v)
  · skip
    obtain ⟨tp, p, hv⟩ := hL.syn
    refine (Tryz.strconv_Atoi_syntax_var s hs ha tp p w hv).mono ?_
    rintro e w' ⟨N, rfl, _, _, hb⟩
    exact ⟨_, N, rfl, hb⟩
  · skip
    obtain ⟨tp, p, hv⟩ := hL.rng
    refine (Tryz.strconv_Atoi_range_var s hs ha tp p w hv).mono ?_
    rintro e w' ⟨N, rfl, _, _, hb⟩
    exact ⟨_, N, rfl, hb⟩
theorem pu10_any (s : ByteArray) (hs : s.size ≤ 281474976710656) (w : World) (hL : LaidT w) :
    Calls Tryz.prog 139 #[.string s, .int .i64 10, .int .i64 8] w fun e w' => ∃ er, e = .returned (.tuple #[.int .u64 (val8 s.data.toList : Int), er]) ∧ Below w.heap.size w w' := by
  unfold val8 pu10
  rcases ha : Lib.parseUintB 8 s.data.toList with v | _ | _
  · skip
    refine (Tryz.strconv_ParseUint_10_at8_ok s (by omega) v ha w).mono ?_
    rintro e w' ⟨rfl, hw⟩
    refine ⟨_, rfl, ?_⟩
    first
      | exact hw
      | (rcases hw with rfl | rfl
         · exact Below.refl _ _
         · exact Lib.bytesWorld_below _ _ _)
      | (rcases hw with rfl | ⟨t, rfl⟩
         · exact Below.refl _ _
         · exact Lib.bytesWorld_below _ _ _)
  · skip
    obtain ⟨tp, p, hv⟩ := hL.syn
    refine (Tryz.strconv_ParseUint_10_at8_syntax_var s hs ha tp p w hv).mono ?_
    rintro e w' ⟨N, rfl, _, _, hb⟩
    exact ⟨_, rfl, hb⟩
  · skip
    obtain ⟨tp, p, hv⟩ := hL.rng
    refine (Tryz.strconv_ParseUint_10_at8_range_var s hs ha tp p w hv).mono ?_
    rintro e w' ⟨N, rfl, _, _, hb⟩
    exact ⟨_, rfl, hb⟩
theorem ipu16_all (s : ByteArray) (hs : s.size ≤ 281474976710656) (w : World) :
    Calls Tryz.prog 157 #[.string s, .int .i64 16, .int .i64 16] w fun e w' => e = .returned (Lib.uintTupleM 231 65535 (pu16 s.data.toList)) ∧ Below w.heap.size w w' := by
  by_cases h0 : s.size = 0
  · obtain rfl : s = ByteArray.empty := by apply ByteArray.ext; exact Array.eq_empty_of_size_eq_zero h0
    refine (Tryz.internal_strconv_ParseUint_empty 16 16 w).mono ?_
    rintro e w' ⟨rfl, rfl⟩
    exact ⟨rfl, Below.refl _ _⟩
  · refine (ipu16_any s h0 (by omega) w).mono ?_
    rintro e w' ⟨rfl, rfl⟩
    refine ⟨?_, Lib.bytesWorld_below _ _ _⟩
    unfold pu16
    rw [if_neg]
    intro e
    apply h0
    have : s.data.toList.length = 0 := by rw [e]; rfl
    simpa using this
set_option maxHeartbeats 4000000 in
theorem pu16_any (s : ByteArray) (hs : s.size ≤ 281474976710656) (w : World) (hL : LaidT w) :
    Calls Tryz.prog 139 #[.string s, .int .i64 16, .int .i64 16] w fun e w' => ∃ er, e = .returned (.tuple #[.int .u64 (val16 s.data.toList : Int), er]) ∧ Below w.heap.size w w' := by
  have hI := ipu16_all s hs w
  unfold val16
  rcases ha : pu16 s.data.toList with v | _ | _
  · skip
    rw [ha] at hI
    have hI : Calls Tryz.prog 157 #[.string s, .int .i64 16, .int .i64 16] w fun e w' => e = .returned (.tuple #[.int .u64 v, .nilIface]) ∧ Below w.heap.size w w' := hI
    clear ha hL
    show Calls Tryz.prog 139 #[.string s, .int .i64 16, .int .i64 16] w fun e w' => ∃ er, e = .returned (.tuple #[.int .u64 (v : Int), er]) ∧ Below w.heap.size w w'
    go_enter Tryz.func139, Tryz.ntmps139
    go_wp2_with (go_at_call 157; refine hI.mono ?_; rintro e w1 ⟨rfl, hb⟩)
    go_ret2
    exact ⟨_, rfl, hb⟩
  · skip
    rw [ha] at hI
    have hI : Calls Tryz.prog 157 #[.string s, .int .i64 16, .int .i64 16] w fun e w' => e = .returned (.tuple #[.int .u64 0, .iface 231 (.int .i64 2)]) ∧ Below w.heap.size w w' := hI
    obtain ⟨tp, p, hv⟩ := hL.syn
    clear ha
    show Calls Tryz.prog 139 #[.string s, .int .i64 16, .int .i64 16] w fun e w' => ∃ er, e = .returned (.tuple #[.int .u64 0, er]) ∧ Below w.heap.size w w'
    go_enter Tryz.func139, Tryz.ntmps139
    go_wp2_with (go_at_call 157; refine hI.mono ?_)
    rintro e w1 ⟨rfl, hb⟩
    have hv1 : w1.cell? ⟨0, 0, none⟩ = some (.iface tp p) := by
      have h1 := Go.Joins.var_stays (P := Tryz.prog) (g := 0) (by kernel_rfl) hv hb (Nat.le_refl _)
      have := World.var?_cell (P := Tryz.prog) (g := 0) (by kernel_rfl) h1 0
      simpa using this
    go_wp2_with (go_at_call 138; refine (Tryz.strconv_toError_syntax ⟨#[80, 97, 114, 115, 101, 85, 105, 110, 116]⟩ s 16 16 (.iface tp p) _ hs hv1 (Or.inr ⟨tp, p, rfl⟩)).mono ?_)
    rintro e w2 ⟨N, rfl, _, _, hb2⟩
    go_wp2
    go_ret2
    exact ⟨_, rfl, hb.trans (hb2.mono hb.size)⟩
  · skip
    rw [ha] at hI
    have hI : Calls Tryz.prog 157 #[.string s, .int .i64 16, .int .i64 16] w fun e w' => e = .returned (.tuple #[.int .u64 65535, .iface 231 (.int .i64 1)]) ∧ Below w.heap.size w w' := hI
    obtain ⟨tp, p, hv⟩ := hL.rng
    clear ha
    show Calls Tryz.prog 139 #[.string s, .int .i64 16, .int .i64 16] w fun e w' => ∃ er, e = .returned (.tuple #[.int .u64 65535, er]) ∧ Below w.heap.size w w'
    go_enter Tryz.func139, Tryz.ntmps139
    go_wp2_with (go_at_call 157; refine hI.mono ?_)
    rintro e w1 ⟨rfl, hb⟩
    have hv1 : w1.cell? ⟨1, 0, none⟩ = some (.iface tp p) := by
      have h1 := Go.Joins.var_stays (P := Tryz.prog) (g := 1) (by kernel_rfl) hv hb (Nat.le_refl _)
      have := World.var?_cell (P := Tryz.prog) (g := 1) (by kernel_rfl) h1 0
      simpa using this
    go_wp2_with (go_at_call 138; refine (Tryz.strconv_toError_range ⟨#[80, 97, 114, 115, 101, 85, 105, 110, 116]⟩ s 16 16 (.iface tp p) _ hs hv1 (Or.inr ⟨tp, p, rfl⟩)).mono ?_)
    rintro e w2 ⟨N, rfl, _, _, hb2⟩
    go_wp2
    go_ret2
    exact ⟨_, rfl, hb.trans (hb2.mono hb.size)⟩
end Go.Proofs.YtkdknfedieeenaaGreatDoor
