/- Names one behind the other: what is written of them, and rows of numbers that are names. -/
import Derived.Test.YtliofipccicnfaaPtX
import Derived.Test.YtliofipccicnfaaPtY
import Derived.Test.YtliofipccicnfaaNameW
import Derived.Test.YtliofipccicnfaaView2
import Derived.Laws.AppendOwnNone
namespace Go.Proofs.Ytliofipccicnfaa
open Go.RowKit
set_option linter.unusedVariables false
set_option linter.unusedSimpArgs false
set_option maxRecDepth 20000
abbrev NameL := List (List UInt8)
/-- What is written of names, one behind the other. -/
def runS : List UInt8 → List (ByteArray × Nat) → List NameL → List UInt8 × List (ByteArray × Nat)
  | L, es, [] => (L, es)
  | L, es, n :: ns => runS (L ++ (wrS es L.length n).1) (wrS es L.length n).2 ns
theorem runS_more : ∀ (ns : List NameL) (L : List UInt8) (es : List (ByteArray × Nat)), ∃ T, (runS L es ns).1 = L ++ T
  | [], L, es => ⟨[], by simp [runS]⟩
  | n :: ns, L, es => by
    obtain ⟨T, h⟩ := runS_more ns (L ++ (wrS es L.length n).1) (wrS es L.length n).2
    exact ⟨(wrS es L.length n).1 ++ T, by unfold runS; rw [h, List.append_assoc]⟩
/-- A name of the statements. -/
def GoodN (n : NameL) : Prop := (∀ x ∈ n, okLabel x = true) ∧ (wire n).length ≤ 84 ∧ (labelsOf (keyOf n)).isSome = true
def rowZ (r : RowT) : List Int := r.2.2.2.map fun c => (c.toNat : Int)
def rowN (r : RowT) : NameL := wordsZ (rowZ r)
theorem rowZ_small (r : RowT) : ∀ z ∈ rowZ r, 0 ≤ z ∧ z < 256 := by
  intro z hz
  unfold rowZ at hz
  obtain ⟨c, -, rfl⟩ := List.mem_map.1 hz
  have := UInt8.toNat_lt c
  omega
theorem rowN_good (r : RowT) : GoodN (rowN r) := by
  have h1 := wordsZ_ok (rowZ r) (rowZ_small r)
  have h2 := wordsZ_len (rowZ r)
  have h3 := few_wire (rowN r) (fun x hx => (h1 x hx).2.2)
  refine ⟨fun x hx => (h1 x hx).1, by unfold rowN at *; omega, ?_⟩
  have := few_labels h1 h2
  unfold keyOf rowN
  rw [this]; rfl
/-- A row's name. -/
theorem row_name (r : RowT) (w : World) (h : RowOk w r) (hc : r.2.2.1 ≤ 140737488351232) (wx : World) (hb : Below w.heap.size w wx) :
    Calls Try.prog 10 #[.slice r.1 r.2.1 r.2.2.1] wx fun e w' => e = .returned (.string (keyOf (rowN r))) ∧ Below wx.heap.size wx w' := by
  obtain ⟨hV, hl⟩ := h
  have hle := hV.le
  have hS : Sl wx wx.heap.size 1 r.1 r.2.1 ((rowZ r).map (Value.int .u8)) := by
    have h1 := (hV.sl.below hb).more hb.size
    have : (rowZ r).map (Value.int .u8) = r.2.2.2.map bv := by unfold rowZ bv; rw [List.map_map]; rfl
    rw [this]; exact h1
  exact name_any r.1 r.2.1 r.2.2.1 (rowZ r) wx hS (rowZ_small r) (by unfold maxLen; omega)
/-- The first rows' names. -/
def namesR (rs : List RowT) (N : Nat) : List NameL := (rs.take N).map rowN
theorem namesR_drop {rs : List RowT} {N k : Nat} {r : RowT} (hk : k < N) (hr : rs[k]? = some r) : (namesR rs N).drop k = rowN r :: (namesR rs N).drop (k + 1) := by
  have hl : k < (namesR rs N).length := by
    have := (List.getElem?_eq_some_iff.1 hr).1
    unfold namesR; simp; omega
  have h2 : (namesR rs N)[k]? = some (rowN r) := by
    unfold namesR
    rw [List.getElem?_map, List.getElem?_take_of_lt hk, hr]; rfl
  rw [List.drop_eq_getElem_cons hl, (List.getElem?_eq_some_iff.1 h2).2]
theorem namesR_end {rs : List RowT} {N : Nat} : (namesR rs N).drop N = [] := by
  apply List.drop_eq_nil_of_le
  unfold namesR; simp; omega
/-- So far names were written. -/
def RunJ (F : List UInt8 × List (ByteArray × Nat)) (Lk : List UInt8) (es : List (ByteArray × Nat)) (rest : List NameL) (m : Nat) : Prop :=
  runS Lk es rest = F ∧ Lk.length + 86 * m ≤ 4000 ∧ (∀ e ∈ es, e.2 < 16384) ∧ Known Lk es Lk.length
theorem RunJ.next {F : List UInt8 × List (ByteArray × Nat)} {Lk : List UInt8} {es : List (ByteArray × Nat)} {n : NameL} {rest : List NameL} {m : Nat} (h : RunJ F Lk es (n :: rest) (m + 1)) (hg : GoodN n) :
    RunJ F (Lk ++ (wrS es Lk.length n).1) (wrS es Lk.length n).2 rest m := by
  obtain ⟨h1, h2, h3, h4⟩ := h
  have hl := wrS_len n es Lk.length
  have hgw := hg.2.1
  refine ⟨by unfold runS at h1; exact h1, by rw [List.length_append]; omega, wrS_small n es Lk.length 16384 h3 (by omega), (wr_known hg.1 h4 (by omega)).2⟩
/-- Where it was written it reads. -/
theorem RunJ.reads {F : List UInt8 × List (ByteArray × Nat)} {Lk : List UInt8} {es : List (ByteArray × Nat)} {n : NameL} {rest : List NameL} {m : Nat} (h : RunJ F Lk es (n :: rest) (m + 1)) (hg : GoodN n) :
    Rds F.1 Lk.length Lk.length n (Lk ++ (wrS es Lk.length n).1).length := by
  obtain ⟨h1, h2, h3, h4⟩ := h
  have hgw := hg.2.1
  have hr := (wr_known hg.1 h4 (by omega)).1
  unfold runS at h1
  obtain ⟨T, hT⟩ := runS_more rest (Lk ++ (wrS es Lk.length n).1) (wrS es Lk.length n).2
  rw [← h1, hT, List.length_append]
  exact hr.more T
theorem RunJ.small {F : List UInt8 × List (ByteArray × Nat)} {Lk : List UInt8} {es : List (ByteArray × Nat)} {rest : List NameL} {m : Nat} (h : RunJ F Lk es rest m) (hm : rest.length ≤ m) (hg : ∀ n ∈ rest, GoodN n) : F.1.length ≤ 4000 := by
  induction rest generalizing Lk es m with
  | nil =>
    obtain ⟨h1, h2, _⟩ := h
    rw [← h1]
    show Lk.length ≤ 4000
    omega
  | cons n rest ih =>
    obtain ⟨m, rfl⟩ : ∃ k, m = k + 1 := ⟨m - 1, by simp at hm; omega⟩
    exact ih (h.next (hg n (by simp))) (by simpa using hm) (fun x hx => hg x (by simp [hx]))
/-- Zeros that a slice was made of. -/
theorem make_zeros (d : Nat) (hd : d < 20) : ∃ Z : Array Value, Z.toList = (List.replicate d (0 : UInt8)).map bv ∧ ∀ w : World, (Instr.makeSlice 30 (.int .u8 (d : Nat)) (.int .u8 (d : Nat))).run Try.prog w = .ok (.slice (some ⟨w.heap.size, 0, none⟩) d d) (w.alloc (.cells Z 5)) := by
  obtain ⟨ib, hbi, hb0, hb1, hb2⟩ := info_parts byte_info
  refine ⟨madeCells (Value.int .u8 0).cells (d * 1), ?_, fun w => ?_⟩
  · rw [Nat.mul_one]
    show (madeCells #[Value.int .u8 0] d).toList = _
    rw [toList_madeCells_one, List.map_replicate]; rfl
  · have := run_make (P := Try.prog) w 30 5 ib _ Try.underlying30 hbi hb0 .u8 .u8 (d : Nat) (d : Nat) (by omega) (Int.le_refl _) (by rw [hb2]; omega) (by omega)
    simp only [Int.toNat_natCast] at this
    rw [hb1] at this
    exact this
end Go.Proofs.Ytliofipccicnfaa
