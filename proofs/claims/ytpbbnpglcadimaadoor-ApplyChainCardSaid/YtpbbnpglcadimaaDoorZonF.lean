/- The contracts of layer 8: how many bytes records take, whether they fit, which have a name. -/
import Derived.Test.YtpbbnpglcadimaaDoorZonE
namespace Go.Proofs.YtpbbnpglcadimaaDoor
open Go.RowKit
set_option linter.unusedVariables false
set_option linter.unusedSimpArgs false
set_option maxRecDepth 20000
/-- How many bytes records take. -/
def sizeR (rs : List RecT) : Nat := (rs.map fun r => 10 + r.1.size + r.2.2.2.size).sum
theorem sizeR_next {rs : List RecT} {k : Nat} {r : RecT} (h : rs[k]? = some r) : sizeR (rs.take (k + 1)) = sizeR (rs.take k) + (10 + r.1.size + r.2.2.2.size) := by
  unfold sizeR; rw [List.take_add_one, h]; simp
theorem sizeR_le (rs : List RecT) (k : Nat) : sizeR (rs.take k) ≤ sizeR rs := by
  have h : sizeR rs = sizeR (rs.take k) + sizeR (rs.drop k) := by
    unfold sizeR; rw [← List.sum_append, ← List.map_append, List.take_append_drop]
  omega
set_option maxHeartbeats 1600000 in
theorem size_any (A : Option Addr) (n c : Nat) (rs : List RecT) (w : World) (h : Recs w A rs) (hl : rs.length = n) (hn : n ≤ maxLen) (hs : sizeR rs ≤ 1000000000000) :
    Calls Tryd.prog 74 #[.slice A n c] w fun e w' => e = .returned (.int .i64 (sizeR rs : Nat)) ∧ Below w.heap.size w w' := by
  unfold maxLen at hn
  have H := Lib.hid h
  have HL := Lib.hid hl
  have HS := Lib.hid hs
  clear h hl hs
  go_enter Tryd.func74, Tryd.ntmps74
  go_wp2_with fail
  go_loopw [3, 8] (fun s i wr => ∃ k m : Nat, k ≤ n ∧ i = .int .i64 k ∧ s = .int .i64 m ∧ Hid (m = sizeR (rs.take k)) ∧ Hid (Below w.heap.size w wr)) (fun _ i _ => n - (intOf i).toNat)
  case atStart => exact ⟨0, 0, Nat.zero_le _, rfl, rfl, Lib.hid (by simp [sizeR]), Lib.hid (Below.refl _ _)⟩
  case round =>
    obtain ⟨k, m, hk, rfl, rfl, HM, HB⟩ := hrel
    by_cases hlt : k < n
    · have hlt' : (k : Int) < n := by omega
      obtain ⟨r, hr⟩ : ∃ q, rs[k]? = some q := ⟨_, List.getElem?_eq_getElem (by rw [HL.out]; exact hlt)⟩
      obtain ⟨b, off, rfl, hb, z0, z1, z2, z3⟩ := (H.out.below HB.out) k _ hr
      have hnx := sizeR_next hr
      have hle := sizeR_le rs (k + 1)
      have hm := HM.out
      have hs := HS.out
      obtain ⟨M, hM⟩ : ∃ M : Nat, M = m + (10 + r.1.size + r.2.2.2.size) := ⟨_, rfl⟩
      have HM2 : Hid (M = sizeR (rs.take (k + 1))) := Lib.hid (by rw [hnx, hM, hm])
      have hb1 : M ≤ 1000000000000 := by omega
      have hb2 : (r.1.size : Int) ≤ 1000000000000 := by omega
      have hb3 : (r.2.2.2.size : Int) ≤ 1000000000000 := by omega
      have hsum : (m : Int) + (10 + (r.1.size : Int) + (r.2.2.2.size : Int)) = (M : Int) := by omega
      have hmi : (m : Int) ≤ 1000000000000 := by omega
      clear hr hnx hle hm hs hM
      go_wp2_with fail
      go_round
      case rel => exact ⟨k + 1, M, by omega, by go_num, by first | rfl | (rw [hsum]), HM2, Lib.hid (HB.out.alloc HB.out.size _)⟩
      case measure => simp [intOf]; omega
    · have hlt' : ¬ (k : Int) < n := by omega
      go_wp2_with fail
      go_ret
      exact ⟨by rw [HM.out, List.take_of_length_le (by rw [HL.out]; omega)]; rfl, HB.out⟩
def fitsR (n s : Nat) : Bool := decide (n ≤ 256) && decide (s ≤ 16384)
theorem fits_any (A : Option Addr) (n c : Nat) (rs : List RecT) (w : World) (h : Recs w A rs) (hl : rs.length = n) (hn : n ≤ maxLen) (hs : sizeR rs ≤ 1000000000000) :
    Calls Tryd.prog 57 #[.slice A n c] w fun e w' => e = .returned (.bool (fitsR n (sizeR rs))) ∧ Below w.heap.size w w' := by
  have SZ := Lib.hid (fun w h => size_any A n c rs w h hl hn hs)
  have H := Lib.hid h
  obtain ⟨S, hS⟩ : ∃ S, sizeR rs = S := ⟨_, rfl⟩
  rw [hS] at SZ hs ⊢
  unfold maxLen at hn
  clear h hl hS
  by_cases h1 : n ≤ 256
  · have h1i : (n : Int) ≤ 256 := by omega
    have h1d : decide ((n : Int) ≤ 256) = true := by simpa using h1i
    by_cases h2 : S ≤ 16384
    · have h2i : (S : Int) ≤ 16384 := by omega
      have h2d : decide ((S : Int) ≤ 16384) = true := by simpa using h2i
      have HF : Hid (fitsR n S = true) := Lib.hid (by simp [fitsR, h1, h2])
      rw [HF.out]
      go_enter Tryd.func57, Tryd.ntmps57
      go_wp2_with fail
      refine (SZ.out _ H.out).mono ?_
      rintro e w1 ⟨rfl, hb⟩
      have HB := Lib.hid hb
      clear hb
      go_wp2_with fail
      go_ret
      exact ⟨rfl, HB.out⟩
    · have h2i : ¬ (S : Int) ≤ 16384 := by omega
      have h2d : decide ((S : Int) ≤ 16384) = false := by simpa using h2i
      have HF : Hid (fitsR n S = false) := Lib.hid (by simp [fitsR, h1]; omega)
      rw [HF.out]
      go_enter Tryd.func57, Tryd.ntmps57
      go_wp2_with fail
      refine (SZ.out _ H.out).mono ?_
      rintro e w1 ⟨rfl, hb⟩
      have HB := Lib.hid hb
      clear hb
      go_wp2_with fail
      go_ret
      exact ⟨rfl, HB.out⟩
  · have h1i : ¬ (n : Int) ≤ 256 := by omega
    have h1d : decide ((n : Int) ≤ 256) = false := by simpa using h1i
    have HF : Hid (fitsR n S = false) := Lib.hid (by simp [fitsR]; omega)
    rw [HF.out]
    go_enter Tryd.func57, Tryd.ntmps57
    go_wp2_with fail
    go_ret
    exact ⟨rfl, Below.refl _ _⟩
def nameB (s : ByteArray) (r : RecT) : Bool := r.1.toList == s.toList
def atR (rs : List RecT) (s : ByteArray) : List RecT := rs.filter (nameB s)
theorem atR_yes {rs : List RecT} {s : ByteArray} {k : Nat} {r : RecT} (hr : rs[k]? = some r) (hb : nameB s r = true) : atR (rs.take (k + 1)) s = atR (rs.take k) s ++ [r] := by
  unfold atR; rw [List.take_add_one, hr]; simp [List.filter_append, hb]
theorem atR_no {rs : List RecT} {s : ByteArray} {k : Nat} {r : RecT} (hr : rs[k]? = some r) (hb : nameB s r = false) : atR (rs.take (k + 1)) s = atR (rs.take k) s := by
  unfold atR; rw [List.take_add_one, hr]; simp [List.filter_append, hb]
theorem atR_le (rs : List RecT) (s : ByteArray) (k : Nat) : (atR (rs.take k) s).length ≤ rs.length := by
  unfold atR
  have h1 := List.length_filter_le (nameB s) (rs.take k)
  have h2 := List.length_take_le k rs
  simp at h1
  omega
theorem src_one' {w : World} {ts : TypeId} (hts : Tryd.prog.underlying ts = some (.slice 41)) (r : RecT) :
    Src Tryd.prog 4 ts (.slice (some ⟨w.heap.size, 0, none⟩) 1 1) 1 (recCells r) (w.alloc (.cells #[.string r.1, .int .u16 r.2.1, .int .u32 r.2.2.1, .string r.2.2.2] 41)) := by
  refine Src.ofSlice _ hts _ 1 1 _ rfl ?_ ?_
  · exact news_at w #[.string r.1, .int .u16 r.2.1, .int .u32 r.2.2.1, .string r.2.2.2] _
  · intro u hu
    unfold recCells at hu
    simp at hu
    rcases hu with rfl | rfl | rfl | rfl <;> rfl
end Go.Proofs.YtpbbnpglcadimaaDoor
