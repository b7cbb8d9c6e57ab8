/- The contracts of package num: what each function returns, and that it turns nothing that was there. -/
import Derived.Test.YtodpaejakgjblaaDoorRows
import Derived.Test.YtodpaejakgjblaaDoorBase
import Derived.IntWalk
import Derived.Deep.DeepCutAuto
import Derived.Laws.BitsAllLaws
namespace Go.Proofs.YtodpaejakgjblaaDoor
open Go.RowKit
set_option linter.unusedVariables false

/-- A number of two bytes as bytes, the high one first. -/
def b16 (n : Nat) : List UInt8 := [UInt8.ofNat (n / 256), UInt8.ofNat (n % 256)]
def b32 (n : Nat) : List UInt8 := [UInt8.ofNat (n / 16777216), UInt8.ofNat (n / 65536 % 256), UInt8.ofNat (n / 256 % 256), UInt8.ofNat (n % 256)]
def v16 (n : Nat) : Value := .int .u16 (n : Int)
def v32 (n : Nat) : Value := .int .u32 (n : Int)

theorem bv_ofNat (n : Nat) (h : n < 256) : bv (UInt8.ofNat n) = .int .u8 (n : Int) := by
  unfold bv
  rw [UInt8.toNat_ofNat_of_lt' (by simpa using h)]
theorem b16_vals (n : Nat) (h : n < 65536) : (b16 n).map bv = [.int .u8 ((n : Int) / 256), .int .u8 ((n : Int) % 256)] := by
  simp only [b16, List.map_cons, List.map_nil]
  rw [bv_ofNat _ (by omega), bv_ofNat _ (by omega)]
  simp
theorem b32_vals (n : Nat) (h : n < 4294967296) : (b32 n).map bv = [.int .u8 ((n : Int) / 16777216), .int .u8 ((n : Int) / 65536 % 256), .int .u8 ((n : Int) / 256 % 256), .int .u8 ((n : Int) % 256)] := by
  simp only [b32, List.map_cons, List.map_nil]
  rw [bv_ofNat _ (by omega), bv_ofNat _ (by omega), bv_ofNat _ (by omega), bv_ofNat _ (by omega)]
  simp

theorem num_info : (Tryd.prog.info? 5).map (fun i => (i.zero, i.size, i.bytes)) = some (some (.int .u8 0), 1, 1) := by kernel_rfl

set_option maxHeartbeats 400000 in
theorem put16_any (A : Option Addr) (n c : Nat) (l : List UInt8) (D : Option Addr) (m d : Nat) (ns : List Nat) (w : World) (hA : Sl w w.heap.size 1 A n (l.map bv)) (hA0 : A = none → n = 0 ∧ c = 0)
    (hD : Sl w w.heap.size 1 D m (ns.map v16)) (hns : ∀ x ∈ ns, x < 65536) (hsz : n + 2 * m ≤ 281474976710656) :
    Calls Tryd.prog 57 #[.slice A n c, .slice D m d] w fun e w' => ∃ g, e = .returned (.slice (some ⟨g, 0, none⟩) (n + 2 * m) (n + 2 * m)) ∧
      w'.ownsRow w.heap.size 5 1 (.slice (some ⟨g, 0, none⟩) (n + 2 * m) (n + 2 * m)) (n + 2 * m) ((l ++ ns.flatMap b16).map bv) ∧ Below w.heap.size w w' := by
  obtain ⟨i0, hi, hz0, hz1, hz2⟩ := info_parts num_info
  have hm : (m : Int) ≤ 281474976710656 := by omega
  have hn : (n : Int) ≤ 281474976710656 := by omega
  go_enter Tryd.func57, Tryd.ntmps57
  go_wp2_with (first
    | (at_make; refine wpList_make_own _ rfl _ _ 22 rfl w.heap.size 5 i0 (.int .u8 0) 1 Tryd.underlying22 hi hz0 hz1 _ _ _ (n + 2 * m) rfl rfl (by omega) (by rw [hz2]; omega) (by unfold maxLen; omega) (by simp) ?_; intro w1 hown1 hg1)
    | (at_builtin; refine wpList_append_fits_any _ rfl (.tmp 15) (.tmp 16) 22 rfl w.heap.size 5 i0 1 Tryd.underlying22 hi hz1 _ 0 (n + 2 * m) [] rfl hown1 A n c (l.map bv) rfl (by simpa using hA.1) hA0 ?hc (one_bytes l) (by omega) ?_; rotate_right; intro w2 hown2 hg2; simp only [Nat.zero_add, List.nil_append] at hown2))
  case hc => exact (hA.below (below_grown_none (Below.refl _ _) hg1 (Nat.le_refl _))).cells_at
  have hb2 : Below w.heap.size w w2 := below_grown (below_grown_none (Below.refl _ _) hg1 (Nat.le_refl _)) hg2 hg1.size (Nat.le_refl _)
  clear hown1 hg1 hg2
  go_loopw [5, 20] (fun v i wr => ∃ k : Nat, k ≤ m ∧ i = .int .i64 k ∧ v = .slice (some ⟨w.heap.size, 0, none⟩) (n + 2 * k) (n + 2 * m) ∧
      wr.ownsRow w.heap.size 5 1 (.slice (some ⟨w.heap.size, 0, none⟩) (n + 2 * k) (n + 2 * m)) (n + 2 * k) ((l ++ (ns.take k).flatMap b16).map bv) ∧ Below w.heap.size w wr)
    (fun _ i _ => m - (intOf i).toNat)
  case atStart => exact ⟨0, Nat.zero_le _, rfl, rfl, by simpa using hown2, hb2⟩
  case round =>
    obtain ⟨k, hk, rfl, rfl, hown, hbel⟩ := hrel
    by_cases hlt : k < m
    · obtain ⟨b, off, u, rfl, hb, hu, hc⟩ := hD.at_ hlt
      have hkl : k < ns.length := by have := hD.1; simp at this; omega
      obtain ⟨y, hy⟩ : ∃ y, y = ns[k] := ⟨_, rfl⟩
      have hyb : y < 65536 := by rw [hy]; exact hns _ (List.getElem_mem hkl)
      have hcell : wr.cell? ⟨b, off + k, none⟩ = some (.int .u16 (y : Int)) := by
        rw [hbel.cell hb, hc]
        simp only [List.getElem?_map, List.getElem?_eq_getElem hkl, Option.map_some, Option.some.injEq] at hu
        rw [← hu, hy]; rfl
      have htake : (ns.take (k + 1)).flatMap b16 = (ns.take k).flatMap b16 ++ b16 y := by
        rw [List.take_succ_eq_append_getElem hkl, List.flatMap_append, hy]; simp
      have hv := b16_vals y hyb
      have HT := Lib.hid htake
      have HV := Lib.hid hv
      clear hc hu hy htake hv
      have hy0 : (y : Int) < 65536 := by omega
      go_wp2_with (first
        | (at_builtin; refine wpList_append_fits _ rfl (.tmp 24) (.tmp 30) 22 rfl w.heap.size 5 i0 1 Tryd.underlying22 hi hz1 _ (n + 2 * k) (n + 2 * m) _ rfl (hown.alloc _) _ 2 2 ((b16 y).map bv) rfl rfl ?c1 (one_bytes _) (by omega) ?_))
      case c1 => rw [HV.out]; exact news_at _ _ _
      intro w3 hown3 hg3
      have hb3 : Below w.heap.size w w3 := below_grown (hbel.alloc hbel.size _) hg3 (by have := hbel.size; simp; omega) (Nat.le_refl _)
      have hown4 : w3.ownsRow w.heap.size 5 1 (.slice (some ⟨w.heap.size, 0, none⟩) (n + 2 * (k + 1)) (n + 2 * m)) (n + 2 * (k + 1)) ((l ++ (ns.take (k + 1)).flatMap b16).map bv) := by
        rw [HT.out]
        simpa [Nat.mul_add, Nat.add_assoc] using hown3
      clear hown3 hg3 hown hbel hcell
      go_wp2
      go_roundw
      case rel => exact ⟨k + 1, by omega, by go_num, rfl, hown4, hb3⟩
      case measure => simp [intOf]; omega
    · obtain rfl : k = m := by omega
      have hl : ns.length = k := by simpa using hD.1
      go_wp2
      go_ret
      exact ⟨_, rfl, by rw [← hl, List.take_length] at hown; rw [← hl]; exact hown, hbel⟩
set_option maxHeartbeats 400000 in
theorem put32_any (A : Option Addr) (n c : Nat) (l : List UInt8) (D : Option Addr) (m d : Nat) (ns : List Nat) (w : World) (hA : Sl w w.heap.size 1 A n (l.map bv)) (hA0 : A = none → n = 0 ∧ c = 0)
    (hD : Sl w w.heap.size 1 D m (ns.map v32)) (hns : ∀ x ∈ ns, x < 4294967296) (hsz : n + 4 * m ≤ 281474976710656) :
    Calls Tryd.prog 55 #[.slice A n c, .slice D m d] w fun e w' => ∃ g, e = .returned (.slice (some ⟨g, 0, none⟩) (n + 4 * m) (n + 4 * m)) ∧
      w'.ownsRow w.heap.size 5 1 (.slice (some ⟨g, 0, none⟩) (n + 4 * m) (n + 4 * m)) (n + 4 * m) ((l ++ ns.flatMap b32).map bv) ∧ Below w.heap.size w w' := by
  obtain ⟨i0, hi, hz0, hz1, hz2⟩ := info_parts num_info
  have hm : (m : Int) ≤ 281474976710656 := by omega
  have hn : (n : Int) ≤ 281474976710656 := by omega
  go_enter Tryd.func55, Tryd.ntmps55
  go_wp2_with (first
    | (at_make; refine wpList_make_own _ rfl _ _ 22 rfl w.heap.size 5 i0 (.int .u8 0) 1 Tryd.underlying22 hi hz0 hz1 _ _ _ (n + 4 * m) rfl rfl (by omega) (by rw [hz2]; omega) (by unfold maxLen; omega) (by simp) ?_; intro w1 hown1 hg1)
    | (at_builtin; refine wpList_append_fits_any _ rfl (.tmp 15) (.tmp 16) 22 rfl w.heap.size 5 i0 1 Tryd.underlying22 hi hz1 _ 0 (n + 4 * m) [] rfl hown1 A n c (l.map bv) rfl (by simpa using hA.1) hA0 ?hc (one_bytes l) (by omega) ?_; rotate_right; intro w2 hown2 hg2; simp only [Nat.zero_add, List.nil_append] at hown2))
  case hc => exact (hA.below (below_grown_none (Below.refl _ _) hg1 (Nat.le_refl _))).cells_at
  have hb2 : Below w.heap.size w w2 := below_grown (below_grown_none (Below.refl _ _) hg1 (Nat.le_refl _)) hg2 hg1.size (Nat.le_refl _)
  clear hown1 hg1 hg2
  go_loopw [5, 20] (fun v i wr => ∃ k : Nat, k ≤ m ∧ i = .int .i64 k ∧ v = .slice (some ⟨w.heap.size, 0, none⟩) (n + 4 * k) (n + 4 * m) ∧
      wr.ownsRow w.heap.size 5 1 (.slice (some ⟨w.heap.size, 0, none⟩) (n + 4 * k) (n + 4 * m)) (n + 4 * k) ((l ++ (ns.take k).flatMap b32).map bv) ∧ Below w.heap.size w wr)
    (fun _ i _ => m - (intOf i).toNat)
  case atStart => exact ⟨0, Nat.zero_le _, rfl, rfl, by simpa using hown2, hb2⟩
  case round =>
    obtain ⟨k, hk, rfl, rfl, hown, hbel⟩ := hrel
    by_cases hlt : k < m
    · obtain ⟨b, off, u, rfl, hb, hu, hc⟩ := hD.at_ hlt
      have hkl : k < ns.length := by have := hD.1; simp at this; omega
      obtain ⟨y, hy⟩ : ∃ y, y = ns[k] := ⟨_, rfl⟩
      have hyb : y < 4294967296 := by rw [hy]; exact hns _ (List.getElem_mem hkl)
      have hcell : wr.cell? ⟨b, off + k, none⟩ = some (.int .u32 (y : Int)) := by
        rw [hbel.cell hb, hc]
        simp only [List.getElem?_map, List.getElem?_eq_getElem hkl, Option.map_some, Option.some.injEq] at hu
        rw [← hu, hy]; rfl
      have htake : (ns.take (k + 1)).flatMap b32 = (ns.take k).flatMap b32 ++ b32 y := by
        rw [List.take_succ_eq_append_getElem hkl, List.flatMap_append, hy]; simp
      have hv := b32_vals y hyb
      have HT := Lib.hid htake
      have HV := Lib.hid hv
      clear hc hu hy htake hv
      have hy0 : (y : Int) < 4294967296 := by omega
      go_wp2_with (first
        | (at_builtin; refine wpList_append_fits _ rfl (.tmp 24) (.tmp 36) 22 rfl w.heap.size 5 i0 1 Tryd.underlying22 hi hz1 _ (n + 4 * k) (n + 4 * m) _ rfl (hown.alloc _) _ 4 4 ((b32 y).map bv) rfl rfl ?c1 (one_bytes _) (by omega) ?_))
      case c1 => rw [HV.out]; exact news_at _ _ _
      intro w3 hown3 hg3
      have hb3 : Below w.heap.size w w3 := below_grown (hbel.alloc hbel.size _) hg3 (by have := hbel.size; simp; omega) (Nat.le_refl _)
      have hown4 : w3.ownsRow w.heap.size 5 1 (.slice (some ⟨w.heap.size, 0, none⟩) (n + 4 * (k + 1)) (n + 4 * m)) (n + 4 * (k + 1)) ((l ++ (ns.take (k + 1)).flatMap b32).map bv) := by
        rw [HT.out]
        simpa [Nat.mul_add, Nat.add_assoc] using hown3
      clear hown3 hg3 hown hbel hcell
      go_wp2
      go_roundw
      case rel => exact ⟨k + 1, by omega, by go_num, rfl, hown4, hb3⟩
      case measure => simp [intOf]; omega
    · obtain rfl : k = m := by omega
      have hl : ns.length = k := by simpa using hD.1
      go_wp2
      go_ret
      exact ⟨_, rfl, by rw [← hl, List.take_length] at hown; rw [← hl]; exact hown, hbel⟩
theorem within_yes (s : ByteArray) (a k : Int) (w : World) (hs : s.size ≤ maxLen) (h0 : 0 ≤ a) (hk : 0 ≤ k) (hk8 : k ≤ 8) (h1 : a + k ≤ s.size) :
    Calls Tryd.prog 85 #[.string s, .int .i64 a, .int .i64 k] w fun e w' => e = .returned (.bool true) ∧ w = w' := by
  unfold maxLen at hs
  have h2 : a ≤ (s.size : Int) - k := by omega
  go_enter Tryd.func85, Tryd.ntmps85
  go_wp2
  go_ret
  exact ⟨rfl, rfl⟩
theorem within_no (s : ByteArray) (a k : Int) (w : World) (hs : s.size ≤ maxLen) (hk : 0 ≤ k) (hk8 : k ≤ 8) (h1 : a < 0 ∨ (s.size : Int) - k < a) :
    Calls Tryd.prog 85 #[.string s, .int .i64 a, .int .i64 k] w fun e w' => e = .returned (.bool false) ∧ w = w' := by
  unfold maxLen at hs
  by_cases h : a < 0
  · have h' : ¬ 0 ≤ a := by omega
    clear h1
    go_enter Tryd.func85, Tryd.ntmps85
    go_wp2
    go_ret
    exact ⟨rfl, rfl⟩
  · have h2 : ¬ a ≤ (s.size : Int) - k := by omega
    have h3 : 0 ≤ a := by omega
    clear h1 h
    go_enter Tryd.func85, Tryd.ntmps85
    go_wp2
    go_ret
    exact ⟨rfl, rfl⟩
/-- The number of two, of four bytes at a place. -/
def at8 (s : ByteArray) (a : Nat) : Nat := (s.data.toList.getD a 0).toNat
def n16 (s : ByteArray) (a : Nat) : Nat := at8 s a * 256 + at8 s (a + 1)
def n32 (s : ByteArray) (a : Nat) : Nat := at8 s a * 16777216 + at8 s (a + 1) * 65536 + at8 s (a + 2) * 256 + at8 s (a + 3)
theorem at8_eq (s : ByteArray) (a : Nat) (h : a < s.size) : at8 s a = s[a].toNat := by
  unfold at8
  have : a < s.data.toList.length := by simpa using h
  rw [List.getD_eq_getElem?_getD, List.getElem?_eq_getElem this]
  rfl
theorem at8_lt (s : ByteArray) (a : Nat) : at8 s a < 256 := UInt8.toNat_lt _
theorem or16 (x y : Nat) (hx : x < 256) (hy : y < 256) : bits .or .u16 (IntKind.u16.wrap (IntKind.u16.wrap (x : Int) * 256)) (IntKind.u16.wrap (y : Int)) = ((x * 256 + y : Nat) : Int) := by
  rw [IntKind.wrap_u16, IntKind.wrap_u16, IntKind.wrap_u16]
  rw [show (x : Int) % 65536 * 256 % 65536 = ((x * 256 : Nat) : Int) by omega, show (y : Int) % 65536 = (y : Int) by omega, u16_or_nat _ _ (by omega) (by omega), nat_join 8 _ _ (by omega) hy]
theorem or32 (x y z u : Nat) (hx : x < 256) (hy : y < 256) (hz : z < 256) (hu : u < 256) :
    bits .or .u32 (bits .or .u32 (bits .or .u32 (IntKind.u32.wrap (IntKind.u32.wrap (x : Int) * 16777216)) (IntKind.u32.wrap (IntKind.u32.wrap (y : Int) * 65536))) (IntKind.u32.wrap (IntKind.u32.wrap (z : Int) * 256))) (IntKind.u32.wrap (u : Int)) = ((x * 16777216 + y * 65536 + z * 256 + u : Nat) : Int) := by
  simp only [IntKind.wrap_u32']
  rw [show (x : Int) % 4294967296 * 16777216 % 4294967296 = ((x * 16777216 : Nat) : Int) by omega, show (y : Int) % 4294967296 * 65536 % 4294967296 = ((y * 65536 : Nat) : Int) by omega,
    show (z : Int) % 4294967296 * 256 % 4294967296 = ((z * 256 : Nat) : Int) by omega, show (u : Int) % 4294967296 = (u : Int) by omega,
    u32_or_nat _ _ (by omega) (by omega), nat_join 24 _ _ (by omega) (by omega), u32_or_nat _ _ (by omega) (by omega), nat_join 16 _ _ (by omega) (by omega), u32_or_nat _ _ (by omega) (by omega), nat_join 8 _ _ (by omega) (by omega)]
theorem get16_yes (s : ByteArray) (a : Nat) (w : World) (hs : s.size ≤ maxLen) (h1 : a + 2 ≤ s.size) :
    Calls Tryd.prog 75 #[.string s, .int .i64 a] w fun e w' => e = .returned (.tuple #[.int .u16 (n16 s a), .bool true]) ∧ ∃ n, w.drewN n = w' := by
  have hs' := hs
  unfold maxLen at hs
  have ha : (a : Int) < s.size := by omega
  have ha1 : (a : Int) + 1 < s.size := by omega
  have hn : ((n16 s a : Nat) : Int) = bits .or .u16 (IntKind.u16.wrap (IntKind.u16.wrap (s[a].toNat : Int) * 256)) (IntKind.u16.wrap (s[a + 1].toNat : Int)) := by
    rw [n16, at8_eq s a (by omega), at8_eq s (a + 1) (by omega), or16 _ _ (UInt8.toNat_lt _) (UInt8.toNat_lt _)]
  rw [hn]
  have e1 : IntKind.i64.wrap ((a : Int) + 1) = (a : Int) + 1 := IntWalk.i64_in _ (by omega)
  have e2 : ((a : Int) + 1).toNat = a + 1 := by omega
  have e3 : (0 : Int) ≤ (a : Int) + 1 := by omega
  clear hn
  go_enter Tryd.func75, Tryd.ntmps75
  go_wp2_with (go_at_call 85; refine (within_yes _ _ _ _ hs' (by omega) (by omega) (by omega) (by omega)).mono ?_; rintro e w' ⟨rfl, rfl⟩)
  go_quiet (fail)
  go_wp2
  go_ret2
  exact ⟨rfl, _, rfl⟩
theorem get16_no (s : ByteArray) (a : Int) (w : World) (hs : s.size ≤ maxLen) (h1 : a < 0 ∨ (s.size : Int) < a + 2) :
    Calls Tryd.prog 75 #[.string s, .int .i64 a] w fun e w' => e = .returned (.tuple #[.int .u16 0, .bool false]) ∧ w = w' := by
  go_enter Tryd.func75, Tryd.ntmps75
  go_wp2_with (go_at_call 85; refine (within_no _ _ _ _ hs (by omega) (by omega) (by omega)).mono ?_; rintro e w' ⟨rfl, rfl⟩)
  go_ret2
  exact ⟨rfl, rfl⟩
theorem get32_yes (s : ByteArray) (a : Nat) (w : World) (hs : s.size ≤ maxLen) (h1 : a + 4 ≤ s.size) :
    Calls Tryd.prog 73 #[.string s, .int .i64 a] w fun e w' => e = .returned (.tuple #[.int .u32 (n32 s a), .bool true]) ∧ ∃ n, w.drewN n = w' := by
  have hs' := hs
  unfold maxLen at hs
  have ha : (a : Int) < s.size := by omega
  have ha1 : (a : Int) + 1 < s.size := by omega
  have ha2 : (a : Int) + 2 < s.size := by omega
  have ha3 : (a : Int) + 3 < s.size := by omega
  have hn : ((n32 s a : Nat) : Int) = bits .or .u32 (bits .or .u32 (bits .or .u32 (IntKind.u32.wrap (IntKind.u32.wrap (s[a].toNat : Int) * 16777216)) (IntKind.u32.wrap (IntKind.u32.wrap (s[a + 1].toNat : Int) * 65536))) (IntKind.u32.wrap (IntKind.u32.wrap (s[a + 2].toNat : Int) * 256))) (IntKind.u32.wrap (s[a + 3].toNat : Int)) := by
    rw [n32, at8_eq s a (by omega), at8_eq s (a + 1) (by omega), at8_eq s (a + 2) (by omega), at8_eq s (a + 3) (by omega), or32 _ _ _ _ (UInt8.toNat_lt _) (UInt8.toNat_lt _) (UInt8.toNat_lt _) (UInt8.toNat_lt _)]
  rw [hn]
  have e1 : IntKind.i64.wrap ((a : Int) + 1) = (a : Int) + 1 := IntWalk.i64_in _ (by omega)
  have e2 : ((a : Int) + 1).toNat = a + 1 := by omega
  have e3 : (0 : Int) ≤ (a : Int) + 1 := by omega
  have e4 : IntKind.i64.wrap ((a : Int) + 2) = (a : Int) + 2 := IntWalk.i64_in _ (by omega)
  have e5 : ((a : Int) + 2).toNat = a + 2 := by omega
  have e6 : (0 : Int) ≤ (a : Int) + 2 := by omega
  have e7 : IntKind.i64.wrap ((a : Int) + 3) = (a : Int) + 3 := IntWalk.i64_in _ (by omega)
  have e8 : ((a : Int) + 3).toNat = a + 3 := by omega
  have e9 : (0 : Int) ≤ (a : Int) + 3 := by omega
  clear hn
  go_enter Tryd.func73, Tryd.ntmps73
  go_wp2_with (go_at_call 85; refine (within_yes _ _ _ _ hs' (by omega) (by omega) (by omega) (by omega)).mono ?_; rintro e w' ⟨rfl, rfl⟩)
  go_quiet (fail)
  go_wp2
  go_ret2
  exact ⟨rfl, _, rfl⟩
theorem get32_no (s : ByteArray) (a : Int) (w : World) (hs : s.size ≤ maxLen) (h1 : a < 0 ∨ (s.size : Int) < a + 4) :
    Calls Tryd.prog 73 #[.string s, .int .i64 a] w fun e w' => e = .returned (.tuple #[.int .u32 0, .bool false]) ∧ w = w' := by
  go_enter Tryd.func73, Tryd.ntmps73
  go_wp2_with (go_at_call 85; refine (within_no _ _ _ _ hs (by omega) (by omega) (by omega)).mono ?_; rintro e w' ⟨rfl, rfl⟩)
  go_ret2
  exact ⟨rfl, rfl⟩
end Go.Proofs.YtodpaejakgjblaaDoor
