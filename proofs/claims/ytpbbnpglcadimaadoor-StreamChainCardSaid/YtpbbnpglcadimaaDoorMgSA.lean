/- Texts that walks stand on, one behind the other. -/
import Derived.Test.YtpbbnpglcadimaaDoorRows
import Derived.Test.YtpbbnpglcadimaaDoorBase
import Derived.IntWalk
import Derived.Deep.DeepCutAuto
import Derived.Laws.BitsAllLaws
import Derived.Test.YtpbbnpglcadimaaDoorCuts
import Derived.Outline
import Derived.BigQuiet
import Derived.OwnWalk
import Derived.Test.YtpbbnpglcadimaaDoorNameB
import Derived.Test.YtpbbnpglcadimaaDoorNameC
import Derived.Test.YtpbbnpglcadimaaDoorZonB
import Derived.Test.YtpbbnpglcadimaaDoorStrA
import Derived.Test.YtpbbnpglcadimaaDoorRecB
import Derived.Test.YtpbbnpglcadimaaDoorReg7
namespace Go.Proofs.YtpbbnpglcadimaaDoor
open Go.RowKit
set_option linter.unusedVariables false

/-- A number of two bytes as bytes, the high one first. -/
def b16 (n : Nat) : List UInt8 := [UInt8.ofNat (n / 256), UInt8.ofNat (n % 256)]
def b32 (n : Nat) : List UInt8 := [UInt8.ofNat (n / 16777216), UInt8.ofNat (n / 65536 % 256), UInt8.ofNat (n / 256 % 256), UInt8.ofNat (n % 256)]
def v16 (n : Nat) : Value := .int .u16 (n : Int)
def v32 (n : Nat) : Value := .int .u32 (n : Int)

theorem bv_ofNat (n : Nat) (h : n < 256) : bv (UInt8.ofNat n) = .int .u8 (n : Int) := by
  unfold bv
  rw [UInt8.toNat_ofNat_of_lt' (by simpa using h)]
theorem b16_vals (n : Nat) (h : n < 65536) : (b16 n).map bv = [.int .u8 ((n : Int) / 256), .int .u8 ((n : Int) % 256)] := by
  simp only [b16, List.map_cons, List.map_nil]
  rw [bv_ofNat _ (by omega), bv_ofNat _ (by omega)]
  simp
theorem b32_vals (n : Nat) (h : n < 4294967296) : (b32 n).map bv = [.int .u8 ((n : Int) / 16777216), .int .u8 ((n : Int) / 65536 % 256), .int .u8 ((n : Int) / 256 % 256), .int .u8 ((n : Int) % 256)] := by
  simp only [b32, List.map_cons, List.map_nil]
  rw [bv_ofNat _ (by omega), bv_ofNat _ (by omega), bv_ofNat _ (by omega), bv_ofNat _ (by omega)]
  simp

theorem num_info : (Tryd.prog.info? 5).map (fun i => (i.zero, i.size, i.bytes)) = some (some (.int .u8 0), 1, 1) := by kernel_rfl

set_option maxHeartbeats 400000 in
theorem put32_any (A : Option Addr) (n c : Nat) (l : List UInt8) (D : Option Addr) (m d : Nat) (ns : List Nat) (w : World) (hA : Sl w w.heap.size 1 A n (l.map bv)) (hA0 : A = none → n = 0 ∧ c = 0)
    (hD : Sl w w.heap.size 1 D m (ns.map v32)) (hns : ∀ x ∈ ns, x < 4294967296) (hsz : n + 4 * m ≤ 281474976710656) :
    Calls Tryd.prog 35 #[.slice A n c, .slice D m d] w fun e w' => ∃ g, e = .returned (.slice (some ⟨g, 0, none⟩) (n + 4 * m) (n + 4 * m)) ∧
      w'.ownsRow w.heap.size 5 1 (.slice (some ⟨g, 0, none⟩) (n + 4 * m) (n + 4 * m)) (n + 4 * m) ((l ++ ns.flatMap b32).map bv) ∧ Below w.heap.size w w' := by
  obtain ⟨i0, hi, hz0, hz1, hz2⟩ := info_parts num_info
  have hm : (m : Int) ≤ 281474976710656 := by omega
  have hn : (n : Int) ≤ 281474976710656 := by omega
  go_enter Tryd.func35, Tryd.ntmps35
  go_wp2_with (first
    | (at_make; refine wpList_make_own _ rfl _ _ 64 rfl w.heap.size 5 i0 (.int .u8 0) 1 Tryd.underlying64 hi hz0 hz1 _ _ _ (n + 4 * m) rfl rfl (by omega) (by rw [hz2]; omega) (by unfold maxLen; omega) (by simp) ?_; intro w1 hown1 hg1)
    | (at_builtin; refine wpList_append_fits_any _ rfl (.tmp 15) (.tmp 16) 64 rfl w.heap.size 5 i0 1 Tryd.underlying64 hi hz1 _ 0 (n + 4 * m) [] rfl hown1 A n c (l.map bv) rfl (by simpa using hA.1) hA0 ?hc (one_bytes l) (by omega) ?_; rotate_right; intro w2 hown2 hg2; simp only [Nat.zero_add, List.nil_append] at hown2))
  case hc => exact (hA.below (below_grown_none (Below.refl _ _) hg1 (Nat.le_refl _))).cells_at
  have hb2 : Below w.heap.size w w2 := below_grown (below_grown_none (Below.refl _ _) hg1 (Nat.le_refl _)) hg2 hg1.size (Nat.le_refl _)
  clear hown1 hg1 hg2
  go_loopw [5, 20] (fun v i wr => ∃ k : Nat, k ≤ m ∧ i = .int .i64 k ∧ v = .slice (some ⟨w.heap.size, 0, none⟩) (n + 4 * k) (n + 4 * m) ∧
      wr.ownsRow w.heap.size 5 1 (.slice (some ⟨w.heap.size, 0, none⟩) (n + 4 * k) (n + 4 * m)) (n + 4 * k) ((l ++ (ns.take k).flatMap b32).map bv) ∧ Below w.heap.size w wr)
    (fun _ i _ => m - (intOf i).toNat)
  case atStart => exact ⟨0, Nat.zero_le _, rfl, rfl, by simpa using hown2, hb2⟩
  case round =>
    obtain ⟨k, hk, rfl, rfl, hown, hbel⟩ := hrel
    by_cases hlt : k < m
    · obtain ⟨b, off, u, rfl, hb, hu, hc⟩ := hD.at_ hlt
      have hkl : k < ns.length := by have := hD.1; simp at this; omega
      obtain ⟨y, hy⟩ : ∃ y, y = ns[k] := ⟨_, rfl⟩
      have hyb : y < 4294967296 := by rw [hy]; exact hns _ (List.getElem_mem hkl)
      have hcell : wr.cell? ⟨b, off + k, none⟩ = some (.int .u32 (y : Int)) := by
        rw [hbel.cell hb, hc]
        simp only [List.getElem?_map, List.getElem?_eq_getElem hkl, Option.map_some, Option.some.injEq] at hu
        rw [← hu, hy]; rfl
      have htake : (ns.take (k + 1)).flatMap b32 = (ns.take k).flatMap b32 ++ b32 y := by
        rw [List.take_succ_eq_append_getElem hkl, List.flatMap_append, hy]; simp
      have hv := b32_vals y hyb
      have HT := Lib.hid htake
      have HV := Lib.hid hv
      clear hc hu hy htake hv
      have hy0 : (y : Int) < 4294967296 := by omega
      go_wp2_with (first
        | (at_builtin; refine wpList_append_fits _ rfl (.tmp 24) (.tmp 36) 64 rfl w.heap.size 5 i0 1 Tryd.underlying64 hi hz1 _ (n + 4 * k) (n + 4 * m) _ rfl (hown.alloc _) _ 4 4 ((b32 y).map bv) rfl rfl ?c1 (one_bytes _) (by omega) ?_))
      case c1 => rw [HV.out]; exact news_at _ _ _
      intro w3 hown3 hg3
      have hb3 : Below w.heap.size w w3 := below_grown (hbel.alloc hbel.size _) hg3 (by have := hbel.size; simp; omega) (Nat.le_refl _)
      have hown4 : w3.ownsRow w.heap.size 5 1 (.slice (some ⟨w.heap.size, 0, none⟩) (n + 4 * (k + 1)) (n + 4 * m)) (n + 4 * (k + 1)) ((l ++ (ns.take (k + 1)).flatMap b32).map bv) := by
        rw [HT.out]
        simpa [Nat.mul_add, Nat.add_assoc] using hown3
      clear hown3 hg3 hown hbel hcell
      go_wp2
      go_roundw
      case rel => exact ⟨k + 1, by omega, by go_num, rfl, hown4, hb3⟩
      case measure => simp [intOf]; omega
    · obtain rfl : k = m := by omega
      have hl : ns.length = k := by simpa using hD.1
      go_wp2
      go_ret
      exact ⟨_, rfl, by rw [← hl, List.take_length] at hown; rw [← hl]; exact hown, hbel⟩
theorem within_yes (s : ByteArray) (a k : Int) (w : World) (hs : s.size ≤ maxLen) (h0 : 0 ≤ a) (hk : 0 ≤ k) (hk8 : k ≤ 8) (h1 : a + k ≤ s.size) :
    Calls Tryd.prog 92 #[.string s, .int .i64 a, .int .i64 k] w fun e w' => e = .returned (.bool true) ∧ w = w' := by
  unfold maxLen at hs
  have h2 : a ≤ (s.size : Int) - k := by omega
  go_enter Tryd.func92, Tryd.ntmps92
  go_wp2
  go_ret
  exact ⟨rfl, rfl⟩
theorem within_no (s : ByteArray) (a k : Int) (w : World) (hs : s.size ≤ maxLen) (hk : 0 ≤ k) (hk8 : k ≤ 8) (h1 : a < 0 ∨ (s.size : Int) - k < a) :
    Calls Tryd.prog 92 #[.string s, .int .i64 a, .int .i64 k] w fun e w' => e = .returned (.bool false) ∧ w = w' := by
  unfold maxLen at hs
  by_cases h : a < 0
  · have h' : ¬ 0 ≤ a := by omega
    clear h1
    go_enter Tryd.func92, Tryd.ntmps92
    go_wp2
    go_ret
    exact ⟨rfl, rfl⟩
  · have h2 : ¬ a ≤ (s.size : Int) - k := by omega
    have h3 : 0 ≤ a := by omega
    clear h1 h
    go_enter Tryd.func92, Tryd.ntmps92
    go_wp2
    go_ret
    exact ⟨rfl, rfl⟩
/-- The number of two, of four bytes at a place. -/
def at8 (s : ByteArray) (a : Nat) : Nat := (s.data.toList.getD a 0).toNat
def n16 (s : ByteArray) (a : Nat) : Nat := at8 s a * 256 + at8 s (a + 1)
def n32 (s : ByteArray) (a : Nat) : Nat := at8 s a * 16777216 + at8 s (a + 1) * 65536 + at8 s (a + 2) * 256 + at8 s (a + 3)
theorem at8_eq (s : ByteArray) (a : Nat) (h : a < s.size) : at8 s a = s[a].toNat := by
  unfold at8
  have : a < s.data.toList.length := by simpa using h
  rw [List.getD_eq_getElem?_getD, List.getElem?_eq_getElem this]
  rfl
theorem at8_lt (s : ByteArray) (a : Nat) : at8 s a < 256 := UInt8.toNat_lt _
theorem or16 (x y : Nat) (hx : x < 256) (hy : y < 256) : bits .or .u16 (IntKind.u16.wrap (IntKind.u16.wrap (x : Int) * 256)) (IntKind.u16.wrap (y : Int)) = ((x * 256 + y : Nat) : Int) := by
  rw [IntKind.wrap_u16, IntKind.wrap_u16, IntKind.wrap_u16]
  rw [show (x : Int) % 65536 * 256 % 65536 = ((x * 256 : Nat) : Int) by omega, show (y : Int) % 65536 = (y : Int) by omega, u16_or_nat _ _ (by omega) (by omega), nat_join 8 _ _ (by omega) hy]
theorem or32 (x y z u : Nat) (hx : x < 256) (hy : y < 256) (hz : z < 256) (hu : u < 256) :
    bits .or .u32 (bits .or .u32 (bits .or .u32 (IntKind.u32.wrap (IntKind.u32.wrap (x : Int) * 16777216)) (IntKind.u32.wrap (IntKind.u32.wrap (y : Int) * 65536))) (IntKind.u32.wrap (IntKind.u32.wrap (z : Int) * 256))) (IntKind.u32.wrap (u : Int)) = ((x * 16777216 + y * 65536 + z * 256 + u : Nat) : Int) := by
  simp only [IntKind.wrap_u32']
  rw [show (x : Int) % 4294967296 * 16777216 % 4294967296 = ((x * 16777216 : Nat) : Int) by omega, show (y : Int) % 4294967296 * 65536 % 4294967296 = ((y * 65536 : Nat) : Int) by omega,
    show (z : Int) % 4294967296 * 256 % 4294967296 = ((z * 256 : Nat) : Int) by omega, show (u : Int) % 4294967296 = (u : Int) by omega,
    u32_or_nat _ _ (by omega) (by omega), nat_join 24 _ _ (by omega) (by omega), u32_or_nat _ _ (by omega) (by omega), nat_join 16 _ _ (by omega) (by omega), u32_or_nat _ _ (by omega) (by omega), nat_join 8 _ _ (by omega) (by omega)]
theorem get32_yes (s : ByteArray) (a : Nat) (w : World) (hs : s.size ≤ maxLen) (h1 : a + 4 ≤ s.size) :
    Calls Tryd.prog 87 #[.string s, .int .i64 a] w fun e w' => e = .returned (.tuple #[.int .u32 (n32 s a), .bool true]) ∧ ∃ n, w.drewN n = w' := by
  have hs' := hs
  unfold maxLen at hs
  have ha : (a : Int) < s.size := by omega
  have ha1 : (a : Int) + 1 < s.size := by omega
  have ha2 : (a : Int) + 2 < s.size := by omega
  have ha3 : (a : Int) + 3 < s.size := by omega
  have hn : ((n32 s a : Nat) : Int) = bits .or .u32 (bits .or .u32 (bits .or .u32 (IntKind.u32.wrap (IntKind.u32.wrap (s[a].toNat : Int) * 16777216)) (IntKind.u32.wrap (IntKind.u32.wrap (s[a + 1].toNat : Int) * 65536))) (IntKind.u32.wrap (IntKind.u32.wrap (s[a + 2].toNat : Int) * 256))) (IntKind.u32.wrap (s[a + 3].toNat : Int)) := by
    rw [n32, at8_eq s a (by omega), at8_eq s (a + 1) (by omega), at8_eq s (a + 2) (by omega), at8_eq s (a + 3) (by omega), or32 _ _ _ _ (UInt8.toNat_lt _) (UInt8.toNat_lt _) (UInt8.toNat_lt _) (UInt8.toNat_lt _)]
  rw [hn]
  have e1 : IntKind.i64.wrap ((a : Int) + 1) = (a : Int) + 1 := IntWalk.i64_in _ (by omega)
  have e2 : ((a : Int) + 1).toNat = a + 1 := by omega
  have e3 : (0 : Int) ≤ (a : Int) + 1 := by omega
  have e4 : IntKind.i64.wrap ((a : Int) + 2) = (a : Int) + 2 := IntWalk.i64_in _ (by omega)
  have e5 : ((a : Int) + 2).toNat = a + 2 := by omega
  have e6 : (0 : Int) ≤ (a : Int) + 2 := by omega
  have e7 : IntKind.i64.wrap ((a : Int) + 3) = (a : Int) + 3 := IntWalk.i64_in _ (by omega)
  have e8 : ((a : Int) + 3).toNat = a + 3 := by omega
  have e9 : (0 : Int) ≤ (a : Int) + 3 := by omega
  clear hn
  go_enter Tryd.func87, Tryd.ntmps87
  go_wp2_with (go_at_call 92; refine (within_yes _ _ _ _ hs' (by omega) (by omega) (by omega) (by omega)).mono ?_; rintro e w' ⟨rfl, rfl⟩)
  go_quiet (fail)
  go_wp2
  go_ret2
  exact ⟨rfl, _, rfl⟩
theorem get32_no (s : ByteArray) (a : Int) (w : World) (hs : s.size ≤ maxLen) (h1 : a < 0 ∨ (s.size : Int) < a + 4) :
    Calls Tryd.prog 87 #[.string s, .int .i64 a] w fun e w' => e = .returned (.tuple #[.int .u32 0, .bool false]) ∧ w = w' := by
  go_enter Tryd.func87, Tryd.ntmps87
  go_wp2_with (go_at_call 92; refine (within_no _ _ _ _ hs (by omega) (by omega) (by omega)).mono ?_; rintro e w' ⟨rfl, rfl⟩)
  go_ret2
  exact ⟨rfl, rfl⟩
end Go.Proofs.YtpbbnpglcadimaaDoor
namespace Go.Proofs.YtpbbnpglcadimaaDoor
open Go.RowKit
set_option linter.unusedVariables false
set_option maxRecDepth 20000

theorem sv_append (s t : ByteArray) : Value.string (s ++ t) = sv (s.data.toList ++ t.data.toList) := by
  unfold sv; congr 1
theorem mk_toList (l : List UInt8) : (ByteArray.mk l.toArray).data.toList = l := by simp
theorem may_mayL (s : ByteArray) : (labelsOf s).isSome = true ↔ mayL s.data.toList := Iff.rfl
theorem get_q (s : ByteArray) (i : Nat) (h : i < s.size) : s.data.toList[i]? = some s[i] := by
  rw [List.getElem?_eq_getElem (by simpa using h)]; rfl
theorem below_drew {B : Nat} {w w' : World} (h : Below B w w') (k : Nat) : Below B w (w'.drewN k) := ⟨h.os, h.tape, h.output, h.size, h.block⟩
theorem plain_any (s : ByteArray) (w : World) (hs : s.size ≤ 140737488355328) :
    Calls Tryd.prog 36 #[.string s] w fun e w' => e = .returned (sv (s.data.toList ++ [0])) ∧ w = w' := by
  have h1 : ¬ 9223372036854775807 < s.size + 1 := by omega
  go_enter Tryd.func36, Tryd.ntmps36
  go_wp2_with fail
  go_ret
  exact ⟨by rw [sv_append]; rfl, rfl⟩
set_option maxHeartbeats 1600000 in
theorem cutp_any (s : ByteArray) (w : World) (hs : s.size ≤ 140737488355328) :
    Calls Tryd.prog 79 #[.string s] w fun e w' => Below w.heap.size w w' ∧ ((∃ n t, IsCut s.data.toList n t ∧ e = .returned (.tuple #[sv n, sv t, .bool true])) ∨ ((∀ n t, ¬ IsCut s.data.toList n t) ∧ e = .returned (.tuple #[.string ⟨#[]⟩, .string ⟨#[]⟩, .bool false]))) := by
  have hlen : s.data.toList.length = s.size := by simp
  go_enter Tryd.func79, Tryd.ntmps79
  go_wp2_with fail
  go_loop [5] (fun i => ∃ p : Nat, p ≤ s.size + 256 ∧ i = .int .i64 p ∧ Hid (At s.data.toList p)) (fun i => s.size + 256 - (intOf i).toNat)
  case atStart => exact ⟨0, Nat.zero_le _, rfl, Lib.hid (At.start _)⟩
  case round =>
    obtain ⟨p, hp, rfl, hat⟩ := hrel
    by_cases hlt : p < s.size
    · have hlt' : (p : Int) < s.size := by omega
      have hq := get_q s p hlt
      obtain ⟨x, hx⟩ : ∃ x, s[p] = x := ⟨_, rfl⟩
      obtain ⟨q, hxq⟩ : ∃ q, x.toNat = q := ⟨_, rfl⟩
      have hq256 : q < 256 := by rw [← hxq]; exact UInt8.toNat_lt _
      rw [hx] at hq
      by_cases h0 : q = 0
      · have hx0 : x = 0 := UInt8.toNat_inj.1 (by rw [hxq, h0]; rfl)
        subst hx0
        have hne : ((q : Int) != 0) = false := by simp; omega
        have hge : ¬ (s.size : Int) ≤ p := by omega
        have hq2 := hq
        have hst := hat.out.stop hq
        have HST := Lib.hid hst
        have HQ := Lib.hid hq2
        have hm := fun w => may_any (s.extract 0 p) w (by simp [ByteArray.size_extract]; unfold maxLen; omega)
        have hE : (s.extract 0 p).data.toList = s.data.toList.take p := by simp [List.extract_eq_take_drop]
        have hE1 : Value.string (s.extract 0 p) = sv (s.data.toList.take p) := by rw [ba_extract]; simp [List.extract_eq_take_drop]
        have hE2 : Value.string (s.extract (p + 1) s.size) = sv (s.data.toList.drop (p + 1)) := by
          rw [ba_extract, ← hlen, List.extract_eq_take_drop, List.take_of_length_le (by simp)]
        have HE1 := Lib.hid hE1
        have HE2 := Lib.hid hE2
        have hML : (labelsOf (s.extract 0 p)).isSome = true ↔ mayL (s.data.toList.take p) := by rw [may_mayL, hE]
        have HML := Lib.hid hML
        clear hst hq hq2 hE hE1 hE2 hML hat
        cases hmay : (labelsOf (s.extract 0 p)).isSome with
        | true =>
          rw [hmay] at hm
          have HM := Lib.hid hm
          have hfin : Hid (IsCut s.data.toList (s.data.toList.take p) (s.data.toList.drop (p + 1))) := Lib.hid (cut_here HQ.out (HML.out.1 hmay))
          clear hm hmay HML HST HQ hlen hxq
          go_wp2_with fail
          refine (HM.out _).mono ?_
          rintro e w1 ⟨rfl, hb1⟩
          have hi4 : IntKind.i64.wrap ((p : Int) + 1) = (p : Int) + 1 := IntWalk.i64_in _ (by omega)
          have hp0 : (0 : Int) ≤ (p : Int) + 1 := by omega
          have hp1 : (p : Int) + 1 ≤ s.size := by omega
          have hp2 : ((p : Int) + 1).toNat = p + 1 := by omega
          have hp3 : (p : Int) ≤ s.size := by omega
          go_wp2_with fail
          go_quiet (fail)
          go_wp2_with fail
          go_ret3
          exact ⟨below_drew hb1 _, .inl ⟨_, _, hfin.out, by rw [← HE1.out, ← HE2.out]; rfl⟩⟩
        | false =>
          rw [hmay] at hm
          have HM := Lib.hid hm
          have hfin : Hid (∀ n t, ¬ IsCut s.data.toList n t) := Lib.hid (fun n t hc => by
            obtain ⟨rfl, _⟩ := HST.out n t hc
            have := HML.out.2 hc.1
            rw [hmay] at this; cases this)
          clear hm hmay HML HST HQ hlen hxq
          go_wp2_with fail
          refine (HM.out _).mono ?_
          rintro e w1 ⟨rfl, hb1⟩
          go_wp2_with fail
          go_ret3
          exact ⟨hb1, .inr ⟨hfin.out, rfl⟩⟩
      · have hne : ((q : Int) != 0) = true := by simp; omega
        have hnx := hat.out.next x hq (by rintro rfl; simp at hxq; omega)
        rw [hxq] at hnx
        have HN := Lib.hid hnx
        have hi1 : IntKind.i64.wrap (q : Int) = q := IntWalk.i64_in _ (by omega)
        have hi2 : IntKind.i64.wrap (1 + (q : Int)) = 1 + (q : Int) := IntWalk.i64_in _ (by omega)
        have hi3 : IntKind.i64.wrap ((p : Int) + (1 + (q : Int))) = (p : Int) + (1 + (q : Int)) := IntWalk.i64_in _ (by omega)
        clear hnx hq hat hlen
        go_wp2_with fail
        go_round
        case rel => exact ⟨p + 1 + q, by omega, by go_num, HN⟩
        case measure => simp [intOf]; omega
    · have hge : (s.size : Int) ≤ p := by omega
      have hlt' : ¬ (p : Int) < s.size := by omega
      have hfin : Hid (∀ n t, ¬ IsCut s.data.toList n t) := Lib.hid (fun n t hc => hat.out.over (by omega) n t hc)
      clear hat hlen hlt
      go_wp2_with fail
      go_ret3
      exact ⟨Below.refl _ _, .inr ⟨hfin.out, rfl⟩⟩
end Go.Proofs.YtpbbnpglcadimaaDoor
namespace Go.Proofs.YtpbbnpglcadimaaDoor
open Go.RowKit
set_option linter.unusedVariables false

/-! ### Join -/
def joinOf (s t : ByteArray) : Option ByteArray := if (labelsOf s).isSome = true ∧ (labelsOf t).isSome = true ∧ s.size + t.size ≤ 254 then some (s ++ t) else none
def strOf (o : Option ByteArray) : ByteArray := o.getD ⟨#[]⟩
theorem may_size {s : ByteArray} (h : (labelsOf s).isSome = true) : s.size ≤ 254 := by
  unfold labelsOf nameLabels at h
  split at h
  · simpa using ‹_›
  · cases h
set_option maxHeartbeats 1600000 in
theorem join_any (s t : ByteArray) (w : World) (hs : s.size ≤ maxLen) (ht : t.size ≤ maxLen) :
    Calls Tryd.prog 28 #[.string s, .string t] w fun e w' => e = .returned (.tuple #[.string (strOf (joinOf s t)), .bool (joinOf s t).isSome]) ∧ Below w.heap.size w w' := by
  have hms := fun w => may_any s w hs
  have hmt := fun w => may_any t w ht
  by_cases h : (labelsOf s).isSome = true ∧ (labelsOf t).isSome = true ∧ s.size + t.size ≤ 254
  · have hj : joinOf s t = some (s ++ t) := by unfold joinOf; rw [if_pos h]
    rw [hj]
    rw [h.1] at hms
    rw [h.2.1] at hmt
    have h3 : ¬ (254 : Int) < (s.size : Int) + t.size := by omega
    have h4 : s.size + t.size ≤ 254 := h.2.2
    have HS := Lib.hid hms
    have HT := Lib.hid hmt
    clear hms hmt h hj
    go_enter Tryd.func28, Tryd.ntmps28
    go_wp2_with fail
    refine (HS.out _).mono ?_
    rintro e w1 ⟨rfl, hb1⟩
    go_wp2_with fail
    refine (HT.out _).mono ?_
    rintro e w2 ⟨rfl, hb2⟩
    have hb := hb1.trans (hb2.mono hb1.size)
    clear hb1 hb2
    go_wp2_with fail
    go_ret2
    exact ⟨rfl, hb⟩
  · have hj : joinOf s t = none := by unfold joinOf; rw [if_neg h]
    rw [hj]
    have hc : (labelsOf s).isSome = false ∨ ((labelsOf s).isSome = true ∧ (labelsOf t).isSome = false) ∨ ((labelsOf s).isSome = true ∧ (labelsOf t).isSome = true ∧ 254 < s.size + t.size) := by
      cases h1 : (labelsOf s).isSome <;> cases h2 : (labelsOf t).isSome <;> simp
      rw [h1, h2] at h
      simp at h
      omega
    clear hj h
    rcases hc with h1 | ⟨h1, h2⟩ | ⟨h1, h2, h3⟩
    · rw [h1] at hms
      have HS := Lib.hid hms
      clear hms h1 hmt
      go_enter Tryd.func28, Tryd.ntmps28
      go_wp2_with fail
      refine (HS.out _).mono ?_
      rintro e w1 ⟨rfl, hb1⟩
      go_wp2_with fail
      go_ret2
      exact ⟨rfl, hb1⟩
    · rw [h1] at hms
      rw [h2] at hmt
      have HS := Lib.hid hms
      have HT := Lib.hid hmt
      clear hms h1 hmt h2
      go_enter Tryd.func28, Tryd.ntmps28
      go_wp2_with fail
      refine (HS.out _).mono ?_
      rintro e w1 ⟨rfl, hb1⟩
      go_wp2_with fail
      refine (HT.out _).mono ?_
      rintro e w2 ⟨rfl, hb2⟩
      have hb := hb1.trans (hb2.mono hb1.size)
      clear hb1 hb2
      go_wp2_with fail
      go_ret2
      exact ⟨rfl, hb⟩
    · have ms := may_size h1
      have mt := may_size h2
      rw [h1] at hms
      rw [h2] at hmt
      have h3' : (254 : Int) < (s.size : Int) + t.size := by omega
      have HS := Lib.hid hms
      have HT := Lib.hid hmt
      clear hms h1 hmt h2
      go_enter Tryd.func28, Tryd.ntmps28
      go_wp2_with fail
      refine (HS.out _).mono ?_
      rintro e w1 ⟨rfl, hb1⟩
      go_wp2_with fail
      refine (HT.out _).mono ?_
      rintro e w2 ⟨rfl, hb2⟩
      have hb := hb1.trans (hb2.mono hb1.size)
      clear hb1 hb2
      go_wp2_with fail
      go_ret2
      exact ⟨rfl, hb⟩
/-! ### Parent -/
def parentOf (s : ByteArray) : Option (List UInt8) := match labelsOf s with | some (_ :: ls) => some (wire ls) | _ => none
end Go.Proofs.YtpbbnpglcadimaaDoor
namespace Go.Proofs.YtpbbnpglcadimaaDoor
open Go.RowKit
set_option linter.unusedVariables false

def stripL (ls ms : List (List UInt8)) : Option (List (List UInt8)) := if ms.length ≤ ls.length ∧ ls.drop (ls.length - ms.length) = ms then some (ls.take (ls.length - ms.length)) else none
def stripOf (s t : ByteArray) : Option (List UInt8) := match labelsOf s, labelsOf t with | some ls, some ms => (stripL ls ms).map wire | _, _ => none
def pos (ls : List (List UInt8)) (k : Nat) : Nat := (wire (ls.take k)).length
section
variable {ls ms : List (List UInt8)}
theorem stripL_found {k : Nat} (hk : k ≤ ls.length) (h : ls.drop k = ms) : stripL ls ms = some (ls.take k) := by
  have hl : ms.length = ls.length - k := by rw [← h]; simp
  have e : ls.length - ms.length = k := by omega
  unfold stripL
  rw [e, if_pos ⟨by omega, h⟩]
theorem stripL_none (h : ∀ j, j < ls.length → ls.drop j ≠ ms) (hm : ms ≠ []) : stripL ls ms = none := by
  unfold stripL
  rw [if_neg]
  rintro ⟨h1, h2⟩
  have h3 : 0 < ms.length := List.length_pos_iff.2 hm
  exact h (ls.length - ms.length) (by omega) h2
theorem wire_drop (ls : List (List UInt8)) (k : Nat) : (wire ls).drop (pos ls k) = wire (ls.drop k) := by
  have h : wire ls = wire (ls.take k) ++ wire (ls.drop k) := by rw [← wire_append, List.take_append_drop]
  rw [h]
  exact List.drop_left
theorem wire_take (ls : List (List UInt8)) (k : Nat) : (wire ls).take (pos ls k) = wire (ls.take k) := by
  have h : wire ls = wire (ls.take k) ++ wire (ls.drop k) := by rw [← wire_append, List.take_append_drop]
  rw [h]
  exact List.take_left
theorem pos_succ {k : Nat} (hk : k < ls.length) : pos ls (k + 1) = pos ls k + 1 + ls[k].length := by
  unfold pos
  rw [List.take_succ_eq_append_getElem hk, wire_append]
  simp [wire]; omega
theorem pos_le (ls : List (List UInt8)) (k : Nat) : pos ls k ≤ (wire ls).length := by
  have := wire_length_le (ls.take k) (ls.drop k)
  rwa [List.take_append_drop] at this
theorem pos_lt {k : Nat} (hk : k < ls.length) : pos ls k < (wire ls).length := by
  have h1 := pos_succ hk
  have h2 := pos_le ls (k + 1)
  omega
theorem pos_all : pos ls ls.length = (wire ls).length := by unfold pos; rw [List.take_length]
theorem wire_at {k : Nat} (hk : k < ls.length) : (wire ls)[pos ls k]'(pos_lt hk) = UInt8.ofNat ls[k].length := by
  have h1 := wire_drop ls k
  rw [List.drop_eq_getElem_cons hk, wire_cons, List.drop_eq_getElem_cons (pos_lt hk)] at h1
  injection h1
theorem wire_inj {a b : List (List UInt8)} (ha : ∀ x ∈ a, okLabel x = true) (hb : ∀ x ∈ b, okLabel x = true) (h : wire a = wire b) : a = b := by
  have h1 := parseL_wire a ha
  rw [h, parseL_wire b hb] at h1
  injection h1 with h1
  exact h1.symm
theorem wire_nil_iff : wire ls = [] ↔ ls = [] := by
  cases ls with
  | nil => simp [wire]
  | cons a l => simp [wire]
end

/-- What the walk asks of a name at a label's beginning. -/
theorem strip_at {s t : ByteArray} {ls ms : List (List UInt8)} (hl : labelsOf s = some ls) (hm : labelsOf t = some ms) {k : Nat} (hk : k < ls.length) :
    ∃ hp : pos ls k < s.size, (s[pos ls k]'hp).toNat = ls[k].length ∧ pos ls (k + 1) = pos ls k + 1 + ls[k].length ∧ pos ls (k + 1) ≤ s.size ∧ s.size ≤ 254 ∧
      ((s.extract (pos ls k) s.size).toList == t.toList) = decide (ls.drop k = ms) ∧ Value.string (s.extract 0 (pos ls k)) = sv (wire (ls.take k)) := by
  have h1 := (nameLabels_iff _ _).1 hl
  have h2 := (nameLabels_iff _ _).1 hm
  have hsz : s.data.toList.length = s.size := by simp
  have hlen : s.size = (wire ls).length := by rw [← hsz, h1.2.1]
  have hp : pos ls k < s.size := by rw [hlen]; exact pos_lt hk
  have hok := h1.2.2 ls[k] (List.getElem_mem hk)
  simp only [okLabel, Bool.and_eq_true, decide_eq_true_eq] at hok
  refine ⟨hp, ?_, pos_succ hk, by rw [hlen]; exact pos_le _ _, by rw [← hsz]; exact h1.1, ?_, ?_⟩
  · rw [← toList_get s _ hp]
    have h3 := wire_at hk
    simp only [h1.2.1, h3]
    exact UInt8.toNat_ofNat_of_lt' (by have : UInt8.size = 256 := rfl; omega)
  · rw [ByteArray.toList_eq, ByteArray.toList_eq, h2.2.1]
    have h3 : (s.extract (pos ls k) s.size).data.toList = wire (ls.drop k) := by
      rw [← wire_drop, ← h1.2.1]
      simp only [ByteArray.data_extract, Array.toList_extract, List.extract_eq_take_drop]
      exact List.take_of_length_le (by simp)
    rw [h3]
    by_cases hd : ls.drop k = ms
    · rw [hd]; simp
    · have : wire (ls.drop k) ≠ wire ms := fun h => hd (wire_inj (fun x hx => h1.2.2 x (List.mem_of_mem_drop hx)) h2.2.2 h)
      simp [hd, this]
  · rw [ba_extract, ← wire_take, ← h1.2.1]
    congr 1

set_option maxHeartbeats 3200000 in
theorem strip_any (s t : ByteArray) (w : World) (hs : s.size ≤ maxLen) (ht : t.size ≤ maxLen) :
    Calls Tryd.prog 62 #[.string s, .string t] w fun e w' => e = .returned (.tuple #[sv ((stripOf s t).getD []), .bool (stripOf s t).isSome]) ∧ Below w.heap.size w w' := by
  have hms := fun w => may_any s w hs
  have hmt := fun w => may_any t w ht
  cases hl : labelsOf s with
  | none =>
    have hst : stripOf s t = none := by unfold stripOf; rw [hl]
    rw [hst]
    rw [hl] at hms
    have HS := Lib.hid hms
    clear hms hmt hl hst
    go_enter Tryd.func62, Tryd.ntmps62
    go_wp2_with fail
    refine (HS.out _).mono ?_
    rintro e w1 ⟨rfl, hb⟩
    go_wp2_with fail
    go_ret2
    exact ⟨rfl, hb⟩
  | some ls =>
    cases hm : labelsOf t with
    | none =>
      have hst : stripOf s t = none := by unfold stripOf; rw [hl, hm]
      rw [hst]
      rw [hl] at hms
      rw [hm] at hmt
      have HS := Lib.hid hms
      have HT := Lib.hid hmt
      clear hms hmt hl hst
      go_enter Tryd.func62, Tryd.ntmps62
      go_wp2_with fail
      refine (HS.out _).mono ?_
      rintro e w1 ⟨rfl, hb1⟩
      go_wp2_with fail
      refine (HT.out _).mono ?_
      rintro e w2 ⟨rfl, hb2⟩
      have hb := hb1.trans (hb2.mono hb1.size)
      clear hb1 hb2
      go_wp2_with fail
      go_ret2
      exact ⟨rfl, hb⟩
    | some ms =>
      have hst : stripOf s t = (stripL ls ms).map wire := by unfold stripOf; rw [hl, hm]
      have hat := fun k hk => @strip_at s t ls ms hl hm k hk
      have h1 := (nameLabels_iff _ _).1 hl
      have h2 := (nameLabels_iff _ _).1 hm
      have hsz : s.data.toList.length = s.size := by simp
      have htz : t.data.toList.length = t.size := by simp
      have hlen : s.size = (wire ls).length := by rw [← hsz, h1.2.1]
      have hall : pos ls ls.length = s.size := by rw [hlen]; exact pos_all
      have hsv : sv (wire ls) = .string s := by rw [← h1.2.1, sv_bytes]
      have htm : t.data.toList = wire ms := h2.2.1
      rw [hl] at hms
      rw [hm] at hmt
      have HS := Lib.hid hms
      have HT := Lib.hid hmt
      have HR := Lib.hid hst
      have HA := Lib.hid hat
      have HV := Lib.hid hsv
      have HM := Lib.hid htm
      clear hms hmt hl hm hst h1 h2 hsz hlen hat hsv htm
      go_enter Tryd.func62, Tryd.ntmps62
      go_wp2_with fail
      refine (HS.out _).mono ?_
      rintro e w1 ⟨rfl, hb1⟩
      go_wp2_with fail
      refine (HT.out _).mono ?_
      rintro e w2 ⟨rfl, hb2⟩
      have hb := hb1.trans (hb2.mono hb1.size)
      clear hb1 hb2
      go_wp2_with fail
      go_loop [6] (fun i => ∃ k : Nat, i = .int .i64 (pos ls k) ∧ k ≤ ls.length ∧ Hid (∀ j, j < k → ls.drop j ≠ ms)) (fun i => s.size - (intOf i).toNat)
      case atStart => exact ⟨0, by simp [pos, wire], Nat.zero_le _, Lib.hid (fun j hj => absurd hj (Nat.not_lt_zero _))⟩
      case round =>
        obtain ⟨k, rfl, hk, hno⟩ := hrel
        by_cases hlt : k < ls.length
        · obtain ⟨hp, hbyte, hsucc, hle, h254, htest, hres⟩ := HA.out k hlt
          by_cases hd : ls.drop k = ms
          · have hf := stripL_found hk hd
            rw [decide_eq_true hd] at htest
            have hp' : ((pos ls k : Nat) : Int) < s.size := by omega
            have HF := Lib.hid hf
            have HQ := Lib.hid hres
            clear hf hres hd hsucc hbyte
            go_wp2_with fail
            go_ret2
            refine ⟨?_, hb⟩
            rw [HR.out, HF.out]
            simp only [Option.map_some, Option.getD_some, Option.isSome_some]
            rw [← HQ.out]
            rfl
          · rw [decide_eq_false hd] at htest
            have hp' : ((pos ls k : Nat) : Int) < s.size := by omega
            have HD := Lib.hid hd
            have HU := Lib.hid hsucc
            have i1 : IntKind.i64.wrap (ls[k].length : Int) = ls[k].length := IntWalk.i64_in _ (by omega)
            generalize ls[k].length = m at *
            clear hres hd
            go_wp2_with fail
            go_round
            case rel => exact ⟨k + 1, by rw [HU.out]; go_num, by omega, Lib.hid (fun j hj => by
              rcases Nat.lt_or_ge j k with h | h
              · exact hno.out j h
              · obtain rfl : j = k := by omega
                exact HD.out)⟩
            case measure => simp [intOf]; omega
        · obtain rfl : k = ls.length := by omega
          have hp' : ¬ ((pos ls ls.length : Nat) : Int) < s.size := by omega
          by_cases hm0 : ms = []
          · have hf := stripL_found (Nat.le_refl ls.length) (show ls.drop ls.length = ms by rw [hm0]; simp)
            rw [List.take_length] at hf
            have ht0 : t.size = 0 := by rw [← htz, HM.out, hm0]; rfl
            have he : t = ⟨#[]⟩ := by
              apply ByteArray.ext
              apply Array.eq_empty_of_size_eq_zero
              exact ht0
            subst he
            have HF := Lib.hid hf
            clear hf
            go_wp2_with fail
            go_ret2
            refine ⟨?_, hb⟩
            rw [HR.out, HF.out]
            simp only [Option.map_some, Option.getD_some, Option.isSome_some]
            rw [HV.out]
            rfl
          · have hf := stripL_none hno.out hm0
            have ht0 : t.size ≠ 0 := by
              rw [← htz, HM.out]
              intro h
              exact hm0 (wire_nil_iff.1 (List.eq_nil_of_length_eq_zero h))
            have hne := str_empty t ht0
            have hne' := str_empty' t ht0
            have HF := Lib.hid hf
            clear hf
            go_wp2_with fail
            go_ret2
            refine ⟨?_, hb⟩
            rw [HR.out, HF.out]
            rfl

theorem below_any (s t : ByteArray) (w : World) (hs : s.size ≤ maxLen) (ht : t.size ≤ maxLen) :
    Calls Tryd.prog 41 #[.string s, .string t] w fun e w' => e = .returned (.bool (stripOf s t).isSome) ∧ Below w.heap.size w w' := by
  go_enter Tryd.func41, Tryd.ntmps41
  go_wp2_with (go_at_call 62; refine (strip_any s t _ hs ht).mono ?_; rintro e w1 ⟨rfl, hb⟩)
  go_ret
  exact ⟨rfl, hb⟩
end Go.Proofs.YtpbbnpglcadimaaDoor
namespace Go.Proofs.YtpbbnpglcadimaaDoor
open Go.RowKit
set_option linter.unusedVariables false
set_option linter.unusedSimpArgs false
set_option maxRecDepth 20000
/-- The next text's place. -/
def stepT (s : ByteArray) (p : Nat) : Nat := if h : p < s.size then p + 1 + s[p].toNat else p
def runT (s : ByteArray) : Nat → Nat
  | 0 => 0
  | k + 1 => stepT s (runT s k)
theorem runT_stays {s : ByteArray} {k : Nat} (h : ¬ runT s k < s.size) : ∀ j, runT s (k + j) = runT s k
  | 0 => rfl
  | j + 1 => by
    have ih := runT_stays h j
    show stepT s (runT s (k + j)) = _
    rw [ih]; unfold stepT; rw [dif_neg h]
theorem runT_next {s : ByteArray} {k p : Nat} (h : runT s k = p) (hp : p < s.size) : runT s (k + 1) = p + 1 + s[p].toNat := by
  show stepT s (runT s k) = _
  subst h
  unfold stepT; rw [dif_pos hp]
theorem texts_any (s : ByteArray) (w : World) (hs : s.size ≤ 512) :
    Calls Tryd.prog 78 #[.string s] w fun e w' => e = .returned (.bool (decide (s.size ≠ 0) && decide (runT s s.size = s.size))) ∧ Below w.heap.size w w' := by
  obtain ⟨E, hE⟩ : ∃ E, runT s s.size = E := ⟨_, rfl⟩
  rw [hE]
  have HE := Lib.hid hE
  clear hE
  go_enter Tryd.func78, Tryd.ntmps78
  go_wp2_with fail
  go_loop [3] (fun i => ∃ p k : Nat, p ≤ s.size + 256 ∧ i = .int .i64 p ∧ k ≤ p ∧ k ≤ s.size ∧ Hid (runT s k = p)) (fun i => s.size + 256 - (intOf i).toNat)
  case atStart => exact ⟨0, 0, Nat.zero_le _, rfl, Nat.le_refl _, Nat.zero_le _, Lib.hid rfl⟩
  case round =>
    obtain ⟨p, k, hp, rfl, hkp, hks, hr⟩ := hrel
    by_cases hlt : p < s.size
    · have hlt' : (p : Int) < s.size := by omega
      have hnx := runT_next hr.out hlt
      have hge : ¬ (s.size : Int) ≤ p := by omega
      have hp0 : ¬ (p : Int) < 0 := by omega
      obtain ⟨x, hx⟩ : ∃ x, s[p] = x := ⟨_, rfl⟩
      obtain ⟨q, hxq⟩ : ∃ q, x.toNat = q := ⟨_, rfl⟩
      have hq256 : q < 256 := by rw [← hxq]; exact UInt8.toNat_lt _
      rw [hx, hxq] at hnx
      have HNX := Lib.hid hnx
      clear hnx
      have hw1 : IntKind.i64.wrap (q : Int) = q := by rw [IntKind.wrap_i64]; omega
      have hw2 : IntKind.i64.wrap (1 + (q : Int)) = 1 + q := by rw [IntKind.wrap_i64]; omega
      have hw3 : IntKind.i64.wrap ((p : Int) + (1 + (q : Int))) = ((p + 1 + q : Nat) : Int) := by rw [IntKind.wrap_i64]; omega
      have hi3 : ((p : Int) + (1 + (q : Int))) = ((p + 1 + q : Nat) : Int) := by omega
      go_wp2_with fail
      go_round
      case rel => exact ⟨p + 1 + q, k + 1, by omega, by first | rfl | rw [hi3] | rw [hw3] | go_num, by omega, by omega, HNX⟩
      case measure => simp [intOf]; omega
    · have hlt' : ¬ (p : Int) < s.size := by omega
      have hfin : runT s s.size = p := by
        obtain ⟨j, hj⟩ : ∃ j, s.size = k + j := ⟨s.size - k, by omega⟩
        rw [hj, runT_stays (by rw [hr.out]; exact hlt), hr.out]
      obtain rfl : E = p := HE.out.symm.trans hfin
      clear hfin
      by_cases h0 : s.size = 0
      · obtain rfl : s = ⟨#[]⟩ := by
          cases s with | mk a => simp [ByteArray.size] at h0; subst h0; rfl
        go_wp2_with fail
        go_ret
        exact ⟨by simp, Below.refl _ _⟩
      · have hse := str_empty s h0
        by_cases he : E = s.size
        · have heq : ((E : Int) == (s.size : Int)) = true := by simp [he]
          go_wp2_with fail
          go_ret
          exact ⟨by simp [h0, he], Below.refl _ _⟩
        · have heq : ((E : Int) == (s.size : Int)) = false := by simp; omega
          go_wp2_with fail
          go_ret
          exact ⟨by simp [h0, he], Below.refl _ _⟩
theorem cutSoa_some (s : ByteArray) (hs : s.size ≤ 100000) : ∃ q : Bool, ∀ w, Calls Tryd.prog 77 #[.string s] w fun e w' => (∃ a b c, e = .returned (.tuple #[a, b, c, .bool q])) ∧ Below w.heap.size w w' := by
  have key : ∀ w, Calls Tryd.prog 77 #[.string s] w fun e w' => (∃ a b c q, e = .returned (.tuple #[a, b, c, .bool q]) ∧ (q = true ↔ ∃ a b t, IsSoa s.data.toList a b t)) ∧ Below w.heap.size w w' := by
    intro w
    have HC := Lib.hid (fun w => cutp_any s w (by omega))
    go_enter Tryd.func77, Tryd.ntmps77
    go_wp2_with fail
    refine (HC.out w).mono ?_
    rintro e w1 ⟨hb1, ⟨n, t, hnt, rfl⟩ | ⟨hno, rfl⟩⟩
    · have HB1 := Lib.hid hb1
      have HNT := Lib.hid hnt
      have htl : t.length ≤ 100000 := by have := congrArg List.length hnt.2; simp at this; omega
      have HC2 := Lib.hid (fun w => cutp_any ⟨t.toArray⟩ w (by show t.toArray.size ≤ _; simp; omega))
      clear hb1 hnt
      rw [show sv t = .string ⟨t.toArray⟩ from rfl]
      go_wp2_with fail
      refine (HC2.out w1).mono ?_
      rintro e w2 ⟨hb2, ⟨n2, t2, hnt2, rfl⟩ | ⟨hno, rfl⟩⟩
      · have hnt2' : IsCut t n2 t2 := by simpa using hnt2
        have HB2 := Lib.hid (below_trans HB1.out HB1.out.size hb2)
        have HNT2 := Lib.hid hnt2'
        have htl2 : t2.length ≤ 100000 := by have := congrArg List.length hnt2'.2; simp at this; omega
        clear hb2 hnt2 hnt2'
        obtain ⟨T, hT⟩ : ∃ T : ByteArray, T = ⟨t2.toArray⟩ := ⟨_, rfl⟩
        have hTs : T.size = t2.length := by rw [hT]; simp [ByteArray.size]
        rw [show sv t2 = .string ⟨t2.toArray⟩ from rfl, ← hT]
        by_cases h20 : T.size = 20
        · have heq : ((T.size : Int) != 20) = false := by simp [h20]
          go_wp2_with fail
          refine bodyPost_ret (v := .tuple #[sv n, sv n2, .string T, .bool true]) (by simp [results, Tryd.results77, go_sem, hT]) rfl ?_
          exact ⟨⟨_, _, _, _, rfl, by simp; exact ⟨n, n2, t2, by have h := HNT.out; have h2 := HNT2.out; exact ⟨⟨h.1, by rw [h.2, h2.2]⟩, h2.1, by omega⟩⟩⟩, HB2.out⟩
        · have heq : ((T.size : Int) != 20) = true := by simp; omega
          go_wp2_with fail
          refine bodyPost_ret (v := .tuple #[.string ⟨#[]⟩, .string ⟨#[]⟩, .string ⟨#[]⟩, .bool false]) (by simp [results, Tryd.results77, go_sem]) rfl ?_
          refine ⟨⟨_, _, _, _, rfl, by
            simp
            intro a b t' hh
            have h1 := At.one hh.1 HNT.out
            have h2 := At.one (show IsCut t b t' from ⟨hh.2.1, h1.2.symm⟩) HNT2.out
            have := hh.2.2
            rw [h2.2] at this
            omega⟩, HB2.out⟩
      · have hno' : ∀ n2 t2, ¬ IsCut t n2 t2 := by simpa using hno
        have HB2 := Lib.hid (below_trans HB1.out HB1.out.size hb2)
        have HNO := Lib.hid hno'
        clear hb2 hno hno'
        go_wp2_with fail
        refine bodyPost_ret (v := .tuple #[.string ⟨#[]⟩, .string ⟨#[]⟩, .string ⟨#[]⟩, .bool false]) (by simp [results, Tryd.results77, go_sem]) rfl ?_
        refine ⟨⟨_, _, _, _, rfl, by
          simp
          intro a b t' hh
          have h1 := At.one hh.1 HNT.out
          exact HNO.out b t' ⟨hh.2.1, h1.2.symm⟩⟩, HB2.out⟩
    · have HB1 := Lib.hid hb1
      have HNO := Lib.hid hno
      clear hb1 hno
      go_wp2_with fail
      refine bodyPost_ret (v := .tuple #[.string ⟨#[]⟩, .string ⟨#[]⟩, .string ⟨#[]⟩, .bool false]) (by simp [results, Tryd.results77, go_sem]) rfl ?_
      exact ⟨⟨_, _, _, _, rfl, by simp; intro a b t' hh; exact HNO.out _ _ hh.1⟩, HB1.out⟩
  by_cases hq : ∃ a b t, IsSoa s.data.toList a b t
  · refine ⟨true, fun w => (key w).mono ?_⟩
    rintro e w' ⟨⟨a, b, c, q, rfl, h⟩, hb⟩
    rw [h.2 hq]
    exact ⟨⟨_, _, _, rfl⟩, hb⟩
  · refine ⟨false, fun w => (key w).mono ?_⟩
    rintro e w' ⟨⟨a, b, c, q, rfl, h⟩, hb⟩
    have : q = false := by cases q with | false => rfl | true => exact absurd (h.1 rfl) hq
    rw [this]
    exact ⟨⟨_, _, _, rfl⟩, hb⟩
theorem rmay_any (t : Int) (ht : 0 ≤ t ∧ t < 65536) (d : ByteArray) (hd : d.size ≤ 100000) : ∃ q : Bool, ∀ w, Calls Tryd.prog 61 #[.int .u16 t, .string d] w fun e w' => e = .returned (.bool q) ∧ Below w.heap.size w w' := by
  by_cases h1 : t = 1
  · subst h1
    refine ⟨decide (d.size = 4), fun w => ?_⟩
    have heq : ((d.size : Int) == 4) = decide (d.size = 4) := by by_cases h : d.size = 4 <;> simp [h]; omega
    go_enter Tryd.func61, Tryd.ntmps61
    go_wp2_with fail
    go_ret
    exact ⟨rfl, Below.refl _ _⟩
  have e1 : (t == 1) = false := by simp; omega
  by_cases h28 : t = 28
  · subst h28
    refine ⟨decide (d.size = 16), fun w => ?_⟩
    have heq : ((d.size : Int) == 16) = decide (d.size = 16) := by by_cases h : d.size = 16 <;> simp [h]; omega
    go_enter Tryd.func61, Tryd.ntmps61
    go_wp2_with fail
    go_ret
    exact ⟨rfl, Below.refl _ _⟩
  have e28 : (t == 28) = false := by simp; omega
  by_cases h2 : t = 2
  · subst h2
    refine ⟨(labelsOf d).isSome, fun w => ?_⟩
    have HM := Lib.hid (fun w => may_any d w (by unfold maxLen; omega))
    go_enter Tryd.func61, Tryd.ntmps61
    go_wp2_with fail
    refine (HM.out w).mono ?_
    rintro e w1 ⟨rfl, hb⟩
    go_wp2_with fail
    go_ret
    exact ⟨rfl, hb⟩
  have e2 : (t == 2) = false := by simp; omega
  by_cases h5 : t = 5
  · subst h5
    refine ⟨(labelsOf d).isSome, fun w => ?_⟩
    have HM := Lib.hid (fun w => may_any d w (by unfold maxLen; omega))
    go_enter Tryd.func61, Tryd.ntmps61
    go_wp2_with fail
    refine (HM.out w).mono ?_
    rintro e w1 ⟨rfl, hb⟩
    go_wp2_with fail
    go_ret
    exact ⟨rfl, hb⟩
  have e5 : (t == 5) = false := by simp; omega
  by_cases h6 : t = 6
  · subst h6
    obtain ⟨q, hq⟩ := cutSoa_some d hd
    refine ⟨q, fun w => ?_⟩
    have HM := Lib.hid hq
    clear hq
    go_enter Tryd.func61, Tryd.ntmps61
    go_wp2_with fail
    refine (HM.out w).mono ?_
    rintro e w1 ⟨⟨a, b, c, rfl⟩, hb⟩
    go_wp2_with fail
    go_ret
    exact ⟨rfl, hb⟩
  have e6 : (t == 6) = false := by simp; omega
  by_cases h16 : t = 16
  · subst h16
    by_cases hl : d.size ≤ 512
    · refine ⟨decide (d.size ≠ 0) && decide (runT d d.size = d.size), fun w => ?_⟩
      have HM := Lib.hid (fun w => texts_any d w hl)
      obtain ⟨Q, hQ⟩ : ∃ Q, (decide (d.size ≠ 0) && decide (runT d d.size = d.size)) = Q := ⟨_, rfl⟩
      rw [hQ] at HM ⊢
      clear hQ
      have hl' : (d.size : Int) ≤ 512 := by omega
      go_enter Tryd.func61, Tryd.ntmps61
      go_wp2_with fail
      refine (HM.out w).mono ?_
      rintro e w1 ⟨rfl, hb⟩
      go_wp2_with fail
      go_ret
      exact ⟨rfl, hb⟩
    · refine ⟨false, fun w => ?_⟩
      have hl' : ¬ (d.size : Int) ≤ 512 := by omega
      have hl2 : (512 : Int) < d.size := by omega
      go_enter Tryd.func61, Tryd.ntmps61
      go_wp2_with fail
      go_ret
      exact ⟨rfl, Below.refl _ _⟩
  have e16 : (t == 16) = false := by simp; omega
  refine ⟨decide (d.size ≤ 512), fun w => ?_⟩
  have heq : decide ((d.size : Int) ≤ 512) = decide (d.size ≤ 512) := by by_cases h : d.size ≤ 512 <;> simp [h] <;> omega
  go_enter Tryd.func61, Tryd.ntmps61
  go_wp2_with fail
  go_ret
  exact ⟨rfl, Below.refl _ _⟩
theorem mayrec_any (r : RecT) (ht : 0 ≤ r.2.1 ∧ r.2.1 < 65536) (hn : r.1.size ≤ 100000) (hd : r.2.2.2.size ≤ 100000) : ∃ q : Bool, ∀ w, Calls Tryd.prog 40 #[recV r] w fun e w' => e = .returned (.bool q) ∧ Below w.heap.size w w' := by
  obtain ⟨m, hm⟩ : ∃ m, (labelsOf r.1).isSome = m := ⟨_, rfl⟩
  have HM := Lib.hid (fun w => may_any r.1 w (by unfold maxLen; omega))
  rw [hm] at HM
  clear hm
  unfold recV
  cases m with
  | false =>
    refine ⟨false, fun w => ?_⟩
    go_enter Tryd.func40, Tryd.ntmps40
    go_wp2_with fail
    refine (HM.out _).mono ?_
    rintro e w1 ⟨rfl, hb⟩
    have HB := Lib.hid (below_alloc _ (Below.refl _ _) (Nat.le_refl _) hb)
    clear hb
    go_wp2_with fail
    go_ret
    exact ⟨rfl, HB.out⟩
  | true =>
    by_cases h41 : r.2.1 = 41
    · have e41 : (r.2.1 != 41) = false := by simp [h41]
      clear h41
      refine ⟨false, fun w => ?_⟩
      go_enter Tryd.func40, Tryd.ntmps40
      go_wp2_with fail
      refine (HM.out _).mono ?_
      rintro e w1 ⟨rfl, hb⟩
      have hc := (Cs.new w #[.string r.1, .int .u16 r.2.1, .int .u32 r.2.2.1, .string r.2.2.2] 41 [.string r.1, .int .u16 r.2.1, .int .u32 r.2.2.1, .string r.2.2.2]).below hb
      have c1 := hc.get 1 _
      have c3 := hc.get 3 _
      have HB := Lib.hid (below_alloc _ (Below.refl _ _) (Nat.le_refl _) hb)
      clear hb hc
      go_wp2_with fail
      go_ret
      exact ⟨rfl, HB.out⟩
    · have e41 : (r.2.1 != 41) = true := by simp [h41]
      obtain ⟨q, hq⟩ := rmay_any r.2.1 ht r.2.2.2 hd
      have HQ := Lib.hid hq
      clear hq
      refine ⟨q, fun w => ?_⟩
      go_enter Tryd.func40, Tryd.ntmps40
      go_wp2_with fail
      refine (HM.out _).mono ?_
      rintro e w1 ⟨rfl, hb⟩
      have hc := (Cs.new w #[.string r.1, .int .u16 r.2.1, .int .u32 r.2.2.1, .string r.2.2.2] 41 [.string r.1, .int .u16 r.2.1, .int .u32 r.2.2.1, .string r.2.2.2]).below hb
      have c1 := hc.get 1 _
      have c3 := hc.get 3 _
      have HB := Lib.hid (below_alloc _ (Below.refl _ _) (Nat.le_refl _) hb)
      clear hb hc
      go_wp2_with fail
      refine (HQ.out w1).mono ?_
      rintro e w2 ⟨rfl, hb2⟩
      have HB2 := Lib.hid (below_trans HB.out HB.out.size hb2)
      clear hb2
      go_wp2_with fail
      go_ret
      exact ⟨rfl, HB2.out⟩
end Go.Proofs.YtpbbnpglcadimaaDoor
namespace Go.Proofs.YtpbbnpglcadimaaDoor
open Go.RowKit
set_option linter.unusedVariables false
set_option linter.unusedSimpArgs false
set_option maxRecDepth 20000
/-- May a record be in a transfer of a name's zone? -/
def admB (m : RecT → Bool) (o : ByteArray) (r : RecT) : Bool := m r && ((stripOf r.1 o).isSome && !(soaB r && !(r.1.toList == o.toList)))
/-- May records be a transfer at all? -/
def admR (m : RecT → Bool) (o : ByteArray) (rs : List RecT) : Bool := rs.all (admB m o) && (match rs with | [] => false | r :: _ => soaB r)
theorem all_next {rs : List RecT} {k : Nat} {r : RecT} (p : RecT → Bool) (hr : rs[k]? = some r) : (rs.take (k + 1)).all p = ((rs.take k).all p && p r) := by rw [List.take_add_one, hr]; simp
theorem all_stop {rs : List RecT} {k : Nat} {r : RecT} (p : RecT → Bool) (hr : rs[k]? = some r) (hp : p r = false) : rs.all p = false := by
  rw [List.all_eq_false]
  exact ⟨r, List.mem_of_getElem? hr, by rw [hp]; simp⟩
set_option maxHeartbeats 3200000 in
theorem admissible_any (m : RecT → Bool) (o : ByteArray) (A : Option Addr) (n c : Nat) (rs : List RecT) (w : World) (h : Recs w A rs) (hl : rs.length = n) (hn : n ≤ 1048576) (ho : o.size ≤ maxLen) (hz : ∀ r ∈ rs, r.1.size ≤ maxLen)
    (hm : ∀ r ∈ rs, ∀ w, Calls Tryd.prog 40 #[recV r] w fun e w' => e = .returned (.bool (m r)) ∧ Below w.heap.size w w') :
    Calls Tryd.prog 21 #[.string o, .slice A n c] w fun e w' => e = .returned (.bool (admR m o rs)) ∧ Below w.heap.size w w' := by
  obtain ⟨R, hRR⟩ : ∃ R, admR m o rs = R := ⟨_, rfl⟩
  rw [hRR]
  have HRR := Lib.hid hRR
  have H := Lib.hid h
  have HL := Lib.hid hl
  have HM := Lib.hid hm
  have HZ := Lib.hid hz
  have HO := Lib.hid ho
  clear hRR h hl hm hz ho
  go_enter Tryd.func21, Tryd.ntmps21
  go_wp2_with fail
  go_loopw [9] (fun i wr => ∃ k : Nat, k ≤ n ∧ i = .int .i64 k ∧ Hid ((rs.take k).all (admB m o) = true) ∧ Hid (Below w.heap.size w wr)) (fun i _ => n - (intOf i).toNat)
  case atStart => exact ⟨0, Nat.zero_le _, rfl, Lib.hid (by simp), Lib.hid (Below.refl _ _)⟩
  case round =>
    obtain ⟨k, hk, rfl, HA, HB⟩ := hrel
    by_cases hlt : k < n
    · have hlt' : (k : Int) < n := by omega
      obtain ⟨r, hr⟩ : ∃ r, rs[k]? = some r := ⟨_, List.getElem?_eq_getElem (by rw [HL.out]; omega)⟩
      have hmem := List.mem_of_getElem? hr
      obtain ⟨bb, off, rfl, hbb, y0, y1, y2, y3⟩ := (H.out.below HB.out) k _ hr
      have CM := Lib.hid (HM.out r hmem)
      have CB := Lib.hid (fun w => below_any r.1 o w (HZ.out r hmem) HO.out)
      have IS := Lib.hid (fun w => isSoa_any r w)
      have hnx := all_next (admB m o) hr
      have hstop := all_stop (admB m o) hr
      have hadm : admB m o r = admB m o r := rfl
      unfold admB at hadm
      have HNX := Lib.hid hnx
      have HST := Lib.hid hstop
      have HAD : Hid (admB m o r = (m r && ((stripOf r.1 o).isSome && !(soaB r && !(r.1.toList == o.toList))))) := Lib.hid rfl
      obtain ⟨r0, r1, r2, r3⟩ := r
      simp only at y0 y1 y2 y3 CB HAD
      unfold recV at CM IS
      simp only at CM IS
      have hC := Cs.new wr #[.string r0, .int .u16 r1, .int .u32 r2, .string r3] 41 [.string r0, .int .u16 r1, .int .u32 r2, .string r3]
      have hB5 := HB.out.alloc HB.out.size (.cells #[.string r0, .int .u16 r1, .int .u32 r2, .string r3] 41)
      have H5 := Lib.hid (And.intro hC hB5)
      clear hmem hr hnx hstop hadm hC hB5
      go_upto_region 4 with fail
      obtain ⟨hC, hB5⟩ := H5.out
      generalize wr.alloc (.cells #[.string r0, .int .u16 r1, .int .u32 r2, .string r3] 41) = w5 at *
      obtain ⟨g, hg⟩ : ∃ g, g = wr.heap.size := ⟨_, rfl⟩
      rw [← hg] at hC ⊢
      have HC := Lib.hid hC
      have HB5 := Lib.hid hB5
      have c0 := hC.get 0 _
      have c1 := hC.get 1 _
      have c2 := hC.get 2 _
      have c3 := hC.get 3 _
      clear hC hB5 hg H5 y0 y1 y2 y3
      cases em : m (r0, r1, r2, r3) with
      | false =>
        have hR0 : R = false := by rw [← HRR.out]; unfold admR; rw [HST.out (by rw [HAD.out, em]; rfl)]; rfl
        subst hR0
        rw [em] at CM
        go_wp2_with fail
        refine (CM.out _).mono ?_
        rintro e w6 ⟨rfl, hb6⟩
        have HB6 := Lib.hid (below_trans HB5.out HB5.out.size hb6)
        clear hb6 c0 c1 c2 c3
        go_wp2_with fail
        go_ret
        exact ⟨rfl, HB6.out⟩
      | true =>
        have HEM := Lib.hid em
        rw [em] at CM
        clear em
        go_wp2_with fail
        refine (CM.out _).mono ?_
        rintro e w6 ⟨rfl, hb6⟩
        have HB6 := Lib.hid (below_trans HB5.out HB5.out.size hb6)
        have HC6 := Lib.hid (HC.out.below hb6)
        clear hb6 c0 c1 c2 c3
        have c0 := HC6.out.get 0 _
        go_wp2_with fail
        refine (CB.out _).mono ?_
        rintro e w7 ⟨rfl, hb7⟩
        have HB7 := Lib.hid (below_trans HB6.out HB6.out.size hb7)
        have HC7 := Lib.hid (HC6.out.below hb7)
        clear hb7 c0
        cases eb : (stripOf r0 o).isSome with
        | false =>
          have hR0 : R = false := by rw [← HRR.out]; unfold admR; rw [HST.out (by rw [HAD.out, HEM.out, eb]; rfl)]; rfl
          subst hR0
          go_wp2_with fail
          go_ret
          exact ⟨rfl, HB7.out⟩
        | true =>
          have HEB := Lib.hid eb
          clear eb
          have c0 := HC7.out.get 0 _
          have c1 := HC7.out.get 1 _
          have c2 := HC7.out.get 2 _
          have c3 := HC7.out.get 3 _
          go_wp2_with fail
          refine (IS.out _).mono ?_
          rintro e w8 ⟨rfl, hb8⟩
          have HB8 := Lib.hid (below_trans HB7.out HB7.out.size hb8)
          have HC8 := Lib.hid (HC7.out.below hb8)
          clear hb8 c0 c1 c2 c3
          have c0 := HC8.out.get 0 _
          cases es : soaB (r0, r1, r2, r3) with
          | false =>
            have HOK := Lib.hid (show admB m o (r0, r1, r2, r3) = true by rw [HAD.out, HEM.out, HEB.out, es]; rfl)
            clear es
            go_wp2_with fail
            go_round
            case rel => exact ⟨k + 1, by omega, by go_num, Lib.hid (by rw [HNX.out, HA.out, HOK.out]; rfl), HB8⟩
            case measure => simp [intOf]; omega
          | true =>
            have HES := Lib.hid es
            clear es
            cases en : (r0.toList == o.toList) with
            | true =>
              have en2 : (r0.toList != o.toList) = false := by simp only [bne, en]; rfl
              have HOK := Lib.hid (show admB m o (r0, r1, r2, r3) = true by rw [HAD.out, HEM.out, HEB.out, HES.out, en]; rfl)
              go_wp2_with fail
              go_round
              case rel => exact ⟨k + 1, by omega, by go_num, Lib.hid (by rw [HNX.out, HA.out, HOK.out]; rfl), HB8⟩
              case measure => simp [intOf]; omega
            | false =>
              have en2 : (r0.toList != o.toList) = true := by simp only [bne, en]; rfl
              have hR0 : R = false := by rw [← HRR.out]; unfold admR; rw [HST.out (by rw [HAD.out, HEM.out, HEB.out, HES.out, en]; rfl)]; rfl
              subst hR0
              go_wp2_with fail
              go_ret
              exact ⟨rfl, HB8.out⟩
    · have hlt' : ¬ (k : Int) < n := by omega
      obtain rfl : k = n := by omega
      have hall : rs.all (admB m o) = true := by have := HA.out; rwa [List.take_of_length_le (by rw [HL.out]; omega)] at this
      cases hrs : rs with
      | nil =>
        have hR0 : R = false := by rw [← HRR.out, hrs]; rfl
        obtain rfl : k = 0 := by rw [← HL.out, hrs]; rfl
        subst hR0
        clear hall hrs
        go_wp2_with fail
        go_ret
        exact ⟨rfl, HB.out⟩
      | cons r t =>
        have h0 : rs[0]? = some r := by rw [hrs]; rfl
        obtain ⟨bb, off, rfl, hbb, y0, y1, y2, y3⟩ := (H.out.below HB.out) 0 _ h0
        have hR0 : soaB r = R := by rw [← HRR.out]; unfold admR; rw [hall, hrs]; rfl
        have hk0 : (0 : Int) < k := by have := HL.out; rw [hrs] at this; simp at this; omega
        have hk0' : 0 < k := by omega
        have IS := Lib.hid (fun w => isSoa_any r w)
        rw [hR0] at IS
        obtain ⟨r0, r1, r2, r3⟩ := r
        simp only [Nat.zero_mul, Nat.add_zero] at y0 y1 y2 y3
        unfold recV at IS
        simp only at IS
        clear hall hrs h0 hR0
        go_wp2_with fail
        refine (IS.out _).mono ?_
        rintro e w8 ⟨rfl, hb8⟩
        have HB8 := Lib.hid (below_trans HB.out HB.out.size hb8)
        clear hb8 y0 y1 y2 y3
        go_wp2_with fail
        go_ret
        exact ⟨rfl, HB8.out⟩
end Go.Proofs.YtpbbnpglcadimaaDoor
namespace Go.Proofs.YtpbbnpglcadimaaDoor
open Go.RowKit
set_option linter.unusedVariables false
set_option linter.unusedSimpArgs false
set_option maxRecDepth 20000
theorem wpList_load_midH {P : Program} {ops : Array Oper} {rest : List Oper} {op : Oper} {a : Act} {w : World} {Q : Exit → Act → World → Prop} (hgd : Region.wanted op (yielded ops a.tmps) = true) (ty : TypeId) (x : Operand) (ho : op.op = .load ty x)
    (b o : Nat) (hx : a.eval x = .pointer (some ⟨b, o, none⟩)) (cs : List Value) (d : TypeDesc) (hc : w.rangeAt b o cs)
    (hu : P.underlying ty = some d) (hd : d.isRow = true) (hi : (P.info? ty).map (·.size) = some cs.length)
    (h : wpList P ops Q rest (a.put op.dst (.agg cs.toArray)) w) : wpList P ops Q (op :: rest) a w := by
  refine wpList_step fun K hK => ?_
  rw [if_pos hgd]
  exact wp_load_mid ty x ho b o hx cs d hc hu hd hi (hK _ _ h)
/-- The place of the first SOA from a place on; behind all, if there is none. -/
def nextS (rs : List RecT) (i : Nat) : Nat := i + ((rs.drop i).takeWhile fun r => !soaB r).length
theorem nextS_no {rs : List RecT} {i : Nat} {r : RecT} (hr : rs[i]? = some r) (hs : soaB r = false) : nextS rs i = nextS rs (i + 1) := by
  obtain ⟨h, he⟩ := List.getElem?_eq_some_iff.1 hr
  unfold nextS
  rw [List.drop_eq_getElem_cons h, he, List.takeWhile_cons]
  simp [hs]
  omega
theorem nextS_yes {rs : List RecT} {i : Nat} {r : RecT} (hr : rs[i]? = some r) (hs : soaB r = true) : nextS rs i = i := by
  obtain ⟨h, he⟩ := List.getElem?_eq_some_iff.1 hr
  unfold nextS
  rw [List.drop_eq_getElem_cons h, he, List.takeWhile_cons]
  simp [hs]
theorem nextS_end {rs : List RecT} {i : Nat} (h : rs.length ≤ i) : nextS rs i = i := by
  unfold nextS
  rw [List.drop_eq_nil_of_le h]; rfl
set_option maxHeartbeats 3200000 in
theorem nextSoa_any (A : Option Addr) (n c : Nat) (rs : List RecT) (i : Nat) (w : World) (h : Recs w A rs) (hl : rs.length = n) (hn : n ≤ 1048576) (hin : i ≤ 1048577) :
    Calls Tryd.prog 65 #[.slice A n c, .int .i64 (i : Nat)] w fun e w' => e = .returned (.int .i64 (nextS rs i : Nat)) ∧ Below w.heap.size w w' := by
  have H := Lib.hid h
  have HL := Lib.hid hl
  clear h hl
  go_enter Tryd.func65, Tryd.ntmps65
  go_wp2_with fail
  go_loopw [1] (fun p wr => ∃ k : Nat, k ≤ 1048577 ∧ p = .int .i64 k ∧ Hid (nextS rs i = nextS rs k) ∧ Hid (Below w.heap.size w wr)) (fun p _ => 1048577 - (intOf p).toNat)
  case atStart => exact ⟨i, hin, rfl, Lib.hid rfl, Lib.hid (Below.refl _ _)⟩
  case round =>
    obtain ⟨k, hk, rfl, HK, HB⟩ := hrel
    by_cases hlt : k < n
    · have hlt' : (k : Int) < n := by omega
      obtain ⟨r, hr⟩ : ∃ r, rs[k]? = some r := ⟨_, List.getElem?_eq_getElem (by rw [HL.out]; omega)⟩
      obtain ⟨bb, off, rfl, hbb, hrg⟩ := (H.out.below HB.out).range hr
      have IS := Lib.hid (fun w => isSoa_any r w)
      have HRG := Lib.hid hrg
      have HR := Lib.hid hr
      clear hr hrg hbb
      obtain ⟨r0, r1, r2, r3⟩ := r
      unfold recV at IS
      unfold recCells at HRG
      simp only at IS HRG
      go_wp2_with (first | refine wpList_load_midH rfl 41 _ rfl bb (off + k * 4) rfl _ _ HRG.out Tryd.underlying41 rfl (by kernel_rfl) ?_)
      refine (IS.out _).mono ?_
      rintro e w6 ⟨rfl, hb6⟩
      have HB6 := Lib.hid (below_trans HB.out HB.out.size hb6)
      clear hb6
      cases es : soaB (r0, r1, r2, r3) with
      | false =>
        have HNO := Lib.hid (nextS_no HR.out es)
        clear es
        go_wp2_with fail
        go_round
        case rel => exact ⟨k + 1, by omega, by go_num, Lib.hid (HK.out.trans HNO.out), HB6⟩
        case measure => simp [intOf]; omega
      | true =>
        have HYE := Lib.hid (HK.out.trans (nextS_yes HR.out es))
        clear es
        go_wp2_with fail
        go_ret
        exact ⟨by rw [HYE.out]; rfl, HB6.out⟩
    · have hlt' : ¬ (k : Int) < n := by omega
      have HEN := Lib.hid (HK.out.trans (nextS_end (by rw [HL.out]; omega)))
      go_wp2_with fail
      go_ret
      exact ⟨by rw [HEN.out]; rfl, HB.out⟩
end Go.Proofs.YtpbbnpglcadimaaDoor
namespace Go.Proofs.YtpbbnpglcadimaaDoor
open Go.RowKit
set_option linter.unusedVariables false
set_option linter.unusedSimpArgs false
set_option maxRecDepth 20000
theorem any_next9 {rs : List RecT} {k : Nat} {r : RecT} (p : RecT → Bool) (hr : rs[k]? = some r) : (rs.take (k + 1)).any p = ((rs.take k).any p || p r) := by rw [List.take_add_one, hr]; simp
theorem any_stop9 {rs : List RecT} {k : Nat} {r : RecT} (p : RecT → Bool) (hr : rs[k]? = some r) (hp : p r = true) : rs.any p = true := by
  rw [List.any_eq_true]; exact ⟨r, List.mem_of_getElem? hr, hp⟩
set_option maxHeartbeats 1600000 in
theorem indexSoa_any (A : Option Addr) (n c : Nat) (rs : List RecT) (w : World) (h : Recs w A rs) (hl : rs.length = n) (hn : n ≤ 1048576) :
    Calls Tryd.prog 64 #[.slice A n c, .func (.func 37) #[] #[]] w fun e w' => (∃ i : Int, e = .returned (.int .i64 i) ∧ decide (0 ≤ i) = rs.any soaB) ∧ Below w.heap.size w w' := by
  have H := Lib.hid h
  have HL := Lib.hid hl
  clear h hl
  go_enter Tryd.func64, Tryd.ntmps64
  go_wp2_with fail
  go_loopw [8] (fun p wr => ∃ k : Nat, k ≤ n ∧ p = .int .i64 k ∧ Hid ((rs.take k).any soaB = false) ∧ Hid (Below w.heap.size w wr)) (fun p _ => n - (intOf p).toNat)
  case atStart => exact ⟨0, Nat.zero_le _, rfl, Lib.hid (by simp), Lib.hid (Below.refl _ _)⟩
  case round =>
    obtain ⟨k, hk, rfl, HK, HB⟩ := hrel
    by_cases hlt : k < n
    · have hlt' : (k : Int) < n := by omega
      obtain ⟨r, hr⟩ : ∃ r, rs[k]? = some r := ⟨_, List.getElem?_eq_getElem (by rw [HL.out]; omega)⟩
      obtain ⟨bb, off, rfl, hbb, hrg⟩ := (H.out.below HB.out).range hr
      have IS := Lib.hid (fun w => isSoa_any r w)
      have HRG := Lib.hid hrg
      have HR := Lib.hid hr
      clear hr hrg hbb
      obtain ⟨r0, r1, r2, r3⟩ := r
      unfold recV at IS
      unfold recCells at HRG
      simp only at IS HRG
      go_wp2_with (first | refine wpList_load_mid rfl 41 _ rfl bb (off + k * 4) rfl _ _ HRG.out Tryd.underlying41 rfl (by kernel_rfl) ?_)
      refine (IS.out _).mono ?_
      rintro e w6 ⟨rfl, hb6⟩
      have HB6 := Lib.hid (below_trans HB.out HB.out.size hb6)
      clear hb6
      cases es : soaB (r0, r1, r2, r3) with
      | false =>
        have HNO := Lib.hid (any_next9 soaB HR.out)
        have HES := Lib.hid es
        clear es
        go_wp2_with fail
        go_round
        case rel => exact ⟨k + 1, by omega, by go_num, Lib.hid (by rw [HNO.out, HK.out, HES.out]; rfl), HB6⟩
        case measure => simp [intOf]; omega
      | true =>
        have HYE := Lib.hid (any_stop9 soaB HR.out es)
        clear es
        go_wp2_with fail
        go_ret
        exact ⟨⟨k, rfl, by rw [HYE.out]; exact decide_eq_true (by omega)⟩, HB6.out⟩
    · have hlt' : ¬ (k : Int) < n := by omega
      have HEN : Hid (rs.any soaB = false) := Lib.hid (by have := HK.out; rwa [List.take_of_length_le (by rw [HL.out]; omega)] at this)
      go_wp2_with fail
      go_ret
      exact ⟨⟨-1, rfl, by rw [HEN.out]; rfl⟩, HB.out⟩
theorem containsSoa_any (A : Option Addr) (n c : Nat) (rs : List RecT) (w : World) (h : Recs w A rs) (hl : rs.length = n) (hn : n ≤ 1048576) :
    Calls Tryd.prog 43 #[.slice A n c, .func (.func 37) #[] #[]] w fun e w' => e = .returned (.bool (rs.any soaB)) ∧ Below w.heap.size w w' := by
  have IX := Lib.hid (indexSoa_any A n c rs w h hl hn)
  clear h hl
  generalize rs.any soaB = q at *
  go_enter Tryd.func43, Tryd.ntmps43
  go_wp2_with fail
  refine IX.out.mono ?_
  rintro e w1 ⟨⟨i, rfl, hi⟩, hb⟩
  have HB := Lib.hid hb
  clear hb
  by_cases h0 : 0 ≤ i
  · rw [decide_eq_true h0] at hi
    subst hi
    go_wp2_with fail
    go_ret
    exact ⟨rfl, HB.out⟩
  · rw [decide_eq_false h0] at hi
    subst hi
    go_wp2_with fail
    go_ret
    refine ⟨?_, HB.out⟩
    show Ending.returned (.bool (decide (0 ≤ i))) = _
    rw [decide_eq_false (by omega)]
end Go.Proofs.YtpbbnpglcadimaaDoor
namespace Go.Proofs.YtpbbnpglcadimaaDoor
open Go.RowKit
set_option linter.unusedVariables false
set_option linter.unusedSimpArgs false
set_option maxRecDepth 20000
attribute [local simp] putsF isV wordOf Deps Region.binds Region.wanted Act.put wantedX isB
/-- Are records a whole zone's? -/
def fullR (m : RecT → Bool) (o : ByteArray) (rs : List RecT) : Bool := match rs with
  | [] => false
  | [_] => false
  | a :: b :: t => admR m o (a :: b :: t) && (eqB ((a :: b :: t).getLast (by simp)) a && !(((a :: b :: t).drop 1).take (t.length)).any soaB)
theorem Recs.part {w : World} {b off : Nat} {rs : List RecT} (h : Recs w (some ⟨b, off, none⟩) rs) (i k : Nat) : Recs w (some ⟨b, off + i * 4, none⟩) ((rs.drop i).take k) := by
  intro j r hr
  rw [List.getElem?_take] at hr
  split at hr
  · rw [List.getElem?_drop] at hr
    obtain ⟨b', off', hA, hb, g0, g1, g2, g3⟩ := h _ _ hr
    injection hA with hA; injection hA with q1 q2; subst q1 q2
    have e : off + (i + j) * 4 = off + i * 4 + j * 4 := by omega
    rw [e] at g0 g1 g2 g3
    exact ⟨_, _, rfl, hb, g0, g1, g2, g3⟩
  · cases hr
/-- Full's answer. -/
def FullA (m : RecT → Bool) (o : ByteArray) (rs : List RecT) (w : World) (e : Ending) (w' : World) : Prop :=
  (fullR m o rs = false ∧ e = .returned (.tuple #[.slice none 0 0, .iface 36 (.int .i64 4)]) ∧ Below w.heap.size w w') ∨
  (fullR m o rs = true ∧ ∃ v, e = .returned (.tuple #[v, .nilIface]) ∧ OBM 4 w.heap.size w v (rs.length - 1) (flatR (rs.take (rs.length - 1))) w')
set_option maxHeartbeats 6400000 in
theorem full_any (m : RecT → Bool) (o : ByteArray) (bb off : Nat) (n c : Nat) (rs : List RecT) (w : World) (h : Recs w (some ⟨bb, off, none⟩) rs) (hl : rs.length = n) (hn : n ≤ 1000) (h2 : 2 ≤ n) (hc : n ≤ c) (ho : o.size ≤ maxLen) (hz : ∀ r ∈ rs, r.1.size ≤ maxLen) (hbl : bb < w.heap.size)
    (hm : ∀ r ∈ rs, ∀ w, Calls Tryd.prog 40 #[recV r] w fun e w' => e = .returned (.bool (m r)) ∧ Below w.heap.size w w')
    (CLN : ∀ wx, Below w.heap.size w wx → Calls Tryd.prog 44 #[.slice (some ⟨bb, off, none⟩) (n - 1) c] wx fun e w' => ∃ v, e = .returned v ∧ OBM 4 wx.heap.size wx v (n - 1) (flatR (rs.take (n - 1))) w') :
    Calls Tryd.prog 23 #[.string o, .slice (some ⟨bb, off, none⟩) n c] w (FullA m o rs w) := by
  obtain ⟨AR, hAR⟩ : ∃ R, R = FullA m o rs w := ⟨_, rfl⟩
  rw [← hAR]
  obtain ⟨rl, hrl⟩ : ∃ r, rs[n - 1]? = some r := ⟨_, List.getElem?_eq_getElem (by omega)⟩
  obtain ⟨rf, hrf⟩ : ∃ r, rs[0]? = some r := ⟨_, List.getElem?_eq_getElem (by omega)⟩
  have hfull : fullR m o rs = (admR m o rs && (eqB rl rf && !((rs.drop 1).take (n - 2)).any soaB)) := by
    match rs, hl, hrl, hrf with
    | [], hl, _, _ => simp at hl; omega
    | [_], hl, _, _ => simp at hl; omega
    | a :: b :: t, hl, hrl, hrf =>
      have e1 : a = rf := by simpa using hrf
      have e2 : (a :: b :: t).getLast (by simp) = rl := by
        rw [List.getLast_eq_getElem]
        have := hrl
        rw [List.getElem?_eq_getElem (by simp at hl ⊢; omega)] at this
        have h3 := Option.some.inj this
        rw [← h3]
        congr 1
        simp at hl ⊢
        omega
      unfold fullR
      simp only
      rw [e2, e1, show t.length = n - 2 by simp at hl; omega]
  have HFAIL : Hid (fullR m o rs = false → ∀ w', Below w.heap.size w w' → AR (.returned (.tuple #[.slice none 0 0, .iface 36 (.int .i64 4)])) w') := Lib.hid (fun hf w' hb => by rw [hAR]; exact .inl ⟨hf, rfl, hb⟩)
  have HGOOD : Hid (fullR m o rs = true → ∀ v w', OBM 4 w.heap.size w v (n - 1) (flatR (rs.take (n - 1))) w' → AR (.returned (.tuple #[v, .nilIface])) w') := Lib.hid (fun hf v w' hb => by rw [hAR]; exact .inr ⟨hf, v, rfl, by rw [hl]; exact hb⟩)
  have HFULL := Lib.hid hfull
  have AD := Lib.hid (fun (wx : World) (hb : Below w.heap.size w wx) => admissible_any m o (some ⟨bb, off, none⟩) n c rs wx (h.below hb) hl (by omega) ho hz hm)
  have hpart : (rs.drop 1).take (n - 2) = (rs.drop 1).take (n - 2) := rfl
  have CT := Lib.hid (fun (wx : World) (hb : Below w.heap.size w wx) => containsSoa_any (some ⟨bb, off + 4, none⟩) (n - 2) (c - 1) ((rs.drop 1).take (n - 2)) wx (by have := (h.below hb).part 1 (n - 2); simpa using this) (by rw [List.length_take, List.length_drop]; omega) (by omega))
  have CL := Lib.hid CLN
  obtain ⟨b1, o1, hA1, hb1, hr1⟩ := h.range hrl
  injection hA1 with hA1; injection hA1 with q1 q2; subst q1 q2
  obtain ⟨b2, o2, hA2, hb2, hr2⟩ := h.range hrf
  injection hA2 with hA2; injection hA2 with q1 q2; subst q1 q2
  have HRL : Hid (∀ wx, Below w.heap.size w wx → wx.rangeAt bb (off + (n - 1) * 4) (recCells rl)) := Lib.hid (fun wx hb j v hv => (hb.cell (p := ⟨bb, off + (n - 1) * 4 + j, none⟩) hb1).trans (hr1 j v hv))
  have HRF : Hid (∀ wx, Below w.heap.size w wx → wx.rangeAt bb off (recCells rf)) := Lib.hid (fun wx hb j v hv => (hb.cell (p := ⟨bb, off + j, none⟩) hb1).trans (by have := hr2 j v hv; simpa using this))
  obtain ⟨VL, hVL⟩ : ∃ v, v = recV rl := ⟨_, rfl⟩
  obtain ⟨VF, hVF⟩ : ∃ v, v = recV rf := ⟨_, rfl⟩
  have HVL := Lib.hid hVL
  have HVF := Lib.hid hVF
  have HNQ : Hid (∀ w, (binOp .neq 41 VL VF).run Tryd.prog w = .ok (.bool (!eqB rl rf)) w) := Lib.hid (fun w => by rw [HVL.out, HVF.out]; exact rec_neq rl rf w)
  obtain ⟨L, hL⟩ : ∃ L, L = n - 1 := ⟨_, rfl⟩
  rw [← hL] at HRL CL HGOOD
  rw [show n - 2 = L - 1 by omega] at HFULL CT
  have e1 : wrap64 ((n : Int) - 1) = (L : Int) := by unfold wrap64; omega
  have e2 : IntKind.i64.wrap ((n : Int) - 1) = (L : Int) := by rw [IntKind.wrap_i64]; omega
  have e3 : ¬ (L : Int) < 1 := by omega
  have e3' : ¬ L < 1 := by omega
  have e6 : (L : Int) < n := by omega
  have e6' : L < n := by omega
  have e7 : ¬ c = 1 := by omega
  have e8 : (1 : Int) ≤ L := by omega
  have e8' : 1 ≤ L := by omega
  have e9 : (L : Int) ≤ c := by omega
  have e9' : L ≤ c := by omega
  have e11 : (0 : Int) < n := by omega
  have e12 : 0 < n := by omega
  have e13 : ¬ L = 0 := by omega
  clear hL h hl hz hm ho CLN hAR hrl hrf hfull hpart hb1 hr1 hb2 hr2 hVL hVF hbl
  generalize ((rs.drop 1).take (L - 1)).any soaB = cs at *
  generalize admR m o rs = ad at *
  generalize eqB rl rf = eq at *
  go_enter Tryd.func23, Tryd.ntmps23
  go_upto_region 2 with fail
  cases ad with
  | false =>
    refine wp_region_goesG data_follows (fun x => by simp [putsF, Act.put]; rfl) w.heap.size w
      [isV (.int .i64 (L : Nat)), isV (.bool false), isV (.bool false), isV (.string o), isV (.slice (some ⟨bb, off, none⟩) n c), isV (.bool false), isV (.bool true), isV (.bool true), isV (.bool true), isV undef, isV undef, isV undef, isV undef, isV undef, isV undef, isV undef, isV undef, isV (.bool true), isV (.bool true), isV undef, isV undef, isV undef, isV undef, isV (.bool true)]
      (by kernel_rfl) (by kernel_rfl) (by kernel_rfl) rfl ?_ (Below.refl _ _) ?_ ?_
    · repeat (first | exact trivial | refine ⟨isV_stays _, ?_⟩)
    · refine ⟨?_, ?_, ?_, ?_, ?_, ?_, ?_, ?_, ?_, ?_, ?_, ?_, ?_, ?_, ?_, ?_, ?_, ?_, ?_, ?_, ?_, ?_, ?_, ?_, trivial⟩
      all_goals
        intro x wx hR hd
        simp at hd
      · refine ⟨fun _ => ?_, fun hX => by first | (simp at hX; done) | (simp [hd] at hX; done)⟩
        (try simp [hd]); go_simp; exact next_same _ rfl rfl hR
      · refine ⟨fun _ => ?_, fun hX => by first | (simp at hX; done) | (simp [hd] at hX; done)⟩
        (try simp [hd]); go_simp; exact next_same _ rfl rfl hR
      · refine ⟨fun _ => ?_, fun hX => by first | (simp at hX; done) | (simp [hd] at hX; done)⟩
        (try simp [hd]); go_simp; exact next_same _ rfl rfl hR
      · refine ⟨fun _ => ?_, fun hX => by first | (simp at hX; done) | (simp [hd] at hX; done)⟩
        (try simp [hd]); go_simp; exact next_same _ rfl rfl hR
      · refine ⟨fun _ => ?_, fun hX => by first | (simp at hX; done) | (simp [hd] at hX; done)⟩
        (try simp [hd]); go_simp; exact next_same _ rfl rfl hR
      · refine ⟨fun _ => ?_, fun hX => by first | (simp at hX; done) | (simp [hd] at hX; done)⟩
        (try simp [hd])
        go_simp
        go_at_call 21
        refine (AD.out wx hR).mono ?_
        rintro r wy ⟨rfl, hb⟩
        exact next_call _ rfl rfl hR hR.size hb
      · refine ⟨fun _ => ?_, fun hX => by first | (simp at hX; done) | (simp [hd] at hX; done)⟩
        (try simp [hd]); go_simp; exact next_same _ rfl rfl hR
      · refine ⟨fun _ => ?_, fun hX => by first | (simp at hX; done) | (simp [hd] at hX; done)⟩
        (try simp [hd]); go_simp; exact next_same _ rfl rfl hR
      · refine ⟨fun _ => ?_, fun hX => by first | (simp at hX; done) | (simp [hd] at hX; done)⟩
        (try simp [hd]); go_simp; exact next_same _ rfl rfl hR
      · refine ⟨fun hX => ?_, fun _ => rfl⟩
        exfalso; first | (simp [hd] at hX; done) | (simp [hd, undef] at hX; done)
      · refine ⟨fun hX => ?_, fun _ => rfl⟩
        exfalso; first | (simp [hd] at hX; done) | (simp [hd, undef] at hX; done)
      · refine ⟨fun hX => ?_, fun _ => rfl⟩
        exfalso; first | (simp [hd] at hX; done) | (simp [hd, undef] at hX; done)
      · refine ⟨fun hX => ?_, fun _ => rfl⟩
        exfalso; first | (simp [hd] at hX; done) | (simp [hd, undef] at hX; done)
      · refine ⟨fun hX => ?_, fun _ => rfl⟩
        exfalso; first | (simp [hd] at hX; done) | (simp [hd, undef] at hX; done)
      · refine ⟨fun hX => ?_, fun _ => rfl⟩
        exfalso; first | (simp [hd] at hX; done) | (simp [hd, undef] at hX; done)
      · refine ⟨fun hX => ?_, fun _ => rfl⟩
        exfalso; first | (simp [hd] at hX; done) | (simp [hd, undef] at hX; done)
      · refine ⟨fun hX => ?_, fun _ => rfl⟩
        exfalso; first | (simp [hd] at hX; done) | (simp [hd, undef] at hX; done)
      · refine ⟨fun _ => ?_, fun hX => by first | (simp at hX; done) | (simp [hd] at hX; done)⟩
        (try simp [hd]); go_simp; exact next_same _ rfl rfl hR
      · refine ⟨fun _ => ?_, fun hX => by first | (simp at hX; done) | (simp [hd] at hX; done)⟩
        (try simp [hd]); go_simp; exact next_same _ rfl rfl hR
      · refine ⟨fun hX => ?_, fun _ => rfl⟩
        exfalso; first | (simp [hd] at hX; done) | (simp [hd, undef] at hX; done)
      · refine ⟨fun hX => ?_, fun _ => rfl⟩
        exfalso; first | (simp [hd] at hX; done) | (simp [hd, undef] at hX; done)
      · refine ⟨fun hX => ?_, fun _ => rfl⟩
        exfalso; first | (simp [hd] at hX; done) | (simp [hd, undef] at hX; done)
      · refine ⟨fun hX => ?_, fun _ => rfl⟩
        exfalso; first | (simp [hd] at hX; done) | (simp [hd, undef] at hX; done)
      · refine ⟨fun _ => ?_, fun hX => by first | (simp at hX; done) | (simp [hd] at hX; done)⟩
        (try simp [hd]); go_simp; exact next_same _ rfl rfl hR
    intro x w7 hR hx
    simp [AllWords] at hx
    have h23 : x 23 = .bool true := by simp [hx]
    rw [h23]
    clear hx h23
    have HB7 := Lib.hid hR
    clear hR
    go_wp2_with fail
    exact HFAIL.out (by rw [HFULL.out]; rfl) _ HB7.out
  | true =>
    cases eq with
    | false =>
      refine wp_region_goesG data_follows (fun x => by simp [putsF, Act.put]; rfl) w.heap.size w
        [isV (.int .i64 (L : Nat)), isV (.bool false), isV (.bool false), isV (.string o), isV (.slice (some ⟨bb, off, none⟩) n c), isV (.bool true), isV (.bool false), isV (.bool false), isV (.bool false), isV (.slice (some ⟨bb, off, none⟩) n c), isV (.int .i64 (L : Nat)), isV (.pointer (some ⟨bb, off + L * 4, none⟩)), isV VL, isV (.slice (some ⟨bb, off, none⟩) n c), isV (.pointer (some ⟨bb, off, none⟩)), isV VF, isV (.bool true), isV (.bool true), isV (.bool true), isV undef, isV undef, isV undef, isV undef, isV (.bool true)]
        (by kernel_rfl) (by kernel_rfl) (by kernel_rfl) rfl ?_ (Below.refl _ _) ?_ ?_
      · repeat (first | exact trivial | refine ⟨isV_stays _, ?_⟩)
      · refine ⟨?_, ?_, ?_, ?_, ?_, ?_, ?_, ?_, ?_, ?_, ?_, ?_, ?_, ?_, ?_, ?_, ?_, ?_, ?_, ?_, ?_, ?_, ?_, ?_, trivial⟩
        all_goals
          intro x wx hR hd
          simp at hd
        · refine ⟨fun _ => ?_, fun hX => by first | (simp at hX; done) | (simp [hd] at hX; done)⟩
          (try simp [hd]); go_simp; exact next_same _ rfl rfl hR
        · refine ⟨fun _ => ?_, fun hX => by first | (simp at hX; done) | (simp [hd] at hX; done)⟩
          (try simp [hd]); go_simp; exact next_same _ rfl rfl hR
        · refine ⟨fun _ => ?_, fun hX => by first | (simp at hX; done) | (simp [hd] at hX; done)⟩
          (try simp [hd]); go_simp; exact next_same _ rfl rfl hR
        · refine ⟨fun _ => ?_, fun hX => by first | (simp at hX; done) | (simp [hd] at hX; done)⟩
          (try simp [hd]); go_simp; exact next_same _ rfl rfl hR
        · refine ⟨fun _ => ?_, fun hX => by first | (simp at hX; done) | (simp [hd] at hX; done)⟩
          (try simp [hd]); go_simp; exact next_same _ rfl rfl hR
        · refine ⟨fun _ => ?_, fun hX => by first | (simp at hX; done) | (simp [hd] at hX; done)⟩
          (try simp [hd])
          go_simp
          go_at_call 21
          refine (AD.out wx hR).mono ?_
          rintro r wy ⟨rfl, hb⟩
          exact next_call _ rfl rfl hR hR.size hb
        · refine ⟨fun _ => ?_, fun hX => by first | (simp at hX; done) | (simp [hd] at hX; done)⟩
          (try simp [hd]); go_simp; exact next_same _ rfl rfl hR
        · refine ⟨fun _ => ?_, fun hX => by first | (simp at hX; done) | (simp [hd] at hX; done)⟩
          (try simp [hd]); go_simp; exact next_same _ rfl rfl hR
        · refine ⟨fun _ => ?_, fun hX => by first | (simp at hX; done) | (simp [hd] at hX; done)⟩
          (try simp [hd]); go_simp; exact next_same _ rfl rfl hR
        · refine ⟨fun _ => ?_, fun hX => by first | (simp at hX; done) | (simp [hd] at hX; done)⟩
          (try simp [hd]); go_simp; exact next_same _ rfl rfl hR
        · refine ⟨fun _ => ?_, fun hX => by first | (simp at hX; done) | (simp [hd] at hX; done)⟩
          (try simp [hd]); go_simp; exact next_same _ rfl rfl hR
        · refine ⟨fun _ => ?_, fun hX => by first | (simp at hX; done) | (simp [hd] at hX; done)⟩
          (try simp [hd]); go_simp; exact next_same _ rfl rfl hR
        · refine ⟨fun _ => ?_, fun hX => by first | (simp at hX; done) | (simp [hd] at hX; done)⟩
          refine wp_load_mid 41 _ rfl bb (off + L * 4) (by simp [go_sem, hd]) _ _ (HRL.out wx hR) Tryd.underlying41 rfl (by kernel_rfl) ?_
          exact next_same _ rfl HVL.out.symm hR
        · refine ⟨fun _ => ?_, fun hX => by first | (simp at hX; done) | (simp [hd] at hX; done)⟩
          (try simp [hd]); go_simp; exact next_same _ rfl rfl hR
        · refine ⟨fun _ => ?_, fun hX => by first | (simp at hX; done) | (simp [hd] at hX; done)⟩
          (try simp [hd]); go_simp; exact next_same _ rfl rfl hR
        · refine ⟨fun _ => ?_, fun hX => by first | (simp at hX; done) | (simp [hd] at hX; done)⟩
          refine wp_load_mid 41 _ rfl bb off (by simp [go_sem, hd]) _ _ (HRF.out wx hR) Tryd.underlying41 rfl (by kernel_rfl) ?_
          exact next_same _ rfl HVF.out.symm hR
        · refine ⟨fun _ => ?_, fun hX => by first | (simp at hX; done) | (simp [hd] at hX; done)⟩
          obtain ⟨hd0, hd1, -⟩ := hd
          exact wp_binop _ _ _ _ _ rfl hd0 hd1 (by rw [HVL.out, HVF.out]; first | kernel_rfl | rfl) (HNQ.out wx) (next_same _ rfl rfl hR)
        · refine ⟨fun _ => ?_, fun hX => by first | (simp at hX; done) | (simp [hd] at hX; done)⟩
          (try simp [hd]); go_simp; exact next_same _ rfl rfl hR
        · refine ⟨fun _ => ?_, fun hX => by first | (simp at hX; done) | (simp [hd] at hX; done)⟩
          (try simp [hd]); go_simp; exact next_same _ rfl rfl hR
        · refine ⟨fun hX => ?_, fun _ => rfl⟩
          exfalso; first | (simp [hd] at hX; done) | (simp [hd, undef] at hX; done)
        · refine ⟨fun hX => ?_, fun _ => rfl⟩
          exfalso; first | (simp [hd] at hX; done) | (simp [hd, undef] at hX; done)
        · refine ⟨fun hX => ?_, fun _ => rfl⟩
          exfalso; first | (simp [hd] at hX; done) | (simp [hd, undef] at hX; done)
        · refine ⟨fun hX => ?_, fun _ => rfl⟩
          exfalso; first | (simp [hd] at hX; done) | (simp [hd, undef] at hX; done)
        · refine ⟨fun _ => ?_, fun hX => by first | (simp at hX; done) | (simp [hd] at hX; done)⟩
          (try simp [hd]); go_simp; exact next_same _ rfl rfl hR
      intro x w7 hR hx
      simp [AllWords] at hx
      have h23 : x 23 = .bool true := by simp [hx]
      rw [h23]
      clear hx h23
      have HB7 := Lib.hid hR
      clear hR
      go_wp2_with fail
      exact HFAIL.out (by rw [HFULL.out]; rfl) _ HB7.out
    | true =>
      cases cs with
      | true =>
        refine wp_region_goesG data_follows (fun x => by simp [putsF, Act.put]; rfl) w.heap.size w
          [isV (.int .i64 (L : Nat)), isV (.bool false), isV (.bool false), isV (.string o), isV (.slice (some ⟨bb, off, none⟩) n c), isV (.bool true), isV (.bool false), isV (.bool false), isV (.bool false), isV (.slice (some ⟨bb, off, none⟩) n c), isV (.int .i64 (L : Nat)), isV (.pointer (some ⟨bb, off + L * 4, none⟩)), isV VL, isV (.slice (some ⟨bb, off, none⟩) n c), isV (.pointer (some ⟨bb, off, none⟩)), isV VF, isV (.bool false), isV (.bool false), isV (.bool false), isV (.slice (some ⟨bb, off, none⟩) n c), isV (.int .i64 (L : Nat)), isV (.slice (some ⟨bb, off + 4, none⟩) (L - 1) (c - 1)), isV (.bool true), isV (.bool true)]
          (by kernel_rfl) (by kernel_rfl) (by kernel_rfl) rfl ?_ (Below.refl _ _) ?_ ?_
        · repeat (first | exact trivial | refine ⟨isV_stays _, ?_⟩)
        · refine ⟨?_, ?_, ?_, ?_, ?_, ?_, ?_, ?_, ?_, ?_, ?_, ?_, ?_, ?_, ?_, ?_, ?_, ?_, ?_, ?_, ?_, ?_, ?_, ?_, trivial⟩
          all_goals
            intro x wx hR hd
            simp at hd
          · refine ⟨fun _ => ?_, fun hX => by first | (simp at hX; done) | (simp [hd] at hX; done)⟩
            (try simp [hd]); go_simp; exact next_same _ rfl rfl hR
          · refine ⟨fun _ => ?_, fun hX => by first | (simp at hX; done) | (simp [hd] at hX; done)⟩
            (try simp [hd]); go_simp; exact next_same _ rfl rfl hR
          · refine ⟨fun _ => ?_, fun hX => by first | (simp at hX; done) | (simp [hd] at hX; done)⟩
            (try simp [hd]); go_simp; exact next_same _ rfl rfl hR
          · refine ⟨fun _ => ?_, fun hX => by first | (simp at hX; done) | (simp [hd] at hX; done)⟩
            (try simp [hd]); go_simp; exact next_same _ rfl rfl hR
          · refine ⟨fun _ => ?_, fun hX => by first | (simp at hX; done) | (simp [hd] at hX; done)⟩
            (try simp [hd]); go_simp; exact next_same _ rfl rfl hR
          · refine ⟨fun _ => ?_, fun hX => by first | (simp at hX; done) | (simp [hd] at hX; done)⟩
            (try simp [hd])
            go_simp
            go_at_call 21
            refine (AD.out wx hR).mono ?_
            rintro r wy ⟨rfl, hb⟩
            exact next_call _ rfl rfl hR hR.size hb
          · refine ⟨fun _ => ?_, fun hX => by first | (simp at hX; done) | (simp [hd] at hX; done)⟩
            (try simp [hd]); go_simp; exact next_same _ rfl rfl hR
          · refine ⟨fun _ => ?_, fun hX => by first | (simp at hX; done) | (simp [hd] at hX; done)⟩
            (try simp [hd]); go_simp; exact next_same _ rfl rfl hR
          · refine ⟨fun _ => ?_, fun hX => by first | (simp at hX; done) | (simp [hd] at hX; done)⟩
            (try simp [hd]); go_simp; exact next_same _ rfl rfl hR
          · refine ⟨fun _ => ?_, fun hX => by first | (simp at hX; done) | (simp [hd] at hX; done)⟩
            (try simp [hd]); go_simp; exact next_same _ rfl rfl hR
          · refine ⟨fun _ => ?_, fun hX => by first | (simp at hX; done) | (simp [hd] at hX; done)⟩
            (try simp [hd]); go_simp; exact next_same _ rfl rfl hR
          · refine ⟨fun _ => ?_, fun hX => by first | (simp at hX; done) | (simp [hd] at hX; done)⟩
            (try simp [hd]); go_simp; exact next_same _ rfl rfl hR
          · refine ⟨fun _ => ?_, fun hX => by first | (simp at hX; done) | (simp [hd] at hX; done)⟩
            refine wp_load_mid 41 _ rfl bb (off + L * 4) (by simp [go_sem, hd]) _ _ (HRL.out wx hR) Tryd.underlying41 rfl (by kernel_rfl) ?_
            exact next_same _ rfl HVL.out.symm hR
          · refine ⟨fun _ => ?_, fun hX => by first | (simp at hX; done) | (simp [hd] at hX; done)⟩
            (try simp [hd]); go_simp; exact next_same _ rfl rfl hR
          · refine ⟨fun _ => ?_, fun hX => by first | (simp at hX; done) | (simp [hd] at hX; done)⟩
            (try simp [hd]); go_simp; exact next_same _ rfl rfl hR
          · refine ⟨fun _ => ?_, fun hX => by first | (simp at hX; done) | (simp [hd] at hX; done)⟩
            refine wp_load_mid 41 _ rfl bb off (by simp [go_sem, hd]) _ _ (HRF.out wx hR) Tryd.underlying41 rfl (by kernel_rfl) ?_
            exact next_same _ rfl HVF.out.symm hR
          · refine ⟨fun _ => ?_, fun hX => by first | (simp at hX; done) | (simp [hd] at hX; done)⟩
            obtain ⟨hd0, hd1, -⟩ := hd
            exact wp_binop _ _ _ _ _ rfl hd0 hd1 (by rw [HVL.out, HVF.out]; first | kernel_rfl | rfl) (HNQ.out wx) (next_same _ rfl rfl hR)
          · refine ⟨fun _ => ?_, fun hX => by first | (simp at hX; done) | (simp [hd] at hX; done)⟩
            (try simp [hd]); go_simp; exact next_same _ rfl rfl hR
          · refine ⟨fun _ => ?_, fun hX => by first | (simp at hX; done) | (simp [hd] at hX; done)⟩
            (try simp [hd]); go_simp; exact next_same _ rfl rfl hR
          · refine ⟨fun _ => ?_, fun hX => by first | (simp at hX; done) | (simp [hd] at hX; done)⟩
            (try simp [hd]); go_simp; exact next_same _ rfl rfl hR
          · refine ⟨fun _ => ?_, fun hX => by first | (simp at hX; done) | (simp [hd] at hX; done)⟩
            (try simp [hd]); go_simp; exact next_same _ rfl rfl hR
          · refine ⟨fun _ => ?_, fun hX => by first | (simp at hX; done) | (simp [hd] at hX; done)⟩
            (try simp [hd]); go_simp; exact next_same _ rfl rfl hR
          · refine ⟨fun _ => ?_, fun hX => by first | (simp at hX; done) | (simp [hd] at hX; done)⟩
            (try simp [hd])
            go_simp
            go_at_call 43
            refine (CT.out wx hR).mono ?_
            rintro r wy ⟨rfl, hb⟩
            exact next_call _ rfl rfl hR hR.size hb
          · refine ⟨fun _ => ?_, fun hX => by first | (simp at hX; done) | (simp [hd] at hX; done)⟩
            (try simp [hd]); go_simp; exact next_same _ rfl rfl hR
        intro x w7 hR hx
        simp [AllWords] at hx
        have h23 : x 23 = .bool true := by simp [hx]
        rw [h23]
        clear hx h23
        have HB7 := Lib.hid hR
        clear hR
        go_wp2_with fail
        exact HFAIL.out (by rw [HFULL.out]; rfl) _ HB7.out
      | false =>
        refine wp_region_goesG data_follows (fun x => by simp [putsF, Act.put]; rfl) w.heap.size w
          [isV (.int .i64 (L : Nat)), isV (.bool false), isV (.bool false), isV (.string o), isV (.slice (some ⟨bb, off, none⟩) n c), isV (.bool true), isV (.bool false), isV (.bool false), isV (.bool false), isV (.slice (some ⟨bb, off, none⟩) n c), isV (.int .i64 (L : Nat)), isV (.pointer (some ⟨bb, off + L * 4, none⟩)), isV VL, isV (.slice (some ⟨bb, off, none⟩) n c), isV (.pointer (some ⟨bb, off, none⟩)), isV VF, isV (.bool false), isV (.bool false), isV (.bool false), isV (.slice (some ⟨bb, off, none⟩) n c), isV (.int .i64 (L : Nat)), isV (.slice (some ⟨bb, off + 4, none⟩) (L - 1) (c - 1)), isV (.bool false), isV (.bool false)]
          (by kernel_rfl) (by kernel_rfl) (by kernel_rfl) rfl ?_ (Below.refl _ _) ?_ ?_
        · repeat (first | exact trivial | refine ⟨isV_stays _, ?_⟩)
        · refine ⟨?_, ?_, ?_, ?_, ?_, ?_, ?_, ?_, ?_, ?_, ?_, ?_, ?_, ?_, ?_, ?_, ?_, ?_, ?_, ?_, ?_, ?_, ?_, ?_, trivial⟩
          all_goals
            intro x wx hR hd
            simp at hd
          · refine ⟨fun _ => ?_, fun hX => by first | (simp at hX; done) | (simp [hd] at hX; done)⟩
            (try simp [hd]); go_simp; exact next_same _ rfl rfl hR
          · refine ⟨fun _ => ?_, fun hX => by first | (simp at hX; done) | (simp [hd] at hX; done)⟩
            (try simp [hd]); go_simp; exact next_same _ rfl rfl hR
          · refine ⟨fun _ => ?_, fun hX => by first | (simp at hX; done) | (simp [hd] at hX; done)⟩
            (try simp [hd]); go_simp; exact next_same _ rfl rfl hR
          · refine ⟨fun _ => ?_, fun hX => by first | (simp at hX; done) | (simp [hd] at hX; done)⟩
            (try simp [hd]); go_simp; exact next_same _ rfl rfl hR
          · refine ⟨fun _ => ?_, fun hX => by first | (simp at hX; done) | (simp [hd] at hX; done)⟩
            (try simp [hd]); go_simp; exact next_same _ rfl rfl hR
          · refine ⟨fun _ => ?_, fun hX => by first | (simp at hX; done) | (simp [hd] at hX; done)⟩
            (try simp [hd])
            go_simp
            go_at_call 21
            refine (AD.out wx hR).mono ?_
            rintro r wy ⟨rfl, hb⟩
            exact next_call _ rfl rfl hR hR.size hb
          · refine ⟨fun _ => ?_, fun hX => by first | (simp at hX; done) | (simp [hd] at hX; done)⟩
            (try simp [hd]); go_simp; exact next_same _ rfl rfl hR
          · refine ⟨fun _ => ?_, fun hX => by first | (simp at hX; done) | (simp [hd] at hX; done)⟩
            (try simp [hd]); go_simp; exact next_same _ rfl rfl hR
          · refine ⟨fun _ => ?_, fun hX => by first | (simp at hX; done) | (simp [hd] at hX; done)⟩
            (try simp [hd]); go_simp; exact next_same _ rfl rfl hR
          · refine ⟨fun _ => ?_, fun hX => by first | (simp at hX; done) | (simp [hd] at hX; done)⟩
            (try simp [hd]); go_simp; exact next_same _ rfl rfl hR
          · refine ⟨fun _ => ?_, fun hX => by first | (simp at hX; done) | (simp [hd] at hX; done)⟩
            (try simp [hd]); go_simp; exact next_same _ rfl rfl hR
          · refine ⟨fun _ => ?_, fun hX => by first | (simp at hX; done) | (simp [hd] at hX; done)⟩
            (try simp [hd]); go_simp; exact next_same _ rfl rfl hR
          · refine ⟨fun _ => ?_, fun hX => by first | (simp at hX; done) | (simp [hd] at hX; done)⟩
            refine wp_load_mid 41 _ rfl bb (off + L * 4) (by simp [go_sem, hd]) _ _ (HRL.out wx hR) Tryd.underlying41 rfl (by kernel_rfl) ?_
            exact next_same _ rfl HVL.out.symm hR
          · refine ⟨fun _ => ?_, fun hX => by first | (simp at hX; done) | (simp [hd] at hX; done)⟩
            (try simp [hd]); go_simp; exact next_same _ rfl rfl hR
          · refine ⟨fun _ => ?_, fun hX => by first | (simp at hX; done) | (simp [hd] at hX; done)⟩
            (try simp [hd]); go_simp; exact next_same _ rfl rfl hR
          · refine ⟨fun _ => ?_, fun hX => by first | (simp at hX; done) | (simp [hd] at hX; done)⟩
            refine wp_load_mid 41 _ rfl bb off (by simp [go_sem, hd]) _ _ (HRF.out wx hR) Tryd.underlying41 rfl (by kernel_rfl) ?_
            exact next_same _ rfl HVF.out.symm hR
          · refine ⟨fun _ => ?_, fun hX => by first | (simp at hX; done) | (simp [hd] at hX; done)⟩
            obtain ⟨hd0, hd1, -⟩ := hd
            exact wp_binop _ _ _ _ _ rfl hd0 hd1 (by rw [HVL.out, HVF.out]; first | kernel_rfl | rfl) (HNQ.out wx) (next_same _ rfl rfl hR)
          · refine ⟨fun _ => ?_, fun hX => by first | (simp at hX; done) | (simp [hd] at hX; done)⟩
            (try simp [hd]); go_simp; exact next_same _ rfl rfl hR
          · refine ⟨fun _ => ?_, fun hX => by first | (simp at hX; done) | (simp [hd] at hX; done)⟩
            (try simp [hd]); go_simp; exact next_same _ rfl rfl hR
          · refine ⟨fun _ => ?_, fun hX => by first | (simp at hX; done) | (simp [hd] at hX; done)⟩
            (try simp [hd]); go_simp; exact next_same _ rfl rfl hR
          · refine ⟨fun _ => ?_, fun hX => by first | (simp at hX; done) | (simp [hd] at hX; done)⟩
            (try simp [hd]); go_simp; exact next_same _ rfl rfl hR
          · refine ⟨fun _ => ?_, fun hX => by first | (simp at hX; done) | (simp [hd] at hX; done)⟩
            (try simp [hd]); go_simp; exact next_same _ rfl rfl hR
          · refine ⟨fun _ => ?_, fun hX => by first | (simp at hX; done) | (simp [hd] at hX; done)⟩
            (try simp [hd])
            go_simp
            go_at_call 43
            refine (CT.out wx hR).mono ?_
            rintro r wy ⟨rfl, hb⟩
            exact next_call _ rfl rfl hR hR.size hb
          · refine ⟨fun _ => ?_, fun hX => by first | (simp at hX; done) | (simp [hd] at hX; done)⟩
            (try simp [hd]); go_simp; exact next_same _ rfl rfl hR
        intro x w7 hR hx
        simp [AllWords] at hx
        have h23 : x 23 = .bool false := by simp [hx]
        rw [h23]
        clear hx h23
        have HB7 := Lib.hid hR
        clear hR
        go_wp2_with fail
        refine (CL.out w7 HB7.out).mono ?_
        rintro e w8 ⟨v, rfl, ho⟩
        have HO := Lib.hid (ho.out HB7.out.size HB7.out)
        clear ho
        go_wp2_with fail
        exact HGOOD.out (by rw [HFULL.out]; rfl) _ _ HO.out
end Go.Proofs.YtpbbnpglcadimaaDoor
namespace Go.Proofs.YtpbbnpglcadimaaDoor
open Go.RowKit
set_option linter.unusedVariables false
set_option linter.unusedSimpArgs false
set_option maxRecDepth 20000
attribute [local simp] putsF isV wordOf Deps Region.binds Region.wanted Act.put wantedX isB
set_option maxHeartbeats 1600000 in
theorem full_few (m : RecT → Bool) (o : ByteArray) (A : Option Addr) (n c : Nat) (rs : List RecT) (w : World) (hl : rs.length = n) (h2 : n < 2) :
    Calls Tryd.prog 23 #[.string o, .slice A n c] w (FullA m o rs w) := by
  obtain ⟨AR, hAR⟩ : ∃ R, R = FullA m o rs w := ⟨_, rfl⟩
  rw [← hAR]
  have hfull : fullR m o rs = false := by
    match rs, hl with
    | [], _ => rfl
    | [_], _ => rfl
    | a :: b :: t, hl => simp at hl; omega
  have HFAIL : Hid (∀ w', Below w.heap.size w w' → AR (.returned (.tuple #[.slice none 0 0, .iface 36 (.int .i64 4)])) w') := Lib.hid (fun w' hb => by rw [hAR]; exact .inl ⟨hfull, rfl, hb⟩)
  clear hAR hfull hl
  rcases (by omega : n = 0 ∨ n = 1) with rfl | rfl
  · go_enter Tryd.func23, Tryd.ntmps23
    go_upto_region 2 with fail
    refine wp_region_goesG data_follows (fun x => by simp [putsF, Act.put]; rfl) w.heap.size w
      [isV (.int .i64 (-1)), isV (.bool true), isV (.bool true), isV undef, isV undef, isV undef, isV undef, isV (.bool true), isV (.bool true), isV undef, isV undef, isV undef, isV undef, isV undef, isV undef, isV undef, isV undef, isV (.bool true), isV (.bool true), isV undef, isV undef, isV undef, isV undef, isV (.bool true)]
      (by kernel_rfl) (by kernel_rfl) (by kernel_rfl) rfl ?_ (Below.refl _ _) ?_ ?_
    · repeat (first | exact trivial | refine ⟨isV_stays _, ?_⟩)
    · refine ⟨?_, ?_, ?_, ?_, ?_, ?_, ?_, ?_, ?_, ?_, ?_, ?_, ?_, ?_, ?_, ?_, ?_, ?_, ?_, ?_, ?_, ?_, ?_, ?_, trivial⟩
      all_goals
        intro x wx hR hd
        simp at hd
      · refine ⟨fun _ => ?_, fun hX => by first | (simp at hX; done) | (simp [hd] at hX; done)⟩
        (try simp [hd]); go_simp; exact next_same _ rfl rfl hR
      · refine ⟨fun _ => ?_, fun hX => by first | (simp at hX; done) | (simp [hd] at hX; done)⟩
        (try simp [hd]); go_simp; exact next_same _ rfl rfl hR
      · refine ⟨fun _ => ?_, fun hX => by first | (simp at hX; done) | (simp [hd] at hX; done)⟩
        (try simp [hd]); go_simp; exact next_same _ rfl rfl hR
      · refine ⟨fun hX => ?_, fun _ => rfl⟩
        exfalso; first | (simp [hd] at hX; done) | (simp [hd, undef] at hX; done)
      · refine ⟨fun hX => ?_, fun _ => rfl⟩
        exfalso; first | (simp [hd] at hX; done) | (simp [hd, undef] at hX; done)
      · refine ⟨fun hX => ?_, fun _ => rfl⟩
        exfalso; first | (simp [hd] at hX; done) | (simp [hd, undef] at hX; done)
      · refine ⟨fun hX => ?_, fun _ => rfl⟩
        exfalso; first | (simp [hd] at hX; done) | (simp [hd, undef] at hX; done)
      · refine ⟨fun _ => ?_, fun hX => by first | (simp at hX; done) | (simp [hd] at hX; done)⟩
        (try simp [hd]); go_simp; exact next_same _ rfl rfl hR
      · refine ⟨fun _ => ?_, fun hX => by first | (simp at hX; done) | (simp [hd] at hX; done)⟩
        (try simp [hd]); go_simp; exact next_same _ rfl rfl hR
      · refine ⟨fun hX => ?_, fun _ => rfl⟩
        exfalso; first | (simp [hd] at hX; done) | (simp [hd, undef] at hX; done)
      · refine ⟨fun hX => ?_, fun _ => rfl⟩
        exfalso; first | (simp [hd] at hX; done) | (simp [hd, undef] at hX; done)
      · refine ⟨fun hX => ?_, fun _ => rfl⟩
        exfalso; first | (simp [hd] at hX; done) | (simp [hd, undef] at hX; done)
      · refine ⟨fun hX => ?_, fun _ => rfl⟩
        exfalso; first | (simp [hd] at hX; done) | (simp [hd, undef] at hX; done)
      · refine ⟨fun hX => ?_, fun _ => rfl⟩
        exfalso; first | (simp [hd] at hX; done) | (simp [hd, undef] at hX; done)
      · refine ⟨fun hX => ?_, fun _ => rfl⟩
        exfalso; first | (simp [hd] at hX; done) | (simp [hd, undef] at hX; done)
      · refine ⟨fun hX => ?_, fun _ => rfl⟩
        exfalso; first | (simp [hd] at hX; done) | (simp [hd, undef] at hX; done)
      · refine ⟨fun hX => ?_, fun _ => rfl⟩
        exfalso; first | (simp [hd] at hX; done) | (simp [hd, undef] at hX; done)
      · refine ⟨fun _ => ?_, fun hX => by first | (simp at hX; done) | (simp [hd] at hX; done)⟩
        (try simp [hd]); go_simp; exact next_same _ rfl rfl hR
      · refine ⟨fun _ => ?_, fun hX => by first | (simp at hX; done) | (simp [hd] at hX; done)⟩
        (try simp [hd]); go_simp; exact next_same _ rfl rfl hR
      · refine ⟨fun hX => ?_, fun _ => rfl⟩
        exfalso; first | (simp [hd] at hX; done) | (simp [hd, undef] at hX; done)
      · refine ⟨fun hX => ?_, fun _ => rfl⟩
        exfalso; first | (simp [hd] at hX; done) | (simp [hd, undef] at hX; done)
      · refine ⟨fun hX => ?_, fun _ => rfl⟩
        exfalso; first | (simp [hd] at hX; done) | (simp [hd, undef] at hX; done)
      · refine ⟨fun hX => ?_, fun _ => rfl⟩
        exfalso; first | (simp [hd] at hX; done) | (simp [hd, undef] at hX; done)
      · refine ⟨fun _ => ?_, fun hX => by first | (simp at hX; done) | (simp [hd] at hX; done)⟩
        (try simp [hd]); go_simp; exact next_same _ rfl rfl hR
    intro x w7 hR hx
    simp [AllWords] at hx
    have h23 : x 23 = .bool true := by simp [hx]
    rw [h23]
    clear hx h23
    have HB7 := Lib.hid hR
    clear hR
    go_wp2_with fail
    exact HFAIL.out _ HB7.out
  · go_enter Tryd.func23, Tryd.ntmps23
    go_upto_region 2 with fail
    refine wp_region_goesG data_follows (fun x => by simp [putsF, Act.put]; rfl) w.heap.size w
      [isV (.int .i64 (0)), isV (.bool true), isV (.bool true), isV undef, isV undef, isV undef, isV undef, isV (.bool true), isV (.bool true), isV undef, isV undef, isV undef, isV undef, isV undef, isV undef, isV undef, isV undef, isV (.bool true), isV (.bool true), isV undef, isV undef, isV undef, isV undef, isV (.bool true)]
      (by kernel_rfl) (by kernel_rfl) (by kernel_rfl) rfl ?_ (Below.refl _ _) ?_ ?_
    · repeat (first | exact trivial | refine ⟨isV_stays _, ?_⟩)
    · refine ⟨?_, ?_, ?_, ?_, ?_, ?_, ?_, ?_, ?_, ?_, ?_, ?_, ?_, ?_, ?_, ?_, ?_, ?_, ?_, ?_, ?_, ?_, ?_, ?_, trivial⟩
      all_goals
        intro x wx hR hd
        simp at hd
      · refine ⟨fun _ => ?_, fun hX => by first | (simp at hX; done) | (simp [hd] at hX; done)⟩
        (try simp [hd]); go_simp; exact next_same _ rfl rfl hR
      · refine ⟨fun _ => ?_, fun hX => by first | (simp at hX; done) | (simp [hd] at hX; done)⟩
        (try simp [hd]); go_simp; exact next_same _ rfl rfl hR
      · refine ⟨fun _ => ?_, fun hX => by first | (simp at hX; done) | (simp [hd] at hX; done)⟩
        (try simp [hd]); go_simp; exact next_same _ rfl rfl hR
      · refine ⟨fun hX => ?_, fun _ => rfl⟩
        exfalso; first | (simp [hd] at hX; done) | (simp [hd, undef] at hX; done)
      · refine ⟨fun hX => ?_, fun _ => rfl⟩
        exfalso; first | (simp [hd] at hX; done) | (simp [hd, undef] at hX; done)
      · refine ⟨fun hX => ?_, fun _ => rfl⟩
        exfalso; first | (simp [hd] at hX; done) | (simp [hd, undef] at hX; done)
      · refine ⟨fun hX => ?_, fun _ => rfl⟩
        exfalso; first | (simp [hd] at hX; done) | (simp [hd, undef] at hX; done)
      · refine ⟨fun _ => ?_, fun hX => by first | (simp at hX; done) | (simp [hd] at hX; done)⟩
        (try simp [hd]); go_simp; exact next_same _ rfl rfl hR
      · refine ⟨fun _ => ?_, fun hX => by first | (simp at hX; done) | (simp [hd] at hX; done)⟩
        (try simp [hd]); go_simp; exact next_same _ rfl rfl hR
      · refine ⟨fun hX => ?_, fun _ => rfl⟩
        exfalso; first | (simp [hd] at hX; done) | (simp [hd, undef] at hX; done)
      · refine ⟨fun hX => ?_, fun _ => rfl⟩
        exfalso; first | (simp [hd] at hX; done) | (simp [hd, undef] at hX; done)
      · refine ⟨fun hX => ?_, fun _ => rfl⟩
        exfalso; first | (simp [hd] at hX; done) | (simp [hd, undef] at hX; done)
      · refine ⟨fun hX => ?_, fun _ => rfl⟩
        exfalso; first | (simp [hd] at hX; done) | (simp [hd, undef] at hX; done)
      · refine ⟨fun hX => ?_, fun _ => rfl⟩
        exfalso; first | (simp [hd] at hX; done) | (simp [hd, undef] at hX; done)
      · refine ⟨fun hX => ?_, fun _ => rfl⟩
        exfalso; first | (simp [hd] at hX; done) | (simp [hd, undef] at hX; done)
      · refine ⟨fun hX => ?_, fun _ => rfl⟩
        exfalso; first | (simp [hd] at hX; done) | (simp [hd, undef] at hX; done)
      · refine ⟨fun hX => ?_, fun _ => rfl⟩
        exfalso; first | (simp [hd] at hX; done) | (simp [hd, undef] at hX; done)
      · refine ⟨fun _ => ?_, fun hX => by first | (simp at hX; done) | (simp [hd] at hX; done)⟩
        (try simp [hd]); go_simp; exact next_same _ rfl rfl hR
      · refine ⟨fun _ => ?_, fun hX => by first | (simp at hX; done) | (simp [hd] at hX; done)⟩
        (try simp [hd]); go_simp; exact next_same _ rfl rfl hR
      · refine ⟨fun hX => ?_, fun _ => rfl⟩
        exfalso; first | (simp [hd] at hX; done) | (simp [hd, undef] at hX; done)
      · refine ⟨fun hX => ?_, fun _ => rfl⟩
        exfalso; first | (simp [hd] at hX; done) | (simp [hd, undef] at hX; done)
      · refine ⟨fun hX => ?_, fun _ => rfl⟩
        exfalso; first | (simp [hd] at hX; done) | (simp [hd, undef] at hX; done)
      · refine ⟨fun hX => ?_, fun _ => rfl⟩
        exfalso; first | (simp [hd] at hX; done) | (simp [hd, undef] at hX; done)
      · refine ⟨fun _ => ?_, fun hX => by first | (simp at hX; done) | (simp [hd] at hX; done)⟩
        (try simp [hd]); go_simp; exact next_same _ rfl rfl hR
    intro x w7 hR hx
    simp [AllWords] at hx
    have h23 : x 23 = .bool true := by simp [hx]
    rw [h23]
    clear hx h23
    have HB7 := Lib.hid hR
    clear hR
    go_wp2_with fail
    exact HFAIL.out _ HB7.out
end Go.Proofs.YtpbbnpglcadimaaDoor
namespace Go.Proofs.YtpbbnpglcadimaaDoor
open Go.ChangeShapes Go.WideShapes Go.ChangeAt Go.RowKit Go.Deep
set_option linter.unusedVariables false
set_option linter.unusedSimpArgs false
theorem flatR_at : ∀ (rs : List RecT) (j : Nat) (u : Value), (flatR rs)[j]? = some u → ∃ r, rs[j / 4]? = some r ∧ (recCells r)[j % 4]? = some u
  | [], j, u, h => by simp [flatR] at h
  | q :: rs, j, u, h => by
    have e : flatR (q :: rs) = recCells q ++ flatR rs := rfl
    have l : (recCells q).length = 4 := rfl
    rw [e] at h
    by_cases hj : j < 4
    · rw [List.getElem?_append_left (by omega)] at h
      exact ⟨q, by rw [Nat.div_eq_of_lt hj]; rfl, by rw [Nat.mod_eq_of_lt hj]; exact h⟩
    · rw [List.getElem?_append_right (by omega), l] at h
      obtain ⟨r, h1, h2⟩ := flatR_at rs (j - 4) u h
      have e1 : j / 4 = (j - 4) / 4 + 1 := by omega
      have e2 : j % 4 = (j - 4) % 4 := by omega
      exact ⟨r, by rw [e1]; simpa using h1, by rw [e2]; exact h2⟩
/-- Records lie as cells. -/
theorem Recs.sl {w : World} {A : Option Addr} {rs : List RecT} (h : Recs w A rs) : Sl w w.heap.size 4 A rs.length (flatR rs) := by
  refine ⟨flatR_len rs, fun hn => ?_⟩
  obtain ⟨b, off, rfl, hb, -⟩ := h 0 (rs[0]'hn) (List.getElem?_eq_getElem hn)
  refine ⟨b, off, rfl, hb, fun j u hu => ?_⟩
  obtain ⟨r, h1, h2⟩ := flatR_at rs j u hu
  obtain ⟨b', off', e, -, g0, g1, g2, g3⟩ := h _ r h1
  injection e with e; injection e with e1 e2 e3; subst e1 e2
  have hm := Nat.mod_lt j (show 0 < 4 by omega)
  have hj : j = j / 4 * 4 + j % 4 := by omega
  generalize j % 4 = m at *
  generalize j / 4 = d at *
  subst hj
  rcases (by omega : m = 0 ∨ m = 1 ∨ m = 2 ∨ m = 3) with rfl | rfl | rfl | rfl <;> (unfold recCells at h2; simp at h2; subst h2)
  · exact g0
  · exact g1
  · exact g2
  · exact g3
/-- An argument of records. -/
structure RecsV (w : World) (A : Option Addr) (n c : Nat) (rs : List RecT) : Prop where
  len : rs.length = n
  none_ : A = none → n = 0 ∧ c = 0
  le : n ≤ c
  max : c ≤ maxLen
  recs : Recs w A rs
  ok : ∀ r ∈ rs, r.1.size ≤ maxLen ∧ (Lit.int .u16 r.2.1).wf = true ∧ (Lit.int .u32 r.2.2.1).wf = true ∧ r.2.2.2.size ≤ maxLen
/-- A message: number, flags, code; the name and the type that are asked for; three rows of records; the size. -/
structure MsgT where
  id : Int
  reply : Bool
  op : Int
  auth : Bool
  trunc : Bool
  want : Bool
  avail : Bool
  code : Int
  qn : ByteArray
  qt : Int
  A1 : Option Addr
  n1 : Nat
  c1 : Nat
  r1 : List RecT
  A2 : Option Addr
  n2 : Nat
  c2 : Nat
  r2 : List RecT
  A3 : Option Addr
  n3 : Nat
  c3 : Nat
  r3 : List RecT
  sz : Int
def MsgT.cells (m : MsgT) : List Value := [.int .u16 m.id, .bool m.reply, .int .i64 m.op, .bool m.auth, .bool m.trunc, .bool m.want, .bool m.avail, .int .i64 m.code, .string m.qn, .int .u16 m.qt, .slice m.A1 m.n1 m.c1, .slice m.A2 m.n2 m.c2, .slice m.A3 m.n3 m.c3, .int .i64 m.sz]
def MsgT.v (m : MsgT) : Value := .agg #[.int .u16 m.id, .bool m.reply, .int .i64 m.op, .bool m.auth, .bool m.trunc, .bool m.want, .bool m.avail, .int .i64 m.code, .string m.qn, .int .u16 m.qt, .slice m.A1 m.n1 m.c1, .slice m.A2 m.n2 m.c2, .slice m.A3 m.n3 m.c3, .int .i64 m.sz]
structure MsgOk (w : World) (m : MsgT) : Prop where
  op : (Lit.int .i64 m.op).wf = true
  code : (Lit.int .i64 m.code).wf = true
  id : (Lit.int .u16 m.id).wf = true
  qt : (Lit.int .u16 m.qt).wf = true
  qn : m.qn.size ≤ maxLen
  sz : (Lit.int .i64 m.sz).wf = true
  r1 : RecsV w m.A1 m.n1 m.c1 m.r1
  r2 : RecsV w m.A2 m.n2 m.c2 m.r2
  r3 : RecsV w m.A3 m.n3 m.c3 m.r3
/-- Where the fields of a struct stand, and how many cells they have. -/
def spotFields (P : Program) (fs : Array Field) : List (Nat × Nat) := fs.toList.map fun f => (f.offset, P.cellsOf f.type)
section
variable {H : Type} {enc : TypeId × Value → H} {P : Program} {w : World} {d : DataW H} {p : List MemPlace}
theorem view_recs4 {t e : TypeId} {f0 f1 f2 f3 : Field} (ht : P.underlying t = some (.slice e)) (hs : P.underlying e = some (.struct #[f0, f1, f2, f3])) (hone : oneCellFields P #[f0, f1, f2, f3] = true) (hC : P.cellsOf e = 4)
    (h0 : P.underlying f0.type = some .string) (h1 : P.underlying f1.type = some (.int .u16)) (h2 : P.underlying f2.type = some (.int .u32)) (h3 : P.underlying f3.type = some .string) {m : Nat} {cs : List Value}
    (h : DataW.trod enc P w 0 (fun _ => true) true m t cs = some (d, p)) :
    ∃ A n c, ∃ rs : List RecT, ∃ el : List (DataW H), cs = [.slice A n c] ∧ RecsV w A n c rs ∧ el.length = n ∧ ((d = .nil ∧ n = 0 ∧ c = 0) ∨ ∃ sp, d = .slice el sp ∧ sp.length = c - n) := by
  rcases open_slice ht h with ⟨rfl, hx⟩ | ⟨a, len, cap, m', n', D, Pl, rfl, hbase, hl, hm, hmm, hx, hi⟩
  · simp only [Prod.mk.injEq] at hx
    exact ⟨none, 0, 0, [], [], rfl, ⟨rfl, fun _ => ⟨rfl, rfl⟩, Nat.le_refl _, Nat.zero_le _, fun i r h => by simp at h, by simp⟩, rfl, .inl ⟨hx.1, rfl, rfl⟩⟩
  · simp only [if_true] at hmm
    simp only [Prod.mk.injEq] at hx
    have key : ∀ j, j < len → ∃ x : RecT, (w.cell? (a.add (j * 4)) = some (.string x.1) ∧ w.cell? (a.add (j * 4 + 1)) = some (.int .u16 x.2.1) ∧ w.cell? (a.add (j * 4 + 2)) = some (.int .u32 x.2.2.1) ∧ w.cell? (a.add (j * 4 + 3)) = some (.string x.2.2.2)) ∧
        (x.1.size ≤ maxLen ∧ (Lit.int .u16 x.2.1).wf = true ∧ (Lit.int .u32 x.2.2.1).wf = true ∧ x.2.2.2.size ≤ maxLen) := by
      intro j hj
      obtain ⟨cs', g1, g2⟩ := hi j (by omega)
      rw [hC] at g1
      obtain ⟨_, hlen, hcell⟩ := World.cells?_some g1
      match cs', hlen with
      | [v0, v1, v2, v3], _ =>
        obtain ⟨y0, y1, y2, y3, k, hy, _, t0, t1, t2, t3⟩ := Joins.trod_struct4 hs g2
        obtain ⟨o0, k0⟩ := hone_of hone 0 f0 rfl
        obtain ⟨o1, k1⟩ := hone_of hone 1 f1 rfl
        obtain ⟨o2, k2⟩ := hone_of hone 2 f2 rfl
        obtain ⟨o3, k3⟩ := hone_of hone 3 f3 rfl
        rw [o0, k0] at t0
        rw [o1, k1] at t1
        rw [o2, k2] at t2
        rw [o3, k3] at t3
        simp only [List.drop_zero, List.take_succ_cons, List.take_zero, List.drop_succ_cons] at t0 t1 t2 t3
        obtain ⟨z0, e0, -, w0⟩ := DataW.trod_string h0 t0
        obtain ⟨z1, e1, -, w1⟩ := DataW.trod_int h1 t1
        obtain ⟨z2, e2, -, w2⟩ := DataW.trod_int h2 t2
        obtain ⟨z3, e3, -, w3⟩ := DataW.trod_string h3 t3
        simp only [List.cons.injEq, and_true] at e0 e1 e2 e3
        subst e0 e1 e2 e3
        refine ⟨(z0, z1, z2, z3), ⟨?_, ?_, ?_, ?_⟩, w0, w1, w2, w3⟩
        · have q := hcell 0 (by omega); rw [Addr.add_add] at q; exact q
        · have q := hcell 1 (by omega); rw [Addr.add_add] at q; exact q
        · have q := hcell 2 (by omega); rw [Addr.add_add] at q; exact q
        · have q := hcell 3 (by omega); rw [Addr.add_add] at q; exact q
    obtain ⟨ds, hal, has⟩ := choose_idx len key
    refine ⟨some a, len, cap, ds, (List.range len).map D, rfl, ⟨hal, (fun h => by cases h), hl, hm, fun i r hr => ?_, ?_⟩, by simp, .inr ⟨_, hx.1, by simp; omega⟩⟩
    · obtain ⟨b', off, spot⟩ := a
      obtain ⟨q0, q1, q2, q3⟩ := (has i r hr).1
      obtain ⟨x0, hx0⟩ : ∃ x, ds[0]? = some x := ⟨_, List.getElem?_eq_getElem (by have := (List.getElem?_eq_some_iff.1 hr).1; omega)⟩
      have g0 := (has 0 x0 hx0).1.1
      have hspot : spot = none := by simpa [Addr.add] using World.cell?_spot g0
      subst hspot
      refine ⟨b', off, rfl, ?_, ?_⟩
      · have := World.block_lt_of_cell? w _ q0
        rwa [Addr.add_lit] at this
      · rw [Addr.add_lit] at q0 q1 q2 q3
        exact ⟨q0, by rw [Nat.add_assoc]; exact q1, by rw [Nat.add_assoc]; exact q2, by rw [Nat.add_assoc]; exact q3⟩
    · intro x hx'
      obtain ⟨i, hi', rfl⟩ := List.getElem_of_mem hx'
      exact (has i _ (List.getElem?_eq_getElem hi')).2
theorem weight_slice {t e : TypeId} (ht : P.underlying t = some (.slice e)) {n c : Nat} (hle : n ≤ c) {el : List (DataW H)} (hl : el.length = n) (h : (d = .nil ∧ n = 0 ∧ c = 0) ∨ ∃ sp, d = .slice el sp ∧ sp.length = c - n) : c = 0 ∨ c * P.bytesOf e ∈ d.weights P t := by
  rcases h with ⟨_, _, h0⟩ | ⟨sp, rfl, hsp⟩
  · exact .inl h0
  · right
    simp [DataW.weights, ht, hl, hsp]
    left
    rw [show n + (c - n) = c by omega]
theorem open_msg {r : Reach} {b0 : Nat} {t te e : TypeId} {f0 f1 f2 f3 f4 f5 g0 g1 g2 g3 g4 g5 g6 g7 q0 q1 k0 k1 k2 k3 : Field} {v : Value}
    (hs : P.underlying t = some (.struct #[f0, f1, f2, f3, f4, f5])) (hsp : spotFields P #[f0, f1, f2, f3, f4, f5] = [(0, 8), (8, 2), (10, 1), (11, 1), (12, 1), (13, 1)]) (hC : P.cellsOf t = 14)
    (hs0 : P.underlying f0.type = some (.struct #[g0, g1, g2, g3, g4, g5, g6, g7])) (hone0 : oneCellFields P #[g0, g1, g2, g3, g4, g5, g6, g7] = true)
    (u0 : P.underlying g0.type = some (.int .u16)) (u1 : P.underlying g1.type = some .bool) (u2 : P.underlying g2.type = some (.int .i64)) (u3 : P.underlying g3.type = some .bool) (u4 : P.underlying g4.type = some .bool) (u5 : P.underlying g5.type = some .bool) (u6 : P.underlying g6.type = some .bool) (u7 : P.underlying g7.type = some (.int .i64))
    (hs1 : P.underlying f1.type = some (.struct #[q0, q1])) (hone1 : oneCellFields P #[q0, q1] = true) (uq0 : P.underlying q0.type = some .string) (uq1 : P.underlying q1.type = some (.int .u16))
    (h2 : f2.type = te) (h3 : f3.type = te) (h4 : f4.type = te) (u5' : P.underlying f5.type = some (.int .i64))
    (ht : P.underlying te = some (.slice e)) (hse : P.underlying e = some (.struct #[k0, k1, k2, k3])) (honee : oneCellFields P #[k0, k1, k2, k3] = true) (hCe : P.cellsOf e = 4)
    (uk0 : P.underlying k0.type = some .string) (uk1 : P.underlying k1.type = some (.int .u16)) (uk2 : P.underlying k2.type = some (.int .u32)) (uk3 : P.underlying k3.type = some .string)
    (hv : Value.okWide P w r b0 t v) (h : DataW.Trod enc P w 0 (fun _ => true) true t v d p) :
    ∃ m : MsgT, v = m.v ∧ MsgOk w m ∧ (m.c1 = 0 ∨ m.c1 * P.bytesOf e ∈ d.weights P t) ∧ (m.c2 = 0 ∨ m.c2 * P.bytesOf e ∈ d.weights P t) ∧ (m.c3 = 0 ∨ m.c3 * P.bytesOf e ∈ d.weights P t) := by
  obtain ⟨cs, rfl, hsz⟩ := okWide_struct hs hv
  rw [hC] at hsz
  obtain ⟨l⟩ := cs
  have hl : l.length = 14 := hsz
  rcases l with _ | ⟨x0, _ | ⟨x1, _ | ⟨x2, _ | ⟨x3, _ | ⟨x4, _ | ⟨x5, _ | ⟨x6, _ | ⟨x7, _ | ⟨x8, _ | ⟨x9, _ | ⟨x10, _ | ⟨x11, _ | ⟨x12, _ | ⟨x13, l⟩⟩⟩⟩⟩⟩⟩⟩⟩⟩⟩⟩⟩⟩ <;> simp at hl
  subst hl
  obtain ⟨fuel, hf⟩ := h
  obtain ⟨xs, n, _, hx, _, hlen, hff⟩ := DataW.trod_struct hs hf
  unfold spotFields at hsp
  simp only [List.map_cons, List.map_nil, List.cons.injEq, Prod.mk.injEq, and_true] at hsp
  obtain ⟨⟨o0, c0⟩, ⟨o1, c1⟩, ⟨o2, c2⟩, ⟨o3, c3⟩, ⟨o4, c4⟩, ⟨o5, c5⟩⟩ := hsp
  match xs, hlen with
  | [y0, y1, y2, y3, y4, y5], _ =>
    have a0 := hff 0 f0 rfl
    have a1 := hff 1 f1 rfl
    have a2 := hff 2 f2 rfl
    have a3 := hff 3 f3 rfl
    have a4 := hff 4 f4 rfl
    have a5 := hff 5 f5 rfl
    rw [o0, c0] at a0
    rw [o1, c1] at a1
    rw [o2, c2, h2] at a2
    rw [o3, c3, h3] at a3
    rw [o4, c4, h4] at a4
    rw [o5, c5] at a5
    simp only [Value.cells, List.drop_zero, List.take_succ_cons, List.take_zero, List.drop_succ_cons, List.getElem?_cons_zero, List.getElem?_cons_succ] at a0 a1 a2 a3 a4 a5
    obtain ⟨zs, n0, _, hz, _, hzl, hzf⟩ := DataW.trod_struct hs0 a0
    match zs, hzl with
    | [z0, z1, z2, z3, z4, z5, z6, z7], _ =>
      have b0 := hzf 0 g0 rfl
      have b1 := hzf 1 g1 rfl
      have b2 := hzf 2 g2 rfl
      have b3 := hzf 3 g3 rfl
      have b4 := hzf 4 g4 rfl
      have b5 := hzf 5 g5 rfl
      have b6 := hzf 6 g6 rfl
      have b7 := hzf 7 g7 rfl
      rw [(hone_of hone0 0 g0 rfl).1, (hone_of hone0 0 g0 rfl).2] at b0
      rw [(hone_of hone0 1 g1 rfl).1, (hone_of hone0 1 g1 rfl).2] at b1
      rw [(hone_of hone0 2 g2 rfl).1, (hone_of hone0 2 g2 rfl).2] at b2
      rw [(hone_of hone0 3 g3 rfl).1, (hone_of hone0 3 g3 rfl).2] at b3
      rw [(hone_of hone0 4 g4 rfl).1, (hone_of hone0 4 g4 rfl).2] at b4
      rw [(hone_of hone0 5 g5 rfl).1, (hone_of hone0 5 g5 rfl).2] at b5
      rw [(hone_of hone0 6 g6 rfl).1, (hone_of hone0 6 g6 rfl).2] at b6
      rw [(hone_of hone0 7 g7 rfl).1, (hone_of hone0 7 g7 rfl).2] at b7
      simp only [List.drop_zero, List.take_succ_cons, List.take_zero, List.drop_succ_cons, List.getElem?_cons_zero, List.getElem?_cons_succ] at b0 b1 b2 b3 b4 b5 b6 b7
      obtain ⟨qs, n1, _, hq, _, hql, hqf⟩ := DataW.trod_struct hs1 a1
      match qs, hql with
      | [p0, p1], _ =>
        have d0 := hqf 0 q0 rfl
        have d1 := hqf 1 q1 rfl
        rw [(hone_of hone1 0 q0 rfl).1, (hone_of hone1 0 q0 rfl).2] at d0
        rw [(hone_of hone1 1 q1 rfl).1, (hone_of hone1 1 q1 rfl).2] at d1
        simp only [List.drop_zero, List.take_succ_cons, List.take_zero, List.drop_succ_cons, List.getElem?_cons_zero, List.getElem?_cons_succ] at d0 d1
        obtain ⟨v0, e0, -, w0⟩ := DataW.trod_int u0 b0
        obtain ⟨v1, e1, -⟩ := DataW.trod_bool u1 b1
        obtain ⟨v2, e2, -, w2⟩ := DataW.trod_int u2 b2
        obtain ⟨v3, e3, -⟩ := DataW.trod_bool u3 b3
        obtain ⟨v4, e4, -⟩ := DataW.trod_bool u4 b4
        obtain ⟨v5, e5, -⟩ := DataW.trod_bool u5 b5
        obtain ⟨v6, e6, -⟩ := DataW.trod_bool u6 b6
        obtain ⟨v7, e7, -, w7⟩ := DataW.trod_int u7 b7
        obtain ⟨v8, e8, -, w8⟩ := DataW.trod_string uq0 d0
        obtain ⟨v9, e9, -, w9⟩ := DataW.trod_int uq1 d1
        obtain ⟨v13, e13, -, w13⟩ := DataW.trod_int u5' a5
        obtain ⟨y2a, y2b⟩ := y2
        obtain ⟨y3a, y3b⟩ := y3
        obtain ⟨y4a, y4b⟩ := y4
        obtain ⟨A1, n1, c1, r1, el1, e10, V1, L1, D1⟩ := view_recs4 ht hse honee hCe uk0 uk1 uk2 uk3 a2
        obtain ⟨A2, n2, c2, r2, el2, e11, V2, L2, D2⟩ := view_recs4 ht hse honee hCe uk0 uk1 uk2 uk3 a3
        obtain ⟨A3, n3, c3, r3, el3, e12, V3, L3, D3⟩ := view_recs4 ht hse honee hCe uk0 uk1 uk2 uk3 a4
        simp only [List.cons.injEq, and_true] at e0 e1 e2 e3 e4 e5 e6 e7 e8 e9 e10 e11 e12 e13
        subst e0 e1 e2 e3 e4 e5 e6 e7 e8 e9 e10 e11 e12 e13
        have g1 := weight_slice ht V1.le L1 D1
        have g2 := weight_slice ht V2.le L2 D2
        have g3 := weight_slice ht V3.le L3 D3
        obtain rfl : d = .agg [y0.1, y1.1, y2a, y3a, y4a, y5.1] := by have := congrArg Prod.fst hx; simpa using this
        refine ⟨⟨v0, v1, v2, v3, v4, v5, v6, v7, v8, v9, A1, n1, c1, r1, A2, n2, c2, r2, A3, n3, c3, r3, v13⟩, rfl, ⟨w2, w7, w0, w9, w8, w13, V1, V2, V3⟩, g1.imp id fun q => ?_, g2.imp id fun q => ?_, g3.imp id fun q => ?_⟩ <;>
          (simp only [DataW.weights, hs, DataW.weightsEach, List.map_cons, List.map_nil, h2, h3, h4, List.mem_append, Array.toList, List.toArray]; simp [q])
end
end Go.Proofs.YtpbbnpglcadimaaDoor
namespace Go.Proofs.YtpbbnpglcadimaaDoor
open Go.RowKit
set_option linter.unusedVariables false
section
variable {P : Program} {ops : Array Oper} {Q : Exit → Act → World → Prop}
/-- The block of a slice or of a pointer. -/
def blkV : Value → Option Nat
  | .slice (some a) _ _ => some a.block
  | .pointer (some a) => some a.block
  | _ => none
/-- As Next; an operation that is named fresh gives a block that is new, or none. -/
def NextM (A : Act) (d : Option Tmp) (p : Value → World → Prop) (R : World → Prop) (L : List Nat) (i : Nat) (w : World) (a' : Act) (w' : World) : Prop :=
  ∃ v, a' = A.put d v ∧ p v w' ∧ R w' ∧ Goes w w' ∧ (L.contains i = true → ∀ k, blkV v = some k → w.heap.size ≤ k ∧ k < w'.heap.size)
theorem nextM {A a' : Act} {d : Option Tmp} {p : Value → World → Prop} {R : World → Prop} {L : List Nat} {i : Nat} {w w' : World} (v : Value) (ha : a' = A.put d v) (hp : p v w') (hR : R w') (he : Goes w w') (hL : L.contains i = false := by rfl) : NextM A d p R L i w a' w' :=
  ⟨v, ha, hp, hR, he, fun h => by rw [hL] at h; cases h⟩
theorem nextM_own {A a' : Act} {d : Option Tmp} {p : Value → World → Prop} {R : World → Prop} {L : List Nat} {i : Nat} {w w' : World} (v : Value) (ha : a' = A.put d v) (hp : p v w') (hR : R w') (he : Goes w w') (hk : ∀ k, blkV v = some k → w.heap.size ≤ k ∧ k < w'.heap.size) : NextM A d p R L i w a' w' :=
  ⟨v, ha, hp, hR, he, fun _ => hk⟩
theorem nextM_new {A a' : Act} {d : Option Tmp} {p : Value → World → Prop} {R : World → Prop} {L : List Nat} {i : Nat} {w : World} (o : Obj) (ha : a' = A.put d (.pointer (some ⟨w.heap.size, 0, none⟩))) (hp : p (.pointer (some ⟨w.heap.size, 0, none⟩)) (w.alloc o)) (hR : R (w.alloc o)) : NextM A d p R L i w a' (w.alloc o) :=
  ⟨_, ha, hp, hR, (Below.refl _ _).alloc (Nat.le_refl _) _, fun _ k hk => by injection hk with hk; subst hk; simp⟩
def OpStepM (P : Program) (ops : Array Oper) (Q : Exit → Act → World → Prop) (Ws : List (Value → World → Prop)) (R : World → Prop) (L : List Nat) (FF : (Nat → Value) → Act) (i : Nat) (o : Oper) : Prop :=
  ∀ (x : Nat → Value) (w : World), R w → Deps (wordOf Ws) x w o.after.toList → (wantedX o x = true → Oper.wp P o (FF x) w (NextM (FF x) o.dst (wordOf Ws i) R L i w) Q) ∧ (wantedX o x = false → wordOf Ws i undef w ∧ L.contains i = false)
def OpStepsM (P : Program) (ops : Array Oper) (Q : Exit → Act → World → Prop) (Ws : List (Value → World → Prop)) (R : World → Prop) (L : List Nat) (FF : (Nat → Value) → Act) (skip : Nat → Bool) : Nat → List Oper → Prop
  | _, [] => True
  | i, o :: os => (skip i = false → OpStepM P ops Q Ws R L FF i o) ∧ OpStepsM P ops Q Ws R L FF skip (i + 1) os
theorem OpStepsM.get {Ws : List (Value → World → Prop)} {R : World → Prop} {L : List Nat} {FF : (Nat → Value) → Act} {skip : Nat → Bool} : ∀ {l : List Oper} {k : Nat}, OpStepsM P ops Q Ws R L FF skip k l → ∀ i o, l[i]? = some o → skip (k + i) = false → OpStepM P ops Q Ws R L FF (k + i) o
  | [], _, _, i, o, h, _ => by simp at h
  | p :: l, k, hs, 0, o, h, hk => by simp at h; subst h; exact hs.1 hk
  | p :: l, k, hs, i + 1, o, h, hk => by
    have := OpStepsM.get hs.2 i o (by simpa using h) (by rwa [show k + 1 + i = k + (i + 1) by omega])
    rwa [show k + 1 + i = k + (i + 1) by omega] at this
/-- The blocks that are named fresh are there, and no two of them the same. -/
def ApartM (L : List Nat) (d : Nat → Bool) (x : Nat → Value) (w : World) : Prop :=
  (∀ i ∈ L, d i = true → ∀ k, blkV (x i) = some k → k < w.heap.size) ∧ ∀ i ∈ L, ∀ j ∈ L, i ≠ j → d i = true → d j = true → ∀ k, blkV (x i) = some k → blkV (x j) ≠ some k
theorem ApartM.next {L : List Nat} {d : Nat → Bool} {x : Nat → Value} {w w' : World} {i : Nat} {v : Value} (h : ApartM L d x w) (hd : d i = false) (hs : w.heap.size ≤ w'.heap.size) (hv : L.contains i = true → ∀ k, blkV v = some k → w.heap.size ≤ k ∧ k < w'.heap.size) :
    ApartM L (setD d i) (fun j => if j = i then v else x j) w' := by
  refine ⟨fun j hj hdj k hk => ?_, fun j hj k hk hjk hdj hdk b hb => ?_⟩
  · by_cases hji : j = i
    · subst hji
      simp only [if_true] at hk
      exact (hv (by simpa using hj) k hk).2
    · rw [setD_ne d hji] at hdj
      simp only [hji, if_false] at hk
      have := h.1 j hj hdj k hk
      omega
  · by_cases hji : j = i
    · subst hji
      have hkj : k ≠ j := fun e => hjk e.symm
      rw [setD_ne d hkj] at hdk
      simp only [if_true] at hb
      simp only [hkj, if_false]
      have h1 := (hv (by simpa using hj) b hb).1
      intro e
      have := h.1 k hk hdk b e
      omega
    · rw [setD_ne d hji] at hdj
      simp only [hji, if_false] at hb
      by_cases hki : k = i
      · subst hki
        simp only [if_true]
        intro e
        have h1 := (hv (by simpa using hk) b e).1
        have := h.1 j hj hdj b hb
        omega
      · rw [setD_ne d hki] at hdk
        simp only [hki, if_false]
        exact h.2 j hj k hk hjk hdj hdk b hb
theorem wp_region_tailM {id : Nat} {base : Act} {w0 : World} (hm : P.follows .mixedOrders = true) {FF : (Nat → Value) → Act} (hFF : ∀ x, putsF x 0 (ops.toList.map (·.dst)) base = FF x) (R : World → Prop) (Ws : List (Value → World → Prop)) (N : Nat) (L : List Nat)
    (hn : noTwice (ops.toList.map (·.dst)) = true) (hg : guardsIn ops base.tmps.size = true) (hwf : wellFormed ops = true) (hlen : Ws.length = N) (htl : tailOk ops N = true) (hLN : (L.all fun i => decide (i < N)) = true)
    (stays : AllStay Ws) (start : R w0.drew)
    (steps : OpStepsM P ops Q Ws R L FF (fun i => decide (N ≤ i)) 0 ops.toList)
    (fin : ∀ (x : Nat → Value) (w : World), R w → AllWords Ws x w 0 Ws → (∀ i ∈ L, ∀ j ∈ L, i ≠ j → ∀ k, blkV (x i) = some k → blkV (x j) ≠ some k) → tailWp P Q (ops.toList.drop N) (FF x) w) :
    (Code.region id ops true).wp P Q base w0 := by
  unfold tailOk at htl
  simp only [Bool.and_eq_true, List.all_eq_true, List.mem_range, Bool.or_eq_true, decide_eq_true_eq] at htl
  obtain ⟨⟨⟨t1, t2⟩, t3⟩, t4⟩ := htl
  have hword : ∀ (i : Nat), ∀ v w w', wordOf Ws i v w → Goes w w' → wordOf Ws i v w' := by
    intro i v w w' hw he
    unfold wordOf at hw ⊢
    cases hp : Ws[i]? with
    | none => trivial
    | some p =>
      rw [hp] at hw
      exact stays.mem p (List.mem_of_getElem? hp) _ _ _ hw he
  refine wp_region_joint hm (fun d x w => ClosedX ops d ∧ (((∀ j, N ≤ j → j < ops.size → d j = false) ∧ R w ∧ ApartM L d x w ∧ ∀ i, i < N → d i = true → wordOf Ws i (x i) w) ∨
    (∃ m, N < m ∧ m ≤ ops.size ∧ (∀ i, i < m → d i = true) ∧ (∀ i, m ≤ i → i < ops.size → d i = false) ∧ tailWp P Q (ops.toList.drop m) (FF x) w))) hn hwf ?_ ?_ ?_
  · exact fun x => ⟨fun j o _ h => (by cases h), .inl ⟨fun _ _ _ => rfl, start, ⟨fun _ _ h => (by cases h), fun _ _ _ _ _ h => (by cases h)⟩, by simp⟩⟩
  · rintro i hi d x w ⟨hcl, hJ⟩ hd hdeps
    have hoi : ops[i]? = some ops[i] := Array.getElem?_eq_getElem hi
    have hmem : ops[i] ∈ ops.toList := by simp
    have hsrc : SrcX ops d ops[i] := hdeps
    have hwant : Region.wanted ops[i] (yielded ops (putsF x 0 (ops.toList.map (·.dst)) base).tmps) = wantedX ops[i] x := wanted_eq hn hg ops[i] hmem x
    have hset : (fun j => if j = i then true else d j) = setD d i := rfl
    have hcl2 : ClosedX ops (setD d i) := by
      intro j o hj hdj e he hb
      by_cases hji : j = i
      · subst hji
        rw [hoi] at hj
        obtain rfl := Option.some.inj hj
        exact setD_le d _ _ (hdeps e he hb)
      · rw [setD_ne d hji] at hdj
        exact setD_le d _ _ (hcl j o hj hdj e he hb)
    have hprev : N < i → d (i - 1) = true := by
      intro hNi
      rcases t2 i hi with h | h
      · omega
      · rcases Nat.eq_or_lt_of_le (Nat.sub_le i 1) with h1 | h1
        · omega
        · exact hsrc.reach (K := i) hcl hoi 19 (i - 1) (by omega) h
    have hput : ∀ v, FF (fun j => if j = i then v else x j) = (FF x).put (ops[i]).dst v := by
      intro v
      have := putsF_set x (ops.toList.map (·.dst)) 0 i base (ops[i]).dst v hn (by simp [hi])
      rw [Nat.zero_add] at this
      rw [← hFF, ← hFF, this]
    have hdrop : ops.toList.drop i = ops[i] :: ops.toList.drop (i + 1) := by
      rw [List.drop_eq_getElem_cons (by simpa using hi)]
      simp
    -- an operation of the tail
    have run : N ≤ i → (∀ j, j < i → d j = true) → (∀ j, i ≤ j → j < ops.size → d j = false) → tailWp P Q (ops.toList.drop i) (FF x) w →
        if Region.wanted ops[i] (yielded ops (putsF x 0 (ops.toList.map (·.dst)) base).tmps) = true
        then Oper.wp P ops[i] (putsF x 0 (ops.toList.map (·.dst)) base) w (fun a' w' => ∃ v, a' = (putsF x 0 (ops.toList.map (·.dst)) base).put (ops[i]).dst v ∧ (ClosedX ops (fun j => if j = i then true else d j) ∧ (((∀ j, N ≤ j → j < ops.size → (fun j => if j = i then true else d j) j = false) ∧ R w' ∧ ApartM L (fun j => if j = i then true else d j) (fun j => if j = i then v else x j) w' ∧ ∀ k, k < N → (fun j => if j = i then true else d j) k = true → wordOf Ws k ((fun j => if j = i then v else x j) k) w') ∨
          (∃ m, N < m ∧ m ≤ ops.size ∧ (∀ k, k < m → (fun j => if j = i then true else d j) k = true) ∧ (∀ k, m ≤ k → k < ops.size → (fun j => if j = i then true else d j) k = false) ∧ tailWp P Q (ops.toList.drop m) (FF (fun j => if j = i then v else x j)) w')))) Q
        else (ClosedX ops (fun j => if j = i then true else d j) ∧ (((∀ j, N ≤ j → j < ops.size → (fun j => if j = i then true else d j) j = false) ∧ R w ∧ ApartM L (fun j => if j = i then true else d j) (fun j => if j = i then undef else x j) w ∧ ∀ k, k < N → (fun j => if j = i then true else d j) k = true → wordOf Ws k ((fun j => if j = i then undef else x j) k) w) ∨
          (∃ m, N < m ∧ m ≤ ops.size ∧ (∀ k, k < m → (fun j => if j = i then true else d j) k = true) ∧ (∀ k, m ≤ k → k < ops.size → (fun j => if j = i then true else d j) k = false) ∧ tailWp P Q (ops.toList.drop m) (FF (fun j => if j = i then undef else x j)) w))) := by
      intro hNi hbefore hbehind htw
      have hgn : (ops[i]).guard = none := by
        have := t3 ops[i] (by
          rw [List.mem_iff_getElem?]
          exact ⟨i - N, by rw [List.getElem?_drop, show N + (i - N) = i by omega]; simp [hi]⟩)
        simpa using this
      have hwt : Region.wanted ops[i] (yielded ops (putsF x 0 (ops.toList.map (·.dst)) base).tmps) = true := by unfold Region.wanted; rw [hgn]
      rw [if_pos hwt, hFF x]
      rw [hdrop] at htw
      unfold tailWp at htw
      refine Oper.wp_mono ?_ htw
      rintro a' w' ⟨v, rfl, ht⟩
      refine ⟨v, rfl, hcl2, .inr ⟨i + 1, by omega, by omega, fun k hk => ?_, fun k hk hks => ?_, ?_⟩⟩
      · by_cases hki : k = i
        · simp [hki]
        · simp [hki, hbefore k (by omega)]
      · simp [show k ≠ i by omega, hbehind k (by omega) hks]
      · rw [hput v]; exact ht
    rcases hJ with ⟨hno, hR, hAp, hw⟩ | ⟨m, hNm, hms, hyes, hno, htw⟩
    · rcases Nat.lt_or_ge i N with hiN | hiN
      · have hs := OpStepsM.get steps i ops[i] (by simp [hi]) (by simp; omega)
        rw [Nat.zero_add] at hs
        have hD : Deps (wordOf Ws) x w (ops[i]).after.toList := Deps.of (fun e he hb => by
          have hdon := hdeps e he hb
          have hlt : e.on < i := by
            unfold wellFormed at hwf
            rw [List.all_eq_true] at hwf
            have := hwf (ops[i], i) (by rw [List.mem_zipIdx_iff_getElem?]; simp [hi])
            simp only [Array.all_eq_true'] at this
            have := this e (by simpa using he)
            simpa [hb] using this
          exact hw _ (by omega) hdon)
        have := hs x w hR hD
        have put : ∀ v w', wordOf Ws i v w' → Goes w w' → ∀ j, j < N → setD d i j = true → wordOf Ws j (if j = i then v else x j) w' := by
          intro v w' hv he j hj hdj
          by_cases hji : j = i
          · subst hji; simpa using hv
          · rw [setD_ne d hji] at hdj
            rw [if_neg hji]
            exact hword j _ _ _ (hw j hj hdj) he
        have keep : ∀ j, N ≤ j → j < ops.size → setD d i j = false := fun j hj hjs => by rw [setD_ne d (by omega)]; exact hno j hj hjs
        rw [hwant, hFF x]
        split
        · rename_i hwt
          refine Oper.wp_mono ?_ (this.1 hwt)
          rintro a' w' ⟨v, rfl, hv, hR', he, hLv⟩
          exact ⟨v, rfl, hcl2, .inl ⟨keep, hR', hAp.next hd he.size hLv, put v w' hv he⟩⟩
        · rename_i hwt
          obtain ⟨h1, h2⟩ := this.2 (by simpa using hwt)
          exact ⟨hcl2, .inl ⟨keep, hR, hAp.next hd (Nat.le_refl _) (fun h => by rw [h2] at h; cases h), put undef w h1 (Below.refl _ _)⟩⟩
      · have hiN' : i = N := by
          rcases Nat.eq_or_lt_of_le hiN with h | h
          · exact h.symm
          · have := hprev h
            rw [hno (i - 1) (by omega) (by omega)] at this; cases this
        subst hiN'
        have hall : ∀ j, j < i → d j = true := fun j hj => hsrc.reach (K := i) hcl hoi 19 j (by omega) (t1 j hj)
        refine run (Nat.le_refl _) hall (fun j hj hjs => hno j hj hjs) (fin x w hR (allWords_of Ws 0 (fun j _ => by simp) (fun j hj => hw j (by omega) (hall j (by omega)))) (fun p hp q hq hpq => hAp.2 p hp q hq hpq (hall p (by rw [List.all_eq_true] at hLN; simpa using hLN p hp)) (hall q (by rw [List.all_eq_true] at hLN; simpa using hLN q hq))))
    · have him : i = m := by
        rcases Nat.lt_or_ge i m with h | h
        · rw [hyes i h] at hd; cases hd
        · rcases Nat.eq_or_lt_of_le h with h | h
          · exact h.symm
          · have := hprev (by omega)
            rw [hno (i - 1) (by omega) (by omega)] at this; cases this
      subst him
      exact run (by omega) hyes hno htw
  · rintro d x w hall ⟨hcl, hJ⟩
    rw [hFF x]
    rcases hJ with ⟨hno, -, -⟩ | ⟨m, hNm, hms, hyes, hno, htw⟩
    · have := hno N (Nat.le_refl _) t4
      rw [hall N t4] at this; cases this
    · have : m = ops.size := by
        rcases Nat.eq_or_lt_of_le hms with h | h
        · exact h
        · have := hno m (Nat.le_refl _) h
          rw [hall m h] at this; cases this
      subst this
      rw [List.drop_of_length_le (by simp)] at htw
      exact htw
end
end Go.Proofs.YtpbbnpglcadimaaDoor
