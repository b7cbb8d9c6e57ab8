/- Texts that walks stand on, one behind the other. -/
import Derived.Test.YteaeplceahdioaaDoorRows
import Derived.Test.YteaeplceahdioaaDoorBase
import Derived.IntWalk
import Derived.Deep.DeepCutAuto
import Derived.Laws.BitsAllLaws
import Derived.Test.YteaeplceahdioaaDoorMgSB
import Derived.Outline
import Derived.BigQuiet
import Derived.OwnWalk
import Derived.Test.YteaeplceahdioaaDoorNameW
import Derived.Test.YteaeplceahdioaaDoorMgSA
import Derived.Test.YteaeplceahdioaaDoorOb
import Derived.Deep.MidRow
import Derived.Test.YteaeplceahdioaaDoorNameB
import Derived.Test.YteaeplceahdioaaDoorProg
import Derived.WalkKit
import Derived.LaidEql
import Derived.Stop.Asserts
import Derived.RowKitTokens
import Derived.Test.YteaeplceahdioaaDoorReg2
namespace Go.Proofs.YteaeplceahdioaaDoor
open Go.RowKit
set_option linter.unusedVariables false

/-- A number of two bytes as bytes, the high one first. -/
def b16 (n : Nat) : List UInt8 := [UInt8.ofNat (n / 256), UInt8.ofNat (n % 256)]
def b32 (n : Nat) : List UInt8 := [UInt8.ofNat (n / 16777216), UInt8.ofNat (n / 65536 % 256), UInt8.ofNat (n / 256 % 256), UInt8.ofNat (n % 256)]
def v16 (n : Nat) : Value := .int .u16 (n : Int)
def v32 (n : Nat) : Value := .int .u32 (n : Int)

theorem bv_ofNat (n : Nat) (h : n < 256) : bv (UInt8.ofNat n) = .int .u8 (n : Int) := by
  unfold bv
  rw [UInt8.toNat_ofNat_of_lt' (by simpa using h)]
theorem b16_vals (n : Nat) (h : n < 65536) : (b16 n).map bv = [.int .u8 ((n : Int) / 256), .int .u8 ((n : Int) % 256)] := by
  simp only [b16, List.map_cons, List.map_nil]
  rw [bv_ofNat _ (by omega), bv_ofNat _ (by omega)]
  simp
theorem b32_vals (n : Nat) (h : n < 4294967296) : (b32 n).map bv = [.int .u8 ((n : Int) / 16777216), .int .u8 ((n : Int) / 65536 % 256), .int .u8 ((n : Int) / 256 % 256), .int .u8 ((n : Int) % 256)] := by
  simp only [b32, List.map_cons, List.map_nil]
  rw [bv_ofNat _ (by omega), bv_ofNat _ (by omega), bv_ofNat _ (by omega), bv_ofNat _ (by omega)]
  simp

theorem num_info : (Tryd.prog.info? 5).map (fun i => (i.zero, i.size, i.bytes)) = some (some (.int .u8 0), 1, 1) := by kernel_rfl

set_option maxHeartbeats 400000 in
theorem put32_any (A : Option Addr) (n c : Nat) (l : List UInt8) (D : Option Addr) (m d : Nat) (ns : List Nat) (w : World) (hA : Sl w w.heap.size 1 A n (l.map bv)) (hA0 : A = none → n = 0 ∧ c = 0)
    (hD : Sl w w.heap.size 1 D m (ns.map v32)) (hns : ∀ x ∈ ns, x < 4294967296) (hsz : n + 4 * m ≤ 281474976710656) :
    Calls Tryd.prog 53 #[.slice A n c, .slice D m d] w fun e w' => ∃ g, e = .returned (.slice (some ⟨g, 0, none⟩) (n + 4 * m) (n + 4 * m)) ∧
      w'.ownsRow w.heap.size 5 1 (.slice (some ⟨g, 0, none⟩) (n + 4 * m) (n + 4 * m)) (n + 4 * m) ((l ++ ns.flatMap b32).map bv) ∧ Below w.heap.size w w' := by
  obtain ⟨i0, hi, hz0, hz1, hz2⟩ := info_parts num_info
  have hm : (m : Int) ≤ 281474976710656 := by omega
  have hn : (n : Int) ≤ 281474976710656 := by omega
  go_enter Tryd.func53, Tryd.ntmps53
  go_wp2_with (first
    | (at_make; refine wpList_make_own _ rfl _ _ 45 rfl w.heap.size 5 i0 (.int .u8 0) 1 Tryd.underlying45 hi hz0 hz1 _ _ _ (n + 4 * m) rfl rfl (by omega) (by rw [hz2]; omega) (by unfold maxLen; omega) (by simp) ?_; intro w1 hown1 hg1)
    | (at_builtin; refine wpList_append_fits_any _ rfl (.tmp 15) (.tmp 16) 45 rfl w.heap.size 5 i0 1 Tryd.underlying45 hi hz1 _ 0 (n + 4 * m) [] rfl hown1 A n c (l.map bv) rfl (by simpa using hA.1) hA0 ?hc (one_bytes l) (by omega) ?_; rotate_right; intro w2 hown2 hg2; simp only [Nat.zero_add, List.nil_append] at hown2))
  case hc => exact (hA.below (below_grown_none (Below.refl _ _) hg1 (Nat.le_refl _))).cells_at
  have hb2 : Below w.heap.size w w2 := below_grown (below_grown_none (Below.refl _ _) hg1 (Nat.le_refl _)) hg2 hg1.size (Nat.le_refl _)
  clear hown1 hg1 hg2
  go_loopw [5, 20] (fun v i wr => ∃ k : Nat, k ≤ m ∧ i = .int .i64 k ∧ v = .slice (some ⟨w.heap.size, 0, none⟩) (n + 4 * k) (n + 4 * m) ∧
      wr.ownsRow w.heap.size 5 1 (.slice (some ⟨w.heap.size, 0, none⟩) (n + 4 * k) (n + 4 * m)) (n + 4 * k) ((l ++ (ns.take k).flatMap b32).map bv) ∧ Below w.heap.size w wr)
    (fun _ i _ => m - (intOf i).toNat)
  case atStart => exact ⟨0, Nat.zero_le _, rfl, rfl, by simpa using hown2, hb2⟩
  case round =>
    obtain ⟨k, hk, rfl, rfl, hown, hbel⟩ := hrel
    by_cases hlt : k < m
    · obtain ⟨b, off, u, rfl, hb, hu, hc⟩ := hD.at_ hlt
      have hkl : k < ns.length := by have := hD.1; simp at this; omega
      obtain ⟨y, hy⟩ : ∃ y, y = ns[k] := ⟨_, rfl⟩
      have hyb : y < 4294967296 := by rw [hy]; exact hns _ (List.getElem_mem hkl)
      have hcell : wr.cell? ⟨b, off + k, none⟩ = some (.int .u32 (y : Int)) := by
        rw [hbel.cell hb, hc]
        simp only [List.getElem?_map, List.getElem?_eq_getElem hkl, Option.map_some, Option.some.injEq] at hu
        rw [← hu, hy]; rfl
      have htake : (ns.take (k + 1)).flatMap b32 = (ns.take k).flatMap b32 ++ b32 y := by
        rw [List.take_succ_eq_append_getElem hkl, List.flatMap_append, hy]; simp
      have hv := b32_vals y hyb
      have HT := Lib.hid htake
      have HV := Lib.hid hv
      clear hc hu hy htake hv
      have hy0 : (y : Int) < 4294967296 := by omega
      go_wp2_with (first
        | (at_builtin; refine wpList_append_fits _ rfl (.tmp 24) (.tmp 36) 45 rfl w.heap.size 5 i0 1 Tryd.underlying45 hi hz1 _ (n + 4 * k) (n + 4 * m) _ rfl (hown.alloc _) _ 4 4 ((b32 y).map bv) rfl rfl ?c1 (one_bytes _) (by omega) ?_))
      case c1 => rw [HV.out]; exact news_at _ _ _
      intro w3 hown3 hg3
      have hb3 : Below w.heap.size w w3 := below_grown (hbel.alloc hbel.size _) hg3 (by have := hbel.size; simp; omega) (Nat.le_refl _)
      have hown4 : w3.ownsRow w.heap.size 5 1 (.slice (some ⟨w.heap.size, 0, none⟩) (n + 4 * (k + 1)) (n + 4 * m)) (n + 4 * (k + 1)) ((l ++ (ns.take (k + 1)).flatMap b32).map bv) := by
        rw [HT.out]
        simpa [Nat.mul_add, Nat.add_assoc] using hown3
      clear hown3 hg3 hown hbel hcell
      go_wp2
      go_roundw
      case rel => exact ⟨k + 1, by omega, by go_num, rfl, hown4, hb3⟩
      case measure => simp [intOf]; omega
    · obtain rfl : k = m := by omega
      have hl : ns.length = k := by simpa using hD.1
      go_wp2
      go_ret
      exact ⟨_, rfl, by rw [← hl, List.take_length] at hown; rw [← hl]; exact hown, hbel⟩
/-- The number of two, of four bytes at a place. -/
def at8 (s : ByteArray) (a : Nat) : Nat := (s.data.toList.getD a 0).toNat
def n16 (s : ByteArray) (a : Nat) : Nat := at8 s a * 256 + at8 s (a + 1)
def n32 (s : ByteArray) (a : Nat) : Nat := at8 s a * 16777216 + at8 s (a + 1) * 65536 + at8 s (a + 2) * 256 + at8 s (a + 3)
theorem at8_eq (s : ByteArray) (a : Nat) (h : a < s.size) : at8 s a = s[a].toNat := by
  unfold at8
  have : a < s.data.toList.length := by simpa using h
  rw [List.getD_eq_getElem?_getD, List.getElem?_eq_getElem this]
  rfl
theorem at8_lt (s : ByteArray) (a : Nat) : at8 s a < 256 := UInt8.toNat_lt _
theorem or16 (x y : Nat) (hx : x < 256) (hy : y < 256) : bits .or .u16 (IntKind.u16.wrap (IntKind.u16.wrap (x : Int) * 256)) (IntKind.u16.wrap (y : Int)) = ((x * 256 + y : Nat) : Int) := by
  rw [IntKind.wrap_u16, IntKind.wrap_u16, IntKind.wrap_u16]
  rw [show (x : Int) % 65536 * 256 % 65536 = ((x * 256 : Nat) : Int) by omega, show (y : Int) % 65536 = (y : Int) by omega, u16_or_nat _ _ (by omega) (by omega), nat_join 8 _ _ (by omega) hy]
theorem or32 (x y z u : Nat) (hx : x < 256) (hy : y < 256) (hz : z < 256) (hu : u < 256) :
    bits .or .u32 (bits .or .u32 (bits .or .u32 (IntKind.u32.wrap (IntKind.u32.wrap (x : Int) * 16777216)) (IntKind.u32.wrap (IntKind.u32.wrap (y : Int) * 65536))) (IntKind.u32.wrap (IntKind.u32.wrap (z : Int) * 256))) (IntKind.u32.wrap (u : Int)) = ((x * 16777216 + y * 65536 + z * 256 + u : Nat) : Int) := by
  simp only [IntKind.wrap_u32']
  rw [show (x : Int) % 4294967296 * 16777216 % 4294967296 = ((x * 16777216 : Nat) : Int) by omega, show (y : Int) % 4294967296 * 65536 % 4294967296 = ((y * 65536 : Nat) : Int) by omega,
    show (z : Int) % 4294967296 * 256 % 4294967296 = ((z * 256 : Nat) : Int) by omega, show (u : Int) % 4294967296 = (u : Int) by omega,
    u32_or_nat _ _ (by omega) (by omega), nat_join 24 _ _ (by omega) (by omega), u32_or_nat _ _ (by omega) (by omega), nat_join 16 _ _ (by omega) (by omega), u32_or_nat _ _ (by omega) (by omega), nat_join 8 _ _ (by omega) (by omega)]
end Go.Proofs.YteaeplceahdioaaDoor
namespace Go.Proofs.YteaeplceahdioaaDoor
open Go.RowKit
set_option linter.unusedVariables false
set_option maxRecDepth 20000

theorem sv_append (s t : ByteArray) : Value.string (s ++ t) = sv (s.data.toList ++ t.data.toList) := by
  unfold sv; congr 1
theorem mk_toList (l : List UInt8) : (ByteArray.mk l.toArray).data.toList = l := by simp
theorem may_mayL (s : ByteArray) : (labelsOf s).isSome = true ↔ mayL s.data.toList := Iff.rfl
theorem get_q (s : ByteArray) (i : Nat) (h : i < s.size) : s.data.toList[i]? = some s[i] := by
  rw [List.getElem?_eq_getElem (by simpa using h)]; rfl
theorem below_drew {B : Nat} {w w' : World} (h : Below B w w') (k : Nat) : Below B w (w'.drewN k) := ⟨h.os, h.tape, h.output, h.size, h.block⟩
set_option maxHeartbeats 1600000 in
theorem cutp_any (s : ByteArray) (w : World) (hs : s.size ≤ 140737488355328) :
    Calls Tryd.prog 97 #[.string s] w fun e w' => Below w.heap.size w w' ∧ ((∃ n t, IsCut s.data.toList n t ∧ e = .returned (.tuple #[sv n, sv t, .bool true])) ∨ ((∀ n t, ¬ IsCut s.data.toList n t) ∧ e = .returned (.tuple #[.string ⟨#[]⟩, .string ⟨#[]⟩, .bool false]))) := by
  have hlen : s.data.toList.length = s.size := by simp
  go_enter Tryd.func97, Tryd.ntmps97
  go_wp2_with fail
  go_loop [5] (fun i => ∃ p : Nat, p ≤ s.size + 256 ∧ i = .int .i64 p ∧ Hid (At s.data.toList p)) (fun i => s.size + 256 - (intOf i).toNat)
  case atStart => exact ⟨0, Nat.zero_le _, rfl, Lib.hid (At.start _)⟩
  case round =>
    obtain ⟨p, hp, rfl, hat⟩ := hrel
    by_cases hlt : p < s.size
    · have hlt' : (p : Int) < s.size := by omega
      have hq := get_q s p hlt
      obtain ⟨x, hx⟩ : ∃ x, s[p] = x := ⟨_, rfl⟩
      obtain ⟨q, hxq⟩ : ∃ q, x.toNat = q := ⟨_, rfl⟩
      have hq256 : q < 256 := by rw [← hxq]; exact UInt8.toNat_lt _
      rw [hx] at hq
      by_cases h0 : q = 0
      · have hx0 : x = 0 := UInt8.toNat_inj.1 (by rw [hxq, h0]; rfl)
        subst hx0
        have hne : ((q : Int) != 0) = false := by simp; omega
        have hge : ¬ (s.size : Int) ≤ p := by omega
        have hq2 := hq
        have hst := hat.out.stop hq
        have HST := Lib.hid hst
        have HQ := Lib.hid hq2
        have hm := fun w => may_any (s.extract 0 p) w (by simp [ByteArray.size_extract]; unfold maxLen; omega)
        have hE : (s.extract 0 p).data.toList = s.data.toList.take p := by simp [List.extract_eq_take_drop]
        have hE1 : Value.string (s.extract 0 p) = sv (s.data.toList.take p) := by rw [ba_extract]; simp [List.extract_eq_take_drop]
        have hE2 : Value.string (s.extract (p + 1) s.size) = sv (s.data.toList.drop (p + 1)) := by
          rw [ba_extract, ← hlen, List.extract_eq_take_drop, List.take_of_length_le (by simp)]
        have HE1 := Lib.hid hE1
        have HE2 := Lib.hid hE2
        have hML : (labelsOf (s.extract 0 p)).isSome = true ↔ mayL (s.data.toList.take p) := by rw [may_mayL, hE]
        have HML := Lib.hid hML
        clear hst hq hq2 hE hE1 hE2 hML hat
        cases hmay : (labelsOf (s.extract 0 p)).isSome with
        | true =>
          rw [hmay] at hm
          have HM := Lib.hid hm
          have hfin : Hid (IsCut s.data.toList (s.data.toList.take p) (s.data.toList.drop (p + 1))) := Lib.hid (cut_here HQ.out (HML.out.1 hmay))
          clear hm hmay HML HST HQ hlen hxq
          go_wp2_with fail
          refine (HM.out _).mono ?_
          rintro e w1 ⟨rfl, hb1⟩
          have hi4 : IntKind.i64.wrap ((p : Int) + 1) = (p : Int) + 1 := IntWalk.i64_in _ (by omega)
          have hp0 : (0 : Int) ≤ (p : Int) + 1 := by omega
          have hp1 : (p : Int) + 1 ≤ s.size := by omega
          have hp2 : ((p : Int) + 1).toNat = p + 1 := by omega
          have hp3 : (p : Int) ≤ s.size := by omega
          go_wp2_with fail
          go_quiet (fail)
          go_wp2_with fail
          go_ret3
          exact ⟨below_drew hb1 _, .inl ⟨_, _, hfin.out, by rw [← HE1.out, ← HE2.out]; rfl⟩⟩
        | false =>
          rw [hmay] at hm
          have HM := Lib.hid hm
          have hfin : Hid (∀ n t, ¬ IsCut s.data.toList n t) := Lib.hid (fun n t hc => by
            obtain ⟨rfl, _⟩ := HST.out n t hc
            have := HML.out.2 hc.1
            rw [hmay] at this; cases this)
          clear hm hmay HML HST HQ hlen hxq
          go_wp2_with fail
          refine (HM.out _).mono ?_
          rintro e w1 ⟨rfl, hb1⟩
          go_wp2_with fail
          go_ret3
          exact ⟨hb1, .inr ⟨hfin.out, rfl⟩⟩
      · have hne : ((q : Int) != 0) = true := by simp; omega
        have hnx := hat.out.next x hq (by rintro rfl; simp at hxq; omega)
        rw [hxq] at hnx
        have HN := Lib.hid hnx
        have hi1 : IntKind.i64.wrap (q : Int) = q := IntWalk.i64_in _ (by omega)
        have hi2 : IntKind.i64.wrap (1 + (q : Int)) = 1 + (q : Int) := IntWalk.i64_in _ (by omega)
        have hi3 : IntKind.i64.wrap ((p : Int) + (1 + (q : Int))) = (p : Int) + (1 + (q : Int)) := IntWalk.i64_in _ (by omega)
        clear hnx hq hat hlen
        go_wp2_with fail
        go_round
        case rel => exact ⟨p + 1 + q, by omega, by go_num, HN⟩
        case measure => simp [intOf]; omega
    · have hge : (s.size : Int) ≤ p := by omega
      have hlt' : ¬ (p : Int) < s.size := by omega
      have hfin : Hid (∀ n t, ¬ IsCut s.data.toList n t) := Lib.hid (fun n t hc => hat.out.over (by omega) n t hc)
      clear hat hlen hlt
      go_wp2_with fail
      go_ret3
      exact ⟨Below.refl _ _, .inr ⟨hfin.out, rfl⟩⟩
end Go.Proofs.YteaeplceahdioaaDoor
namespace Go.Proofs.YteaeplceahdioaaDoor
open Go.RowKit
set_option linter.unusedVariables false
set_option maxRecDepth 20000

theorem isSoa_no1 {l : List UInt8} (h : ∀ n t, ¬ IsCut l n t) (a b t : List UInt8) : ¬ IsSoa l a b t := fun hs => h _ _ hs.1
theorem isSoa_no2 {l a r : List UInt8} (h1 : IsCut l a r) (h : ∀ n t, ¬ IsCut r n t) (a' b t : List UInt8) : ¬ IsSoa l a' b t := fun hs => by
  obtain ⟨-, h2⟩ := At.one h1 hs.1
  exact h b t ⟨hs.2.1, h2⟩
theorem isSoa_no3 {l a r b t : List UInt8} (h1 : IsCut l a r) (h2 : IsCut r b t) (h : t.length ≠ 20) (a' b' t' : List UInt8) : ¬ IsSoa l a' b' t' := fun hs => by
  obtain ⟨-, h3⟩ := At.one h1 hs.1
  obtain ⟨-, h4⟩ := At.one h2 ⟨hs.2.1, h3⟩
  rw [h4] at h; exact h hs.2.2
theorem isSoa_yes {l a r b t : List UInt8} (h1 : IsCut l a r) (h2 : IsCut r b t) (h : t.length = 20) : IsSoa l a b t := by
  refine ⟨⟨h1.1, ?_⟩, h2.1, h⟩
  rw [← h2.2]; exact h1.2
theorem IsCut.len {l n t : List UInt8} (h : IsCut l n t) : n.length + t.length + 1 = l.length := by rw [h.2]; simp; omega
/-- The value of an SOA. -/
def soaV (a b t : List UInt8) : Value := .agg #[sv a, sv b, .int .u32 (n32 ⟨t.toArray⟩ 0), .int .u32 (n32 ⟨t.toArray⟩ 4), .int .u32 (n32 ⟨t.toArray⟩ 8), .int .u32 (n32 ⟨t.toArray⟩ 12), .int .u32 (n32 ⟨t.toArray⟩ 16)]
def soa0 : Value := .agg #[.string ⟨#[]⟩, .string ⟨#[]⟩, .int .u32 0, .int .u32 0, .int .u32 0, .int .u32 0, .int .u32 0]
end Go.Proofs.YteaeplceahdioaaDoor
namespace Go.Proofs.YteaeplceahdioaaDoor
open Go.RowKit
set_option linter.unusedVariables false
set_option maxRecDepth 20000

/-- The data of an SOA of two names and numbers. -/
def dataL (a b : List UInt8) (ns : List Nat) : List UInt8 := a ++ 0 :: (b ++ 0 :: ns.flatMap b32)
theorem b32_len (ns : List Nat) : (ns.flatMap b32).length = 4 * ns.length := by
  induction ns with
  | nil => rfl
  | cons x l ih => simp only [List.flatMap_cons, List.length_append, ih, List.length_cons]; simp [b32]; omega
end Go.Proofs.YteaeplceahdioaaDoor
namespace Go.Proofs.YteaeplceahdioaaDoor
open Go.RowKit
set_option linter.unusedVariables false
theorem nameZ_may (zs : List Int) (hz : ∀ z ∈ zs, 0 ≤ z ∧ z < 256) : mayL (nameZ zs) := by
  have h := few_labels (wordsZ_ok zs hz) (wordsZ_len zs)
  unfold mayL
  unfold labelsOf at h
  rw [show (ByteArray.mk (wire (wordsZ zs)).toArray).data.toList = wire (wordsZ zs) by simp] at h
  unfold nameZ
  rw [h]; rfl
theorem nameZ_len (zs : List Int) (hz : ∀ z ∈ zs, 0 ≤ z ∧ z < 256) : (nameZ zs).length ≤ 84 := by
  have := few_wire (wordsZ zs) (fun x hx => (wordsZ_ok zs hz x hx).2.2)
  have h2 := wordsZ_len zs
  unfold nameZ; omega
end Go.Proofs.YteaeplceahdioaaDoor
namespace Go.Proofs.YteaeplceahdioaaDoor
open Go.RowKit
set_option linter.unusedVariables false
section
variable {P : Program} {ops : Array Oper} {Q : Exit → Act → World → Prop}
/-- Operations one behind the other. -/
def tailWp (P : Program) (Q : Exit → Act → World → Prop) : List Oper → Act → World → Prop
  | [], a, w => Q .normal a w
  | o :: os, a, w => Oper.wp P o a w (fun a' w' => ∃ v, a' = a.put o.dst v ∧ tailWp P Q os a' w') Q
/-- From N on each operation waits for all ahead of it. -/
def tailOk (ops : Array Oper) (N : Nat) : Bool :=
  ((List.range N).all fun i => reachX ops 20 i N) && ((List.range ops.size).all fun j => decide (j ≤ N) || reachX ops 20 (j - 1) j) && ((ops.toList.drop N).all fun o => o.guard.isNone) && decide (N < ops.size)
/-- As Next; an operation that is named fresh gives a block that is new. -/
def NextL (A : Act) (d : Option Tmp) (p : Value → World → Prop) (R : World → Prop) (L : List Nat) (i : Nat) (w : World) (a' : Act) (w' : World) : Prop :=
  ∃ v, a' = A.put d v ∧ p v w' ∧ R w' ∧ Goes w w' ∧ (L.contains i = true → v = .pointer (some ⟨w.heap.size, 0, none⟩) ∧ w.heap.size < w'.heap.size)
theorem nextL {A a' : Act} {d : Option Tmp} {p : Value → World → Prop} {R : World → Prop} {L : List Nat} {i : Nat} {w w' : World} (v : Value) (ha : a' = A.put d v) (hp : p v w') (hR : R w') (he : Goes w w') (hL : L.contains i = false := by rfl) : NextL A d p R L i w a' w' :=
  ⟨v, ha, hp, hR, he, fun h => by rw [hL] at h; cases h⟩
theorem nextL_new {A a' : Act} {d : Option Tmp} {p : Value → World → Prop} {R : World → Prop} {L : List Nat} {i : Nat} {w : World} (o : Obj) (ha : a' = A.put d (.pointer (some ⟨w.heap.size, 0, none⟩))) (hp : p (.pointer (some ⟨w.heap.size, 0, none⟩)) (w.alloc o)) (hR : R (w.alloc o)) : NextL A d p R L i w a' (w.alloc o) :=
  ⟨_, ha, hp, hR, (Below.refl _ _).alloc (Nat.le_refl _) _, fun _ => ⟨rfl, by simp⟩⟩
def OpStepL (P : Program) (ops : Array Oper) (Q : Exit → Act → World → Prop) (Ws : List (Value → World → Prop)) (R : World → Prop) (L : List Nat) (FF : (Nat → Value) → Act) (i : Nat) (o : Oper) : Prop :=
  ∀ (x : Nat → Value) (w : World), R w → Deps (wordOf Ws) x w o.after.toList → (wantedX o x = true → Oper.wp P o (FF x) w (NextL (FF x) o.dst (wordOf Ws i) R L i w) Q) ∧ (wantedX o x = false → wordOf Ws i undef w ∧ L.contains i = false)
def OpStepsL (P : Program) (ops : Array Oper) (Q : Exit → Act → World → Prop) (Ws : List (Value → World → Prop)) (R : World → Prop) (L : List Nat) (FF : (Nat → Value) → Act) (skip : Nat → Bool) : Nat → List Oper → Prop
  | _, [] => True
  | i, o :: os => (skip i = false → OpStepL P ops Q Ws R L FF i o) ∧ OpStepsL P ops Q Ws R L FF skip (i + 1) os
theorem OpStepsL.get {Ws : List (Value → World → Prop)} {R : World → Prop} {L : List Nat} {FF : (Nat → Value) → Act} {skip : Nat → Bool} : ∀ {l : List Oper} {k : Nat}, OpStepsL P ops Q Ws R L FF skip k l → ∀ i o, l[i]? = some o → skip (k + i) = false → OpStepL P ops Q Ws R L FF (k + i) o
  | [], _, _, i, o, h, _ => by simp at h
  | p :: l, k, hs, 0, o, h, hk => by simp at h; subst h; exact hs.1 hk
  | p :: l, k, hs, i + 1, o, h, hk => by
    have := OpStepsL.get hs.2 i o (by simpa using h) (by rwa [show k + 1 + i = k + (i + 1) by omega])
    rwa [show k + 1 + i = k + (i + 1) by omega] at this
/-- The blocks that are named fresh are there, and no two of them the same. -/
def Apart (L : List Nat) (d : Nat → Bool) (x : Nat → Value) (w : World) : Prop :=
  (∀ i ∈ L, d i = true → ∃ g, x i = .pointer (some ⟨g, 0, none⟩) ∧ g < w.heap.size) ∧ ∀ i ∈ L, ∀ j ∈ L, i ≠ j → d i = true → d j = true → x i ≠ x j
theorem Apart.next {L : List Nat} {d : Nat → Bool} {x : Nat → Value} {w w' : World} {i : Nat} {v : Value} (h : Apart L d x w) (hd : d i = false) (hs : w.heap.size ≤ w'.heap.size) (hv : L.contains i = true → v = .pointer (some ⟨w.heap.size, 0, none⟩) ∧ w.heap.size < w'.heap.size) :
    Apart L (setD d i) (fun j => if j = i then v else x j) w' := by
  refine ⟨fun j hj hdj => ?_, fun j hj k hk hjk hdj hdk => ?_⟩
  · by_cases hji : j = i
    · subst hji
      obtain ⟨h1, h2⟩ := hv (by simpa using hj)
      exact ⟨_, by simpa using h1, h2⟩
    · rw [setD_ne d hji] at hdj
      obtain ⟨g, h1, h2⟩ := h.1 j hj hdj
      exact ⟨g, by simpa [hji] using h1, by omega⟩
  · by_cases hji : j = i
    · subst hji
      have hkj : k ≠ j := fun e => hjk e.symm
      rw [setD_ne d hkj] at hdk
      obtain ⟨h1, h2⟩ := hv (by simpa using hj)
      obtain ⟨g, h3, h4⟩ := h.1 k hk hdk
      simp only [if_true, hkj, if_false]
      rw [h1, h3]
      intro e
      injection e with e; injection e with e; injection e with e
      omega
    · by_cases hki : k = i
      · subst hki
        rw [setD_ne d hjk] at hdj
        obtain ⟨h1, h2⟩ := hv (by simpa using hk)
        obtain ⟨g, h3, h4⟩ := h.1 j hj hdj
        simp only [if_true, hjk, if_false]
        rw [h1, h3]
        intro e
        injection e with e; injection e with e; injection e with e
        omega
      · rw [setD_ne d hji] at hdj
        rw [setD_ne d hki] at hdk
        simp only [hji, hki, if_false]
        exact h.2 j hj k hk hjk hdj hdk
theorem wp_region_tail {id : Nat} {base : Act} {w0 : World} (hm : P.follows .mixedOrders = true) {FF : (Nat → Value) → Act} (hFF : ∀ x, putsF x 0 (ops.toList.map (·.dst)) base = FF x) (R : World → Prop) (Ws : List (Value → World → Prop)) (N : Nat) (L : List Nat)
    (hn : noTwice (ops.toList.map (·.dst)) = true) (hg : guardsIn ops base.tmps.size = true) (hwf : wellFormed ops = true) (hlen : Ws.length = N) (htl : tailOk ops N = true) (hLN : (L.all fun i => decide (i < N)) = true)
    (stays : AllStay Ws) (start : R w0.drew)
    (steps : OpStepsL P ops Q Ws R L FF (fun i => decide (N ≤ i)) 0 ops.toList)
    (fin : ∀ (x : Nat → Value) (w : World), R w → AllWords Ws x w 0 Ws → (∀ i ∈ L, ∀ j ∈ L, i ≠ j → x i ≠ x j) → tailWp P Q (ops.toList.drop N) (FF x) w) :
    (Code.region id ops true).wp P Q base w0 := by
  unfold tailOk at htl
  simp only [Bool.and_eq_true, List.all_eq_true, List.mem_range, Bool.or_eq_true, decide_eq_true_eq] at htl
  obtain ⟨⟨⟨t1, t2⟩, t3⟩, t4⟩ := htl
  have hword : ∀ (i : Nat), ∀ v w w', wordOf Ws i v w → Goes w w' → wordOf Ws i v w' := by
    intro i v w w' hw he
    unfold wordOf at hw ⊢
    cases hp : Ws[i]? with
    | none => trivial
    | some p =>
      rw [hp] at hw
      exact stays.mem p (List.mem_of_getElem? hp) _ _ _ hw he
  refine wp_region_joint hm (fun d x w => ClosedX ops d ∧ (((∀ j, N ≤ j → j < ops.size → d j = false) ∧ R w ∧ Apart L d x w ∧ ∀ i, i < N → d i = true → wordOf Ws i (x i) w) ∨
    (∃ m, N < m ∧ m ≤ ops.size ∧ (∀ i, i < m → d i = true) ∧ (∀ i, m ≤ i → i < ops.size → d i = false) ∧ tailWp P Q (ops.toList.drop m) (FF x) w))) hn hwf ?_ ?_ ?_
  · exact fun x => ⟨fun j o _ h => (by cases h), .inl ⟨fun _ _ _ => rfl, start, ⟨fun _ _ h => (by cases h), fun _ _ _ _ _ h => (by cases h)⟩, by simp⟩⟩
  · rintro i hi d x w ⟨hcl, hJ⟩ hd hdeps
    have hoi : ops[i]? = some ops[i] := Array.getElem?_eq_getElem hi
    have hmem : ops[i] ∈ ops.toList := by simp
    have hsrc : SrcX ops d ops[i] := hdeps
    have hwant : Region.wanted ops[i] (yielded ops (putsF x 0 (ops.toList.map (·.dst)) base).tmps) = wantedX ops[i] x := wanted_eq hn hg ops[i] hmem x
    have hset : (fun j => if j = i then true else d j) = setD d i := rfl
    have hcl2 : ClosedX ops (setD d i) := by
      intro j o hj hdj e he hb
      by_cases hji : j = i
      · subst hji
        rw [hoi] at hj
        obtain rfl := Option.some.inj hj
        exact setD_le d _ _ (hdeps e he hb)
      · rw [setD_ne d hji] at hdj
        exact setD_le d _ _ (hcl j o hj hdj e he hb)
    have hprev : N < i → d (i - 1) = true := by
      intro hNi
      rcases t2 i hi with h | h
      · omega
      · rcases Nat.eq_or_lt_of_le (Nat.sub_le i 1) with h1 | h1
        · omega
        · exact hsrc.reach (K := i) hcl hoi 19 (i - 1) (by omega) h
    have hput : ∀ v, FF (fun j => if j = i then v else x j) = (FF x).put (ops[i]).dst v := by
      intro v
      have := putsF_set x (ops.toList.map (·.dst)) 0 i base (ops[i]).dst v hn (by simp [hi])
      rw [Nat.zero_add] at this
      rw [← hFF, ← hFF, this]
    have hdrop : ops.toList.drop i = ops[i] :: ops.toList.drop (i + 1) := by
      rw [List.drop_eq_getElem_cons (by simpa using hi)]
      simp
    -- an operation of the tail
    have run : N ≤ i → (∀ j, j < i → d j = true) → (∀ j, i ≤ j → j < ops.size → d j = false) → tailWp P Q (ops.toList.drop i) (FF x) w →
        if Region.wanted ops[i] (yielded ops (putsF x 0 (ops.toList.map (·.dst)) base).tmps) = true
        then Oper.wp P ops[i] (putsF x 0 (ops.toList.map (·.dst)) base) w (fun a' w' => ∃ v, a' = (putsF x 0 (ops.toList.map (·.dst)) base).put (ops[i]).dst v ∧ (ClosedX ops (fun j => if j = i then true else d j) ∧ (((∀ j, N ≤ j → j < ops.size → (fun j => if j = i then true else d j) j = false) ∧ R w' ∧ Apart L (fun j => if j = i then true else d j) (fun j => if j = i then v else x j) w' ∧ ∀ k, k < N → (fun j => if j = i then true else d j) k = true → wordOf Ws k ((fun j => if j = i then v else x j) k) w') ∨
          (∃ m, N < m ∧ m ≤ ops.size ∧ (∀ k, k < m → (fun j => if j = i then true else d j) k = true) ∧ (∀ k, m ≤ k → k < ops.size → (fun j => if j = i then true else d j) k = false) ∧ tailWp P Q (ops.toList.drop m) (FF (fun j => if j = i then v else x j)) w')))) Q
        else (ClosedX ops (fun j => if j = i then true else d j) ∧ (((∀ j, N ≤ j → j < ops.size → (fun j => if j = i then true else d j) j = false) ∧ R w ∧ Apart L (fun j => if j = i then true else d j) (fun j => if j = i then undef else x j) w ∧ ∀ k, k < N → (fun j => if j = i then true else d j) k = true → wordOf Ws k ((fun j => if j = i then undef else x j) k) w) ∨
          (∃ m, N < m ∧ m ≤ ops.size ∧ (∀ k, k < m → (fun j => if j = i then true else d j) k = true) ∧ (∀ k, m ≤ k → k < ops.size → (fun j => if j = i then true else d j) k = false) ∧ tailWp P Q (ops.toList.drop m) (FF (fun j => if j = i then undef else x j)) w))) := by
      intro hNi hbefore hbehind htw
      have hgn : (ops[i]).guard = none := by
        have := t3 ops[i] (by
          rw [List.mem_iff_getElem?]
          exact ⟨i - N, by rw [List.getElem?_drop, show N + (i - N) = i by omega]; simp [hi]⟩)
        simpa using this
      have hwt : Region.wanted ops[i] (yielded ops (putsF x 0 (ops.toList.map (·.dst)) base).tmps) = true := by unfold Region.wanted; rw [hgn]
      rw [if_pos hwt, hFF x]
      rw [hdrop] at htw
      unfold tailWp at htw
      refine Oper.wp_mono ?_ htw
      rintro a' w' ⟨v, rfl, ht⟩
      refine ⟨v, rfl, hcl2, .inr ⟨i + 1, by omega, by omega, fun k hk => ?_, fun k hk hks => ?_, ?_⟩⟩
      · by_cases hki : k = i
        · simp [hki]
        · simp [hki, hbefore k (by omega)]
      · simp [show k ≠ i by omega, hbehind k (by omega) hks]
      · rw [hput v]; exact ht
    rcases hJ with ⟨hno, hR, hAp, hw⟩ | ⟨m, hNm, hms, hyes, hno, htw⟩
    · rcases Nat.lt_or_ge i N with hiN | hiN
      · have hs := OpStepsL.get steps i ops[i] (by simp [hi]) (by simp; omega)
        rw [Nat.zero_add] at hs
        have hD : Deps (wordOf Ws) x w (ops[i]).after.toList := Deps.of (fun e he hb => by
          have hdon := hdeps e he hb
          have hlt : e.on < i := by
            unfold wellFormed at hwf
            rw [List.all_eq_true] at hwf
            have := hwf (ops[i], i) (by rw [List.mem_zipIdx_iff_getElem?]; simp [hi])
            simp only [Array.all_eq_true'] at this
            have := this e (by simpa using he)
            simpa [hb] using this
          exact hw _ (by omega) hdon)
        have := hs x w hR hD
        have put : ∀ v w', wordOf Ws i v w' → Goes w w' → ∀ j, j < N → setD d i j = true → wordOf Ws j (if j = i then v else x j) w' := by
          intro v w' hv he j hj hdj
          by_cases hji : j = i
          · subst hji; simpa using hv
          · rw [setD_ne d hji] at hdj
            rw [if_neg hji]
            exact hword j _ _ _ (hw j hj hdj) he
        have keep : ∀ j, N ≤ j → j < ops.size → setD d i j = false := fun j hj hjs => by rw [setD_ne d (by omega)]; exact hno j hj hjs
        rw [hwant, hFF x]
        split
        · rename_i hwt
          refine Oper.wp_mono ?_ (this.1 hwt)
          rintro a' w' ⟨v, rfl, hv, hR', he, hLv⟩
          exact ⟨v, rfl, hcl2, .inl ⟨keep, hR', hAp.next hd he.size hLv, put v w' hv he⟩⟩
        · rename_i hwt
          obtain ⟨h1, h2⟩ := this.2 (by simpa using hwt)
          exact ⟨hcl2, .inl ⟨keep, hR, hAp.next hd (Nat.le_refl _) (fun h => by rw [h2] at h; cases h), put undef w h1 (Below.refl _ _)⟩⟩
      · have hiN' : i = N := by
          rcases Nat.eq_or_lt_of_le hiN with h | h
          · exact h.symm
          · have := hprev h
            rw [hno (i - 1) (by omega) (by omega)] at this; cases this
        subst hiN'
        have hall : ∀ j, j < i → d j = true := fun j hj => hsrc.reach (K := i) hcl hoi 19 j (by omega) (t1 j hj)
        refine run (Nat.le_refl _) hall (fun j hj hjs => hno j hj hjs) (fin x w hR (allWords_of Ws 0 (fun j _ => by simp) (fun j hj => hw j (by omega) (hall j (by omega)))) (fun p hp q hq hpq => hAp.2 p hp q hq hpq (hall p (by rw [List.all_eq_true] at hLN; simpa using hLN p hp)) (hall q (by rw [List.all_eq_true] at hLN; simpa using hLN q hq))))
    · have him : i = m := by
        rcases Nat.lt_or_ge i m with h | h
        · rw [hyes i h] at hd; cases hd
        · rcases Nat.eq_or_lt_of_le h with h | h
          · exact h.symm
          · have := hprev (by omega)
            rw [hno (i - 1) (by omega) (by omega)] at this; cases this
      subst him
      exact run (by omega) hyes hno htw
  · rintro d x w hall ⟨hcl, hJ⟩
    rw [hFF x]
    rcases hJ with ⟨hno, -, -⟩ | ⟨m, hNm, hms, hyes, hno, htw⟩
    · have := hno N (Nat.le_refl _) t4
      rw [hall N t4] at this; cases this
    · have : m = ops.size := by
        rcases Nat.eq_or_lt_of_le hms with h | h
        · exact h
        · have := hno m (Nat.le_refl _) h
          rw [hall m h] at this; cases this
      subst this
      rw [List.drop_of_length_le (by simp)] at htw
      exact htw
end
end Go.Proofs.YteaeplceahdioaaDoor
namespace Go.Proofs.YteaeplceahdioaaDoor
open Go.RowKit
set_option linter.unusedVariables false
set_option linter.unusedSimpArgs false
theorem Cs.mid {w : World} {b : Nat} {vs : List Value} (h : Cs w b vs) (news : List Value) (hl : news.length = vs.length) : Cs (w.setCells b 0 news) b news := by
  obtain ⟨k1, k2⟩ := setCells_heap w b news 0
  refine ⟨by rw [k1]; exact h.1, fun j hj => ⟨?_, by rw [World.frozen?_setCells]; exact (h.2 j (by omega)).2⟩⟩
  have := World.cell?_setCells_in b news 0 w (fun i hi => by rw [Nat.zero_add, (h.2 i (by omega)).1]; rfl) j hj
  rwa [Nat.zero_add] at this
theorem Cs.there {w : World} {b : Nat} {vs : List Value} (h : Cs w b vs) (n : Nat) (hn : vs.length = n) : w.there b 0 n := fun j hj => by
  rw [Nat.zero_add]; exact ⟨by rw [(h.2 j (by omega)).1]; rfl, (h.2 j (by omega)).2⟩
theorem Cs.range {w : World} {b : Nat} {vs : List Value} (h : Cs w b vs) : w.rangeAt b 0 vs := fun j v hv => by
  obtain ⟨hj, e⟩ := List.getElem?_eq_some_iff.1 hv
  rw [Nat.zero_add, ← e]; exact (h.2 j hj).1
theorem Cs.part {w : World} {b : Nat} {vs : List Value} (h : Cs w b vs) (o n : Nat) (cs : List Value) (hc : (vs.drop o).take n = cs := by rfl) : w.rangeAt b o cs := fun j v hv => by
  rw [← hc, List.getElem?_take] at hv
  split at hv
  · rw [List.getElem?_drop] at hv
    exact h.get _ _ hv
  · cases hv
theorem tail_cons {P : Program} {Q : Exit → Act → World → Prop} (o : Oper) (os : List Oper) (a : Act) (w : World) : tailWp P Q (o :: os) a w = Oper.wp P o a w (fun a' w' => ∃ v, a' = a.put o.dst v ∧ tailWp P Q os a' w') Q := rfl
theorem tail_nil {P : Program} {Q : Exit → Act → World → Prop} (a : Act) (w : World) : tailWp P Q [] a w = Q .normal a w := rfl
theorem results_cell1 {fn : Func} {p : Tmp} {ty : TypeId} (h : fn.results = #[.cell p ty]) (tmps : Array Value) (P : Program) (w : World) (b o : Nat) (cs : List Value) (d : TypeDesc) (hp : tmps.getD p undef = .pointer (some ⟨b, o, none⟩)) (hc : w.rangeAt b o cs)
    (hu : P.underlying ty = some d) (hd : d.isRow = true) (hi : (P.info? ty).map (·.size) = some cs.length) : (results fn tmps).run P w = .ok (.agg cs.toArray) w := by
  have hp2 : tmps[p]?.getD undef = .pointer (some ⟨b, o, none⟩) := by rw [← hp, Array.getD_eq_getD_getElem?]
  simp only [results, h]
  simp [Sem.run_bind, Result.andThen, hp2, asAddr, run_loadVar_mid w b o ty cs d hc hu hd hi]
end Go.Proofs.YteaeplceahdioaaDoor
namespace Go.Proofs.YteaeplceahdioaaDoor
open Go.RowKit
set_option linter.unusedVariables false
set_option linter.unusedSimpArgs false
set_option maxRecDepth 20000
attribute [local simp] putsF isV wordOf Deps Region.binds Region.wanted Act.put wantedX isB
theorem wp_binop {P : Program} {o : Oper} {a : Act} {w : World} {K : Act → World → Prop} {Q : Exit → Act → World → Prop} (k : BinOp) (t t' : TypeId) (x y : Operand) (ho : o.op = .binOp k t x y t') {vx vy v : Value} (hx : a.eval x = vx) (hy : a.eval y = vy)
    (hg : (eqGuard k t x y vx vy).run P w = .ok () w) (hr : (binOp k t vx vy).run P w = .ok v w) (h : K (a.put o.dst v) w) : Oper.wp P o a w K Q := by
  unfold Oper.wp execOp
  simp only [ho, hx, hy, hr, hg, Sem.run_bind, Sem.run_pure, Result.andThen_ok]
  exact h
def soaB (r : RecT) : Bool := r.2.1 == 6
/-- How often a record stands among others. -/
def cntR (a : RecT) (rs : List RecT) : Nat := (rs.filter fun r => eqB r a).length
theorem cntR_next (a : RecT) {rs : List RecT} {k : Nat} {r : RecT} (hr : rs[k]? = some r) : cntR a (rs.take (k + 1)) = cntR a (rs.take k) + (if eqB r a then 1 else 0) := by
  unfold cntR
  rw [List.take_add_one, hr, Option.toList_some, List.filter_append, List.length_append]
  cases h : eqB r a <;> simp [h]
theorem cntR_le (a : RecT) (rs : List RecT) : cntR a rs ≤ rs.length := List.length_filter_le _ _
/-- Is a transfer all there? -/
def doneR : List RecT → Bool
  | [] => false
  | [_] => true
  | a :: b :: t => if (soaB b && !(eqB b a)) = true then decide (3 ≤ cntR a (a :: b :: t)) else decide (2 ≤ cntR a (a :: b :: t))
theorem Recs.range {w : World} {A : Option Addr} {rs : List RecT} (h : Recs w A rs) {i : Nat} {r : RecT} (hr : rs[i]? = some r) : ∃ b off, A = some ⟨b, off, none⟩ ∧ b < w.heap.size ∧ w.rangeAt b (off + i * 4) (recCells r) := by
  obtain ⟨b, off, hA, hb, g0, g1, g2, g3⟩ := h i r hr
  refine ⟨b, off, hA, hb, fun j v hv => ?_⟩
  unfold recCells at hv
  match j, hv with
  | 0, hv => simp at hv; subst hv; exact g0
  | 1, hv => simp at hv; subst hv; exact g1
  | 2, hv => simp at hv; subst hv; exact g2
  | 3, hv => simp at hv; subst hv; exact g3
  | j + 4, hv => simp at hv
end Go.Proofs.YteaeplceahdioaaDoor
namespace Go.Proofs.YteaeplceahdioaaDoor
open Go.RowKit
set_option linter.unusedVariables false
set_option linter.unusedSimpArgs false
set_option maxRecDepth 20000
set_option maxHeartbeats 800000 in
theorem make7_gen (A : Option Addr) (n c : Nat) (zs : List Int) (w : World) (hA : Sl w w.heap.size 1 A n (zs.map (Value.int .u8))) (hz : ∀ z ∈ zs, 0 ≤ z ∧ z < 256) (hn : n ≤ 140737488355328) (s r y e : Nat) (hs : s < 4294967296) (hr : r < 256) (hy : y < 256) (he : e < 256) :
    Calls Tryd.prog 29 #[.slice A n c, .int .u32 s, .int .u8 r, .int .u8 y, .int .u8 e] w fun ex w' => ex = .returned (sv (dataL (nameZ zs) (nameZ zs) [s, r, y, e, 1])) ∧ Below w.heap.size w w' := by
  have NA := Lib.hid (name_any A n c zs w hA hz (by unfold maxLen; omega))
  have lN := nameZ_len zs hz
  generalize nameZ zs = X at *
  obtain ⟨N, hN⟩ : ∃ N, N = ByteArray.mk X.toArray := ⟨_, rfl⟩
  have nX : N.data.toList = X := by rw [hN, mk_toList]
  have sN : N.size ≤ 84 := by rw [hN, mk_size]; exact lN
  unfold sv at NA
  rw [← hN] at NA
  have i1 : IntKind.u32.wrap (r : Int) = r := by rw [IntKind.wrap_u32']; omega
  have i2 : IntKind.u32.wrap (y : Int) = y := by rw [IntKind.wrap_u32']; omega
  have i3 : IntKind.u32.wrap (e : Int) = e := by rw [IntKind.wrap_u32']; omega
  have q1 : ¬ 9223372036854775807 < N.size + 1 := by omega
  have q2 : ¬ 9223372036854775807 < N.size + 1 + N.size := by omega
  have q3 : ¬ 9223372036854775807 < N.size + 1 + N.size + 1 := by omega
  have q4 : ¬ 9223372036854775807 < N.size + 1 + N.size + 1 + 20 := by omega
  clear hN hA hz lN
  go_enter Tryd.func29, Tryd.ntmps29
  go_wp2_with fail
  refine NA.out.mono ?_
  rintro ex w1 ⟨rfl, hb1⟩
  clear NA
  go_wp2_with fail
  refine (put32_any none 0 0 [] _ 5 5 [s, r, y, e, 1] _ (Sl.nil _ _ _ _) (fun _ => ⟨rfl, rfl⟩) (Sl.fresh _ _ _ _ _ rfl rfl) (by simp; omega) (by omega)).mono ?_
  rintro ex w3 ⟨g, rfl, hown, hb3⟩
  have hB3 := below_alloc _ hb1 hb1.size hb3
  have hcv := run_string_own (P := Tryd.prog) w3 45 9 5 _ _ _ _ _ Tryd.underlying45 Tryd.underlying5 Tryd.underlying9 hown
  have hlT : ([] ++ List.flatMap b32 [s, r, y, e, 1]).length = 20 := by rw [List.nil_append, b32_len]; rfl
  obtain ⟨L, hL⟩ : ∃ L, [] ++ List.flatMap b32 [s, r, y, e, 1] = L := ⟨_, rfl⟩
  rw [hL] at hcv hlT
  obtain ⟨T, hT⟩ : ∃ T, T = (ByteArray.mk L.toArray) := ⟨_, rfl⟩
  rw [← hT] at hcv
  have sT : T.size = 20 := by rw [hT, mk_size]; exact hlT
  have hfin : Value.string (N ++ ⟨#[0]⟩ ++ N ++ ⟨#[0]⟩ ++ T) = sv (dataL X X [s, r, y, e, 1]) := by
    rw [hT, ← hL, sv_append]
    unfold sv dataL
    simp [nX]
  have HF := Lib.hid hfin
  have q5 : ¬ 9223372036854775807 < (N ++ ⟨#[0]⟩ ++ N ++ ⟨#[0]⟩ : ByteArray).size + T.size := by simp only [ByteArray.size_append]; show ¬ _ < N.size + 1 + N.size + 1 + T.size; omega
  have q6 : ¬ 9223372036854775807 < N.size + 1 + N.size + 1 + T.size := by omega
  clear hown hT hL hlT hfin sT nX
  go_wp2_with fail
  go_ret
  exact ⟨by rw [← HF.out]; rfl, hB3⟩

/-- The data of a zone's SOA of a serial number. -/
def soaD (n : Nat) : ByteArray := ⟨(dataL (nameZ []) (nameZ []) [n, 10, 3, 40, 1]).toArray⟩
/-- A zone's SOA. -/
def soaR (o : ByteArray) (n : Nat) : RecT := (o, 6, 9, soaD n)
/-- A zone's name, by a number. -/
def originB (n : Nat) : ByteArray := ⟨(nameZ [((n % 6 : Nat) : Int)]).toArray⟩
set_option maxHeartbeats 1600000 in
theorem soa9_any (o : ByteArray) (n : Nat) (hn : n < 4294967296) (w : World) : Calls Tryd.prog 12 #[.string o, .int .u32 (n : Nat)] w fun e w' => e = .returned (recV (soaR o n)) ∧ Below w.heap.size w w' := by
  have MK : Hid (∀ w, Calls Tryd.prog 29 #[.slice none 0 0, .int .u32 (n : Nat), .int .u8 10, .int .u8 3, .int .u8 40] w fun e w' => e = .returned (.string (soaD n)) ∧ Below w.heap.size w w') :=
    Lib.hid (fun w => make7_gen none 0 0 [] w (Sl.nil _ _ _ _) (by simp) (by omega) n 10 3 40 hn (by omega) (by omega) (by omega))
  unfold soaR recV
  simp only
  generalize soaD n = D at *
  have hb := (Below.refl w.heap.size w).alloc (Nat.le_refl _) (.cells #[.string ⟨#[]⟩, .int .u16 0, .int .u32 0, .string ⟨#[]⟩] 32)
  have hC := Cs.new w #[.string ⟨#[]⟩, .int .u16 0, .int .u32 0, .string ⟨#[]⟩] 32 [.string ⟨#[]⟩, .int .u16 0, .int .u32 0, .string ⟨#[]⟩]
  have H0 := Lib.hid (And.intro hb hC)
  clear hb hC
  go_enter Tryd.func12, Tryd.ntmps12
  go_wp2_with fail
  refine (MK.out _).mono ?_
  rintro e w1 ⟨rfl, hb1⟩
  have hC1 := H0.out.2.below hb1
  have HTH := Lib.hid (hC1.there 4 rfl)
  have HM := Lib.hid (hC1.mid [.string o, .int .u16 6, .int .u32 9, .string D] rfl)
  have HBM := Lib.hid (below_setCells' (B := w.heap.size) (g := w.heap.size) (Nat.le_refl _) [.string o, .int .u16 6, .int .u32 9, .string D] 0 (below_trans H0.out.1 H0.out.1.size hb1))
  clear hb1 hC1
  go_wp2_with (first | refine wpList_store_mid rfl 32 _ _ rfl w.heap.size 0 #[.string o, .int .u16 6, .int .u32 9, .string D] rfl rfl HTH.out (by kernel_rfl) (by simp [Value.oneCell']) ?_)
  exact bodyPost_ret (v := .agg #[.string o, .int .u16 6, .int .u32 9, .string D]) (results_cell1 Tryd.results12 _ _ _ w.heap.size 0 _ _ rfl HM.out.range Tryd.underlying32 rfl (by kernel_rfl)) rfl ⟨rfl, HBM.out⟩
set_option maxHeartbeats 1600000 in
theorem origin_any (n : Nat) (hn : n < 256) (w : World) : Calls Tryd.prog 10 #[.int .u8 (n : Nat)] w fun e w' => e = .returned (.string (originB n)) ∧ Below w.heap.size w w' := by
  have hm : (n : Int).tmod 6 = ((n % 6 : Nat) : Int) := by rw [Int.tmod_eq_emod_of_nonneg (by omega)]; omega
  have NM : Hid (Calls Tryd.prog 26 #[.slice (some ⟨w.heap.size, 0, none⟩) 1 1] (w.alloc (.cells #[.int .u8 ((n % 6 : Nat) : Int)] 5)) fun e w' => e = .returned (.string (originB n)) ∧ Below (w.alloc (.cells #[.int .u8 ((n % 6 : Nat) : Int)] 5)).heap.size (w.alloc (.cells #[.int .u8 ((n % 6 : Nat) : Int)] 5)) w') :=
    Lib.hid (name_any (some ⟨w.heap.size, 0, none⟩) 1 1 [((n % 6 : Nat) : Int)] _ (Sl.fresh _ _ _ 1 _ rfl rfl) (by intro z hz; rw [List.mem_singleton] at hz; subst hz; omega) (by decide))
  generalize originB n = O at *
  obtain ⟨q, hq⟩ : ∃ q : Nat, q = n % 6 := ⟨_, rfl⟩
  rw [← hq] at hm NM
  clear hq
  go_enter Tryd.func10, Tryd.ntmps10
  go_wp2_with fail
  refine NM.out.mono ?_
  rintro e w1 ⟨rfl, hb1⟩
  have HB := Lib.hid (below_alloc _ (Below.refl w.heap.size w) (Nat.le_refl _) hb1)
  clear hb1
  go_wp2_with fail
  go_ret
  exact ⟨rfl, HB.out⟩
end Go.Proofs.YteaeplceahdioaaDoor
namespace Go.Proofs.YteaeplceahdioaaDoor
open Go.RowKit
set_option linter.unusedVariables false

/-! ### Join -/
def joinOf (s t : ByteArray) : Option ByteArray := if (labelsOf s).isSome = true ∧ (labelsOf t).isSome = true ∧ s.size + t.size ≤ 254 then some (s ++ t) else none
def strOf (o : Option ByteArray) : ByteArray := o.getD ⟨#[]⟩
theorem may_size {s : ByteArray} (h : (labelsOf s).isSome = true) : s.size ≤ 254 := by
  unfold labelsOf nameLabels at h
  split at h
  · simpa using ‹_›
  · cases h
set_option maxHeartbeats 1600000 in
theorem join_any (s t : ByteArray) (w : World) (hs : s.size ≤ maxLen) (ht : t.size ≤ maxLen) :
    Calls Tryd.prog 28 #[.string s, .string t] w fun e w' => e = .returned (.tuple #[.string (strOf (joinOf s t)), .bool (joinOf s t).isSome]) ∧ Below w.heap.size w w' := by
  have hms := fun w => may_any s w hs
  have hmt := fun w => may_any t w ht
  by_cases h : (labelsOf s).isSome = true ∧ (labelsOf t).isSome = true ∧ s.size + t.size ≤ 254
  · have hj : joinOf s t = some (s ++ t) := by unfold joinOf; rw [if_pos h]
    rw [hj]
    rw [h.1] at hms
    rw [h.2.1] at hmt
    have h3 : ¬ (254 : Int) < (s.size : Int) + t.size := by omega
    have h4 : s.size + t.size ≤ 254 := h.2.2
    have HS := Lib.hid hms
    have HT := Lib.hid hmt
    clear hms hmt h hj
    go_enter Tryd.func28, Tryd.ntmps28
    go_wp2_with fail
    refine (HS.out _).mono ?_
    rintro e w1 ⟨rfl, hb1⟩
    go_wp2_with fail
    refine (HT.out _).mono ?_
    rintro e w2 ⟨rfl, hb2⟩
    have hb := hb1.trans (hb2.mono hb1.size)
    clear hb1 hb2
    go_wp2_with fail
    go_ret2
    exact ⟨rfl, hb⟩
  · have hj : joinOf s t = none := by unfold joinOf; rw [if_neg h]
    rw [hj]
    have hc : (labelsOf s).isSome = false ∨ ((labelsOf s).isSome = true ∧ (labelsOf t).isSome = false) ∨ ((labelsOf s).isSome = true ∧ (labelsOf t).isSome = true ∧ 254 < s.size + t.size) := by
      cases h1 : (labelsOf s).isSome <;> cases h2 : (labelsOf t).isSome <;> simp
      rw [h1, h2] at h
      simp at h
      omega
    clear hj h
    rcases hc with h1 | ⟨h1, h2⟩ | ⟨h1, h2, h3⟩
    · rw [h1] at hms
      have HS := Lib.hid hms
      clear hms h1 hmt
      go_enter Tryd.func28, Tryd.ntmps28
      go_wp2_with fail
      refine (HS.out _).mono ?_
      rintro e w1 ⟨rfl, hb1⟩
      go_wp2_with fail
      go_ret2
      exact ⟨rfl, hb1⟩
    · rw [h1] at hms
      rw [h2] at hmt
      have HS := Lib.hid hms
      have HT := Lib.hid hmt
      clear hms h1 hmt h2
      go_enter Tryd.func28, Tryd.ntmps28
      go_wp2_with fail
      refine (HS.out _).mono ?_
      rintro e w1 ⟨rfl, hb1⟩
      go_wp2_with fail
      refine (HT.out _).mono ?_
      rintro e w2 ⟨rfl, hb2⟩
      have hb := hb1.trans (hb2.mono hb1.size)
      clear hb1 hb2
      go_wp2_with fail
      go_ret2
      exact ⟨rfl, hb⟩
    · have ms := may_size h1
      have mt := may_size h2
      rw [h1] at hms
      rw [h2] at hmt
      have h3' : (254 : Int) < (s.size : Int) + t.size := by omega
      have HS := Lib.hid hms
      have HT := Lib.hid hmt
      clear hms h1 hmt h2
      go_enter Tryd.func28, Tryd.ntmps28
      go_wp2_with fail
      refine (HS.out _).mono ?_
      rintro e w1 ⟨rfl, hb1⟩
      go_wp2_with fail
      refine (HT.out _).mono ?_
      rintro e w2 ⟨rfl, hb2⟩
      have hb := hb1.trans (hb2.mono hb1.size)
      clear hb1 hb2
      go_wp2_with fail
      go_ret2
      exact ⟨rfl, hb⟩
/-! ### Parent -/
def parentOf (s : ByteArray) : Option (List UInt8) := match labelsOf s with | some (_ :: ls) => some (wire ls) | _ => none
end Go.Proofs.YteaeplceahdioaaDoor
namespace Go.Proofs.YteaeplceahdioaaDoor
open Go.RowKit
set_option linter.unusedVariables false
set_option linter.unusedSimpArgs false
set_option maxRecDepth 20000
/-- A name below another one; that one, where it is too long. -/
def underN (o s : ByteArray) : ByteArray := if (joinOf s o).isSome = true then strOf (joinOf s o) else o
/-- A record below a name. -/
def underR (o : ByteArray) (soas : Bool) (a : ActT) : RecT :=
  if ((recOf a).2.1 == 6) = true then (if soas = true then soaR o (a.2.2.1.toNat % 6) else (o, 16, a.2.2.1, ⟨#[1, 120]⟩)) else (underN o (recOf a).1, (recOf a).2.1, (recOf a).2.2.1, (recOf a).2.2.2)
def undersOf (o : ByteArray) (soas : Bool) (ds : List ActT) (most : Nat) : List RecT := (ds.take most).map (underR o soas)
theorem undersOf_len (o : ByteArray) (s : Bool) (ds : List ActT) (most : Nat) : (undersOf o s ds most).length = min most ds.length := by unfold undersOf; simp
theorem undersOf_next {o : ByteArray} {s : Bool} {ds : List ActT} {most k : Nat} {a : ActT} (hk : k < most) (ha : ds[k]? = some a) : undersOf o s (ds.take (k + 1)) most = undersOf o s (ds.take k) most ++ [underR o s a] := by
  unfold undersOf
  rw [List.take_take, List.take_take, Nat.min_eq_right (by omega), Nat.min_eq_right (by omega), List.take_add_one, ha]
  simp
theorem recCells_one (r : RecT) : ∀ u ∈ recCells r, u.oneCell' = true := by
  intro u hu
  unfold recCells at hu
  simp at hu
  rcases hu with rfl | rfl | rfl | rfl <;> rfl
theorem rec_zero : (Tryd.prog.info? 32).map (fun i => (i.zero, i.size, i.bytes)) = some (some (.agg #[.string ⟨#[]⟩, .int .u16 0, .int .u32 0, .string ⟨#[]⟩]), 4, 40) := by kernel_rfl
set_option maxHeartbeats 6400000 in
theorem under_any (o : ByteArray) (A : Option Addr) (n c most : Nat) (soas : Bool) (ds : List ActT) (w : World) (h : ActsAt w A n ds) (hn : n ≤ maxLen) (hm : most ≤ 1000) (ho : o.size ≤ maxLen) :
    Calls Tryd.prog 11 #[.string o, .slice A n c, .int .i64 (most : Nat), .bool soas] w fun e w' => ∃ v, e = .returned v ∧ OBM 4 w.heap.size w v (undersOf o soas ds most).length (flatR (undersOf o soas ds most)) w' := by
  unfold maxLen at hn
  have hl := h.len
  obtain ⟨i0, hi, hz0, hz1, hz2⟩ := info_parts4 rec_zero
  have H := Lib.hid h
  have HL := Lib.hid hl
  have HO0 := Lib.hid ho
  have HMOST := Lib.hid hm
  clear h hl ho
  go_enter Tryd.func11, Tryd.ntmps11
  go_wp2_with fail
  go_loopw [9, 17] (fun v i wr => ∃ k : Nat, k ≤ n ∧ k ≤ most ∧ i = .int .i64 k ∧ Hid (OBM 4 w.heap.size w v (undersOf o soas (ds.take k) most).length (flatR (undersOf o soas (ds.take k) most)) wr)) (fun _ i _ => n - (intOf i).toNat)
  case atStart => exact ⟨0, Nat.zero_le _, Nat.zero_le _, rfl, Lib.hid (by have := OBM.start (sz := 4) w; simpa [undersOf, flatR] using this)⟩
  case round =>
    obtain ⟨k, hk, hkm, rfl, HB⟩ := hrel
    by_cases hlt : k < n
    · have hlt' : (k : Int) < n := by omega
      obtain ⟨a, ha⟩ : ∃ r, ds[k]? = some r := ⟨_, List.getElem?_eq_getElem (by rw [HL.out]; omega)⟩
      have hA := H.out.below (HB.out.bel)
      obtain ⟨b, off, rfl, hb, g0, g1, g2, g3, g4⟩ := hA.cells k a ha
      have hok := hA.ok a (List.mem_of_getElem? ha)
      unfold rowV at g0 g3
      by_cases hkeq : k = most
      · have hki : ((k : Int) == (most : Int)) = true := by rw [beq_iff_eq]; omega
        have hend : undersOf o soas (ds.take k) most = undersOf o soas ds most := by
          unfold undersOf
          rw [List.take_take, Nat.min_eq_right (by omega), hkeq]
        have HE := Lib.hid hend
        clear hA hok ha hend
        subst hkeq
        go_wp2_with fail
        go_ret
        have := HB.out.alloc (.cells #[.slice a.1.1 a.1.2.1 a.1.2.2.1, .int .u8 a.2.1, .int .u32 a.2.2.1, .slice a.2.2.2.1.1 a.2.2.2.1.2.1 a.2.2.2.1.2.2.1, .string a.2.2.2.2] 50)
        rw [HE.out] at this
        exact ⟨_, rfl, this⟩
      · have hki : ((k : Int) == (most : Int)) = false := by rw [beq_eq_false_iff_ne]; omega
        have hkm' : k < most := by omega
        have hnx := undersOf_next (o := o) (s := soas) hkm' ha
        have RC := Lib.hid (fun w h => record_any a w h)
        unfold actA rowV at RC
        have hun : underR o soas a = underR o soas a := rfl
        unfold underR at hun
        have HNX := Lib.hid hnx
        have HOK := Lib.hid hok
        have hlen := undersOf_len o soas (ds.take k) most
        have HL2 := Lib.hid (show (undersOf o soas (ds.take k) most).length ≤ 1000 by omega)
        have hT := hok.t
        have hrn : (recOf a).1.size ≤ maxLen := by unfold recOf nmB; rw [mk_size]; exact Nat.le_trans (nameZ_le _ (intsB_ok _)) (by decide)
        clear hA hok ha hnx hlen hun
        generalize hrs : undersOf o soas (ds.take k) most = rs at *
        clear hrs
        obtain ⟨TT, hTT⟩ : ∃ t : Nat, a.2.2.1 = t := ⟨a.2.2.1.toNat, by omega⟩
        obtain ⟨r, hr⟩ : ∃ r, recOf a = r := ⟨_, rfl⟩
        obtain ⟨ur, hur⟩ : ∃ u, u = underR o soas a := ⟨_, rfl⟩
        have HUR : Hid (ur = if (r.2.1 == 6) = true then (if soas = true then soaR o (TT % 6) else (o, 16, (TT : Int), ⟨#[1, 120]⟩)) else (underN o r.1, r.2.1, r.2.2.1, r.2.2.2)) := Lib.hid (by rw [hur, ← hr]; unfold underR; rw [hTT]; simp)
        rw [hr] at RC hrn
        have HR0S := Lib.hid hrn
        clear hrn
        rw [← hur] at HNX
        rw [hTT] at g2 hT RC
        have hT2 : TT < 4294967296 := by omega
        clear hr hur hTT hT
        obtain ⟨r0, r1, r2, r3⟩ := r
        unfold recV at RC
        simp only at RC HUR HR0S
        go_wp2_with fail
        refine (RC.out _ (HOK.out.below ((Below.refl _ _).alloc (Nat.le_refl _) _))).mono ?_
        rintro e w2 ⟨rfl, hb2⟩
        have hbA : Below wr.heap.size wr w2 := below_alloc _ (Below.refl _ _) (Nat.le_refl _) hb2
        have hCA := (Cs.new wr #[.slice a.1.1 a.1.2.1 a.1.2.2.1, .int .u8 a.2.1, .int .u32 (TT : Nat), .slice a.2.2.2.1.1 a.2.2.2.1.2.1 a.2.2.2.1.2.2.1, .string a.2.2.2.2] 50 [.slice a.1.1 a.1.2.1 a.1.2.2.1, .int .u8 a.2.1, .int .u32 (TT : Nat), .slice a.2.2.2.1.1 a.2.2.2.1.2.1 a.2.2.2.1.2.2.1, .string a.2.2.2.2]).below hb2
        have hC2 := Cs.new w2 #[.string r0, .int .u16 r1, .int .u32 r2, .string r3] 32 [.string r0, .int .u16 r1, .int .u32 r2, .string r3]
        have hCA2 := hCA.alloc (.cells #[.string r0, .int .u16 r1, .int .u32 r2, .string r3] 32)
        have hb3 := hbA.alloc hbA.size (.cells #[.string r0, .int .u16 r1, .int .u32 r2, .string r3] 32)
        have hr0s : r0.size ≤ maxLen := HR0S.out
        have JN := Lib.hid (fun w => join_any r0 o w hr0s HO0.out)
        have H3 := Lib.hid (And.intro hC2 (And.intro hCA2 hb3))
        have HG := Lib.hid (show wr.heap.size < w2.heap.size by have := hCA.lt; exact this)
        clear hb2 hbA hCA hC2 hCA2 hb3 hr0s g0 g1 g2 g3 g4
        go_upto_region 7 with fail
        obtain ⟨hC2, hCA2, hb3⟩ := H3.out
        generalize w2.alloc (.cells #[.string r0, .int .u16 r1, .int .u32 r2, .string r3] 32) = w3 at *
        obtain ⟨g12, hg12⟩ : ∃ g, g = w2.heap.size := ⟨_, rfl⟩
        obtain ⟨g11, hg11⟩ : ∃ g, g = wr.heap.size := ⟨_, rfl⟩
        have hgg := HG.out
        rw [← hg12] at hC2 hgg ⊢
        rw [← hg11] at hCA2 hgg ⊢
        have HG12 : Hid (wr.heap.size ≤ g12) := Lib.hid (by omega)
        have HNE : Hid (g11 ≠ g12) := Lib.hid (by omega)
        have HC3 := Lib.hid (And.intro hC2 (And.intro hCA2 hb3))
        have c0 := hC2.get 0 _
        clear hC2 hCA2 hb3 hg12 hg11 hgg H3
        go_wp2_with fail
        refine (JN.out _).mono ?_
        rintro e w4 ⟨rfl, hb4⟩
        clear c0
        have hC4 := HC3.out.1.below hb4
        have hA4 := HC3.out.2.1.below hb4
        have hB4 := HC3.out.2.2.trans (hb4.mono HC3.out.2.2.size)
        have c0 := hC4.get 0 _
        have f0 := hC4.froz 0 (by simp)
        obtain ⟨JS, hJS⟩ : ∃ x, x = strOf (joinOf r0 o) := ⟨_, rfl⟩
        rw [← hJS]
        have HJS := Lib.hid hJS
        clear hJS hb4
        cases hjb : (joinOf r0 o).isSome with
        | true =>
          have HJB := Lib.hid hjb
          have HC5 := Lib.hid (And.intro (hC4.set' 0 (.string JS) (by simp)) (And.intro (hA4.other g12 0 (.string JS) HNE.out.symm) (hB4.setCell (p := ⟨g12, 0, none⟩) HG12.out (.string JS))))
          have HC5 : Hid (Cs (w4.setCell ⟨g12, 0, none⟩ (.string JS)) g12 [.string JS, .int .u16 r1, .int .u32 r2, .string r3] ∧ Cs (w4.setCell ⟨g12, 0, none⟩ (.string JS)) g11 [.slice a.1.1 a.1.2.1 a.1.2.2.1, .int .u8 a.2.1, .int .u32 (TT : Nat), .slice a.2.2.2.1.1 a.2.2.2.1.2.1 a.2.2.2.1.2.2.1, .string a.2.2.2.2] ∧ Below wr.heap.size wr (w4.setCell ⟨g12, 0, none⟩ (.string JS))) := HC5
          clear hC4 hA4 hB4 hjb
          go_upto_region 11 with fail
          generalize w4.setCell ⟨g12, 0, none⟩ (.string JS) = w5 at *
          have hC := HC5.out.1
          have hB5 := HC5.out.2.2
          have c1 := hC.get 1 _
          have c2 := HC5.out.2.1.get 2 _
          have hun : underN o r0 = JS := by unfold underN; rw [HJB.out, if_pos rfl, HJS.out]
          have HUN := Lib.hid hun
          clear hun f0 c0
          cases hq6 : (r1 == 6) with
          | false =>
            have hur : ur = (JS, r1, r2, r3) := by rw [HUR.out, hq6, HUN.out]; rfl
            clear c2
            go_upto_region 15 with fail
            have HRX := Lib.hid hC.range
            have ho := Lib.hid ((HB.out.keep hB5 (Nat.le_refl _)).alloc (.cells #[.string JS, .int .u16 r1, .int .u32 r2, .string r3] 32))
            have hS : Hid (Src Tryd.prog 4 26 (.slice (some ⟨w5.heap.size, 0, none⟩) 1 1) 1 [.string JS, .int .u16 r1, .int .u32 r2, .string r3] (w5.alloc (.cells #[.string JS, .int .u16 r1, .int .u32 r2, .string r3] 32))) := by
              refine Lib.hid (Src.ofSlice _ Tryd.underlying26 _ 1 1 _ rfl ?_ (recCells_one (JS, r1, r2, r3)))
              exact news_at w5 #[.string JS, .int .u16 r1, .int .u32 r2, .string r3] _
            have hfl : flatR (rs ++ [ur]) = flatR rs ++ [.string JS, .int .u16 r1, .int .u32 r2, .string r3] := by rw [flatR_snoc, hur]; rfl
            have HFL := Lib.hid hfl
            clear hC hfl hur
            go_wp2_with (first | (at_builtin; go_loud (refine wpList_append_obm rfl _ _ 26 26 rfl 32 i0 _ 40 Tryd.underlying26 hi hz0 hz1 hz2 rfl ho.out rfl rfl hS.out rfl (by have := HL2.out; unfold maxLen; omega) (by have := HL2.out; omega) ?_)) | refine wpList_load_mid rfl 32 _ rfl g12 0 rfl _ _ HRX.out Tryd.underlying32 rfl (by kernel_rfl) ?_)
            intro v' w' q1 q2 q3 q4
            have Q1 := Lib.hid q1
            clear q1 q2 q3 q4
            go_wp2_with fail
            go_round
            case rel => exact ⟨k + 1, by omega, by omega, by go_num, Lib.hid (by rw [HNX.out, HFL.out, List.length_append]; exact Q1.out)⟩
            case measure => simp [intOf]; omega
          | true =>
            have hq6' := hq6
            rw [beq_iff_eq] at hq6'
            have HQ6 := Lib.hid hq6
            have SO : Hid (∀ w, Calls Tryd.prog 12 #[.string o, .int .u32 ((TT % 6 : Nat) : Int)] w fun e w' => e = .returned (.agg #[.string o, .int .u16 6, .int .u32 9, .string (soaD (TT % 6))]) ∧ Below w.heap.size w w') := Lib.hid (fun w => soa9_any o (TT % 6) (by omega) w)
            have htm : (TT : Int).tmod 6 = ((TT % 6 : Nat) : Int) := by rw [Int.tmod_eq_emod_of_nonneg (by omega)]; omega
            obtain ⟨D, hD⟩ : ∃ d, d = soaD (TT % 6) := ⟨_, rfl⟩
            obtain ⟨tm, htq⟩ : ∃ t : Nat, t = TT % 6 := ⟨_, rfl⟩
            rw [← hD] at SO
            rw [← htq] at SO htm
            have HD := Lib.hid hD
            have H5 := Lib.hid hC
            have HBB5 := Lib.hid hB5
            have HA5 := Lib.hid HC5.out.2.1
            clear hD htq hq6' hC hB5
            go_wp2_with fail
            refine (SO.out _).mono ?_
            rintro e w6 ⟨rfl, hb6⟩
            have hC6 := H5.out.below hb6
            have HTH := Lib.hid (hC6.there 4 rfl)
            have hM := hC6.mid [.string o, .int .u16 6, .int .u32 9, .string D] rfl
            have hb7 := below_setCells' (B := wr.heap.size) (g := g12) HG12.out [.string o, .int .u16 6, .int .u32 9, .string D] 0 (HBB5.out.trans (hb6.mono HBB5.out.size))
            have H7 := Lib.hid (And.intro hM (And.intro hb7 (HA5.out.below hb6)))
            clear hC6 hM hb7 hb6 c1 c2 htm
            go_upto_region 13 with (first | refine wpList_store_mid rfl 32 _ _ rfl g12 0 #[.string o, .int .u16 6, .int .u32 9, .string D] rfl rfl HTH.out (by kernel_rfl) (by simp [Value.oneCell']) ?_)
            obtain ⟨hC, hB7, hA6⟩ := H7.out
            have hA7 : Cs (w6.setCells g12 0 [.string o, .int .u16 6, .int .u32 9, .string D]) g11 [.slice a.1.1 a.1.2.1 a.1.2.2.1, .int .u8 a.2.1, .int .u32 (TT : Nat), .slice a.2.2.2.1.1 a.2.2.2.1.2.1 a.2.2.2.1.2.2.1, .string a.2.2.2.2] := hA6.block ((setCells_heap w6 g12 [.string o, .int .u16 6, .int .u32 9, .string D] 0).2 g11 HNE.out) (by rw [(setCells_heap w6 g12 [.string o, .int .u16 6, .int .u32 9, .string D] 0).1]; exact Nat.le_refl _)
            generalize w6.setCells g12 0 [.string o, .int .u16 6, .int .u32 9, .string D] = w7 at *
            have HQD := Lib.hid (show soaR o (TT % 6) = (o, 6, 9, D) by rw [HD.out]; rfl)
            cases soas with
            | true =>
              have hur : ur = (o, 6, 9, D) := by rw [HUR.out, HQ6.out, if_pos rfl, if_pos rfl, HQD.out]
              clear hA6 hA7
              go_upto_region 15 with fail
              have HRX := Lib.hid hC.range
              have ho := Lib.hid ((HB.out.keep hB7 (Nat.le_refl _)).alloc (.cells #[.string o, .int .u16 6, .int .u32 9, .string D] 32))
              have hS : Hid (Src Tryd.prog 4 26 (.slice (some ⟨w7.heap.size, 0, none⟩) 1 1) 1 [.string o, .int .u16 6, .int .u32 9, .string D] (w7.alloc (.cells #[.string o, .int .u16 6, .int .u32 9, .string D] 32))) := by
                refine Lib.hid (Src.ofSlice _ Tryd.underlying26 _ 1 1 _ rfl ?_ (recCells_one (o, 6, 9, D)))
                exact news_at w7 #[.string o, .int .u16 6, .int .u32 9, .string D] _
              have hfl : flatR (rs ++ [ur]) = flatR rs ++ [.string o, .int .u16 6, .int .u32 9, .string D] := by rw [flatR_snoc, hur]; rfl
              have HFL := Lib.hid hfl
              clear hC hfl hur
              go_wp2_with (first | (at_builtin; go_loud (refine wpList_append_obm rfl _ _ 26 26 rfl 32 i0 _ 40 Tryd.underlying26 hi hz0 hz1 hz2 rfl ho.out rfl rfl hS.out rfl (by have := HL2.out; unfold maxLen; omega) (by have := HL2.out; omega) ?_)) | refine wpList_load_mid rfl 32 _ rfl g12 0 rfl _ _ HRX.out Tryd.underlying32 rfl (by kernel_rfl) ?_)
              intro v' w' q1 q2 q3 q4
              have Q1 := Lib.hid q1
              clear q1 q2 q3 q4
              go_wp2_with fail
              go_round
              case rel => exact ⟨k + 1, by omega, by omega, by go_num, Lib.hid (by rw [HNX.out, HFL.out, List.length_append]; exact Q1.out)⟩
              case measure => simp [intOf]; omega
            | false =>
              have hur : ur = (o, 16, (TT : Int), ⟨#[1, 120]⟩) := by rw [HUR.out, HQ6.out]; rfl
              have HUX := Lib.hid hur
              have c2 := hA7.get 2 _
              have HTH2 := Lib.hid (hC.there 4 rfl)
              have hM := hC.mid [.string o, .int .u16 16, .int .u32 (TT : Nat), .string ⟨#[1, 120]⟩] rfl
              have hb8 := below_setCells' (B := wr.heap.size) (g := g12) HG12.out [.string o, .int .u16 16, .int .u32 (TT : Nat), .string ⟨#[1, 120]⟩] 0 hB7
              have H8 := Lib.hid (And.intro hM hb8)
              clear hC hB7 hA6 hA7 hM hb8 hur
              go_upto_region 15 with (first | refine wpList_store_mid rfl 32 _ _ rfl g12 0 #[.string o, .int .u16 16, .int .u32 (TT : Nat), .string ⟨#[1, 120]⟩] rfl rfl HTH2.out (by kernel_rfl) (by simp [Value.oneCell']) ?_)
              obtain ⟨hC, hB8⟩ := H8.out
              have hur := HUX.out
              generalize w7.setCells g12 0 [.string o, .int .u16 16, .int .u32 (TT : Nat), .string ⟨#[1, 120]⟩] = w8 at *
              clear c2
              have HRX := Lib.hid hC.range
              have ho := Lib.hid ((HB.out.keep hB8 (Nat.le_refl _)).alloc (.cells #[.string o, .int .u16 16, .int .u32 (TT : Nat), .string ⟨#[1, 120]⟩] 32))
              have hS : Hid (Src Tryd.prog 4 26 (.slice (some ⟨w8.heap.size, 0, none⟩) 1 1) 1 [.string o, .int .u16 16, .int .u32 (TT : Nat), .string ⟨#[1, 120]⟩] (w8.alloc (.cells #[.string o, .int .u16 16, .int .u32 (TT : Nat), .string ⟨#[1, 120]⟩] 32))) := by
                refine Lib.hid (Src.ofSlice _ Tryd.underlying26 _ 1 1 _ rfl ?_ (recCells_one (o, 16, (TT : Int), ⟨#[1, 120]⟩)))
                exact news_at w8 #[.string o, .int .u16 16, .int .u32 (TT : Nat), .string ⟨#[1, 120]⟩] _
              have hfl : flatR (rs ++ [ur]) = flatR rs ++ [.string o, .int .u16 16, .int .u32 (TT : Nat), .string ⟨#[1, 120]⟩] := by rw [flatR_snoc, hur]; rfl
              have HFL := Lib.hid hfl
              clear hC hfl hur
              go_wp2_with (first | (at_builtin; go_loud (refine wpList_append_obm rfl _ _ 26 26 rfl 32 i0 _ 40 Tryd.underlying26 hi hz0 hz1 hz2 rfl ho.out rfl rfl hS.out rfl (by have := HL2.out; unfold maxLen; omega) (by have := HL2.out; omega) ?_)) | refine wpList_load_mid rfl 32 _ rfl g12 0 rfl _ _ HRX.out Tryd.underlying32 rfl (by kernel_rfl) ?_)
              intro v' w' q1 q2 q3 q4
              have Q1 := Lib.hid q1
              clear q1 q2 q3 q4
              go_wp2_with fail
              go_round
              case rel => exact ⟨k + 1, by omega, by omega, by go_num, Lib.hid (by rw [HNX.out, HFL.out, List.length_append]; exact Q1.out)⟩
              case measure => simp [intOf]; omega
        | false =>
          have HJB := Lib.hid hjb
          have HC5 := Lib.hid (And.intro (hC4.set' 0 (.string o) (by simp)) (And.intro (hA4.other g12 0 (.string o) HNE.out.symm) (hB4.setCell (p := ⟨g12, 0, none⟩) HG12.out (.string o))))
          have HC5 : Hid (Cs (w4.setCell ⟨g12, 0, none⟩ (.string o)) g12 [.string o, .int .u16 r1, .int .u32 r2, .string r3] ∧ Cs (w4.setCell ⟨g12, 0, none⟩ (.string o)) g11 [.slice a.1.1 a.1.2.1 a.1.2.2.1, .int .u8 a.2.1, .int .u32 (TT : Nat), .slice a.2.2.2.1.1 a.2.2.2.1.2.1 a.2.2.2.1.2.2.1, .string a.2.2.2.2] ∧ Below wr.heap.size wr (w4.setCell ⟨g12, 0, none⟩ (.string o))) := HC5
          clear hC4 hA4 hB4 hjb
          go_upto_region 11 with fail
          generalize w4.setCell ⟨g12, 0, none⟩ (.string o) = w5 at *
          have hC := HC5.out.1
          have hB5 := HC5.out.2.2
          have c1 := hC.get 1 _
          have c2 := HC5.out.2.1.get 2 _
          have hun : underN o r0 = o := by unfold underN; rw [HJB.out]; rfl
          have HUN := Lib.hid hun
          clear hun f0 c0
          cases hq6 : (r1 == 6) with
          | false =>
            have hur : ur = (o, r1, r2, r3) := by rw [HUR.out, hq6, HUN.out]; rfl
            clear c2
            go_upto_region 15 with fail
            have HRX := Lib.hid hC.range
            have ho := Lib.hid ((HB.out.keep hB5 (Nat.le_refl _)).alloc (.cells #[.string o, .int .u16 r1, .int .u32 r2, .string r3] 32))
            have hS : Hid (Src Tryd.prog 4 26 (.slice (some ⟨w5.heap.size, 0, none⟩) 1 1) 1 [.string o, .int .u16 r1, .int .u32 r2, .string r3] (w5.alloc (.cells #[.string o, .int .u16 r1, .int .u32 r2, .string r3] 32))) := by
              refine Lib.hid (Src.ofSlice _ Tryd.underlying26 _ 1 1 _ rfl ?_ (recCells_one (o, r1, r2, r3)))
              exact news_at w5 #[.string o, .int .u16 r1, .int .u32 r2, .string r3] _
            have hfl : flatR (rs ++ [ur]) = flatR rs ++ [.string o, .int .u16 r1, .int .u32 r2, .string r3] := by rw [flatR_snoc, hur]; rfl
            have HFL := Lib.hid hfl
            clear hC hfl hur
            go_wp2_with (first | (at_builtin; go_loud (refine wpList_append_obm rfl _ _ 26 26 rfl 32 i0 _ 40 Tryd.underlying26 hi hz0 hz1 hz2 rfl ho.out rfl rfl hS.out rfl (by have := HL2.out; unfold maxLen; omega) (by have := HL2.out; omega) ?_)) | refine wpList_load_mid rfl 32 _ rfl g12 0 rfl _ _ HRX.out Tryd.underlying32 rfl (by kernel_rfl) ?_)
            intro v' w' q1 q2 q3 q4
            have Q1 := Lib.hid q1
            clear q1 q2 q3 q4
            go_wp2_with fail
            go_round
            case rel => exact ⟨k + 1, by omega, by omega, by go_num, Lib.hid (by rw [HNX.out, HFL.out, List.length_append]; exact Q1.out)⟩
            case measure => simp [intOf]; omega
          | true =>
            have hq6' := hq6
            rw [beq_iff_eq] at hq6'
            have HQ6 := Lib.hid hq6
            have SO : Hid (∀ w, Calls Tryd.prog 12 #[.string o, .int .u32 ((TT % 6 : Nat) : Int)] w fun e w' => e = .returned (.agg #[.string o, .int .u16 6, .int .u32 9, .string (soaD (TT % 6))]) ∧ Below w.heap.size w w') := Lib.hid (fun w => soa9_any o (TT % 6) (by omega) w)
            have htm : (TT : Int).tmod 6 = ((TT % 6 : Nat) : Int) := by rw [Int.tmod_eq_emod_of_nonneg (by omega)]; omega
            obtain ⟨D, hD⟩ : ∃ d, d = soaD (TT % 6) := ⟨_, rfl⟩
            obtain ⟨tm, htq⟩ : ∃ t : Nat, t = TT % 6 := ⟨_, rfl⟩
            rw [← hD] at SO
            rw [← htq] at SO htm
            have HD := Lib.hid hD
            have H5 := Lib.hid hC
            have HBB5 := Lib.hid hB5
            have HA5 := Lib.hid HC5.out.2.1
            clear hD htq hq6' hC hB5
            go_wp2_with fail
            refine (SO.out _).mono ?_
            rintro e w6 ⟨rfl, hb6⟩
            have hC6 := H5.out.below hb6
            have HTH := Lib.hid (hC6.there 4 rfl)
            have hM := hC6.mid [.string o, .int .u16 6, .int .u32 9, .string D] rfl
            have hb7 := below_setCells' (B := wr.heap.size) (g := g12) HG12.out [.string o, .int .u16 6, .int .u32 9, .string D] 0 (HBB5.out.trans (hb6.mono HBB5.out.size))
            have H7 := Lib.hid (And.intro hM (And.intro hb7 (HA5.out.below hb6)))
            clear hC6 hM hb7 hb6 c1 c2 htm
            go_upto_region 13 with (first | refine wpList_store_mid rfl 32 _ _ rfl g12 0 #[.string o, .int .u16 6, .int .u32 9, .string D] rfl rfl HTH.out (by kernel_rfl) (by simp [Value.oneCell']) ?_)
            obtain ⟨hC, hB7, hA6⟩ := H7.out
            have hA7 : Cs (w6.setCells g12 0 [.string o, .int .u16 6, .int .u32 9, .string D]) g11 [.slice a.1.1 a.1.2.1 a.1.2.2.1, .int .u8 a.2.1, .int .u32 (TT : Nat), .slice a.2.2.2.1.1 a.2.2.2.1.2.1 a.2.2.2.1.2.2.1, .string a.2.2.2.2] := hA6.block ((setCells_heap w6 g12 [.string o, .int .u16 6, .int .u32 9, .string D] 0).2 g11 HNE.out) (by rw [(setCells_heap w6 g12 [.string o, .int .u16 6, .int .u32 9, .string D] 0).1]; exact Nat.le_refl _)
            generalize w6.setCells g12 0 [.string o, .int .u16 6, .int .u32 9, .string D] = w7 at *
            have HQD := Lib.hid (show soaR o (TT % 6) = (o, 6, 9, D) by rw [HD.out]; rfl)
            cases soas with
            | true =>
              have hur : ur = (o, 6, 9, D) := by rw [HUR.out, HQ6.out, if_pos rfl, if_pos rfl, HQD.out]
              clear hA6 hA7
              go_upto_region 15 with fail
              have HRX := Lib.hid hC.range
              have ho := Lib.hid ((HB.out.keep hB7 (Nat.le_refl _)).alloc (.cells #[.string o, .int .u16 6, .int .u32 9, .string D] 32))
              have hS : Hid (Src Tryd.prog 4 26 (.slice (some ⟨w7.heap.size, 0, none⟩) 1 1) 1 [.string o, .int .u16 6, .int .u32 9, .string D] (w7.alloc (.cells #[.string o, .int .u16 6, .int .u32 9, .string D] 32))) := by
                refine Lib.hid (Src.ofSlice _ Tryd.underlying26 _ 1 1 _ rfl ?_ (recCells_one (o, 6, 9, D)))
                exact news_at w7 #[.string o, .int .u16 6, .int .u32 9, .string D] _
              have hfl : flatR (rs ++ [ur]) = flatR rs ++ [.string o, .int .u16 6, .int .u32 9, .string D] := by rw [flatR_snoc, hur]; rfl
              have HFL := Lib.hid hfl
              clear hC hfl hur
              go_wp2_with (first | (at_builtin; go_loud (refine wpList_append_obm rfl _ _ 26 26 rfl 32 i0 _ 40 Tryd.underlying26 hi hz0 hz1 hz2 rfl ho.out rfl rfl hS.out rfl (by have := HL2.out; unfold maxLen; omega) (by have := HL2.out; omega) ?_)) | refine wpList_load_mid rfl 32 _ rfl g12 0 rfl _ _ HRX.out Tryd.underlying32 rfl (by kernel_rfl) ?_)
              intro v' w' q1 q2 q3 q4
              have Q1 := Lib.hid q1
              clear q1 q2 q3 q4
              go_wp2_with fail
              go_round
              case rel => exact ⟨k + 1, by omega, by omega, by go_num, Lib.hid (by rw [HNX.out, HFL.out, List.length_append]; exact Q1.out)⟩
              case measure => simp [intOf]; omega
            | false =>
              have hur : ur = (o, 16, (TT : Int), ⟨#[1, 120]⟩) := by rw [HUR.out, HQ6.out]; rfl
              have HUX := Lib.hid hur
              have c2 := hA7.get 2 _
              have HTH2 := Lib.hid (hC.there 4 rfl)
              have hM := hC.mid [.string o, .int .u16 16, .int .u32 (TT : Nat), .string ⟨#[1, 120]⟩] rfl
              have hb8 := below_setCells' (B := wr.heap.size) (g := g12) HG12.out [.string o, .int .u16 16, .int .u32 (TT : Nat), .string ⟨#[1, 120]⟩] 0 hB7
              have H8 := Lib.hid (And.intro hM hb8)
              clear hC hB7 hA6 hA7 hM hb8 hur
              go_upto_region 15 with (first | refine wpList_store_mid rfl 32 _ _ rfl g12 0 #[.string o, .int .u16 16, .int .u32 (TT : Nat), .string ⟨#[1, 120]⟩] rfl rfl HTH2.out (by kernel_rfl) (by simp [Value.oneCell']) ?_)
              obtain ⟨hC, hB8⟩ := H8.out
              have hur := HUX.out
              generalize w7.setCells g12 0 [.string o, .int .u16 16, .int .u32 (TT : Nat), .string ⟨#[1, 120]⟩] = w8 at *
              clear c2
              have HRX := Lib.hid hC.range
              have ho := Lib.hid ((HB.out.keep hB8 (Nat.le_refl _)).alloc (.cells #[.string o, .int .u16 16, .int .u32 (TT : Nat), .string ⟨#[1, 120]⟩] 32))
              have hS : Hid (Src Tryd.prog 4 26 (.slice (some ⟨w8.heap.size, 0, none⟩) 1 1) 1 [.string o, .int .u16 16, .int .u32 (TT : Nat), .string ⟨#[1, 120]⟩] (w8.alloc (.cells #[.string o, .int .u16 16, .int .u32 (TT : Nat), .string ⟨#[1, 120]⟩] 32))) := by
                refine Lib.hid (Src.ofSlice _ Tryd.underlying26 _ 1 1 _ rfl ?_ (recCells_one (o, 16, (TT : Int), ⟨#[1, 120]⟩)))
                exact news_at w8 #[.string o, .int .u16 16, .int .u32 (TT : Nat), .string ⟨#[1, 120]⟩] _
              have hfl : flatR (rs ++ [ur]) = flatR rs ++ [.string o, .int .u16 16, .int .u32 (TT : Nat), .string ⟨#[1, 120]⟩] := by rw [flatR_snoc, hur]; rfl
              have HFL := Lib.hid hfl
              clear hC hfl hur
              go_wp2_with (first | (at_builtin; go_loud (refine wpList_append_obm rfl _ _ 26 26 rfl 32 i0 _ 40 Tryd.underlying26 hi hz0 hz1 hz2 rfl ho.out rfl rfl hS.out rfl (by have := HL2.out; unfold maxLen; omega) (by have := HL2.out; omega) ?_)) | refine wpList_load_mid rfl 32 _ rfl g12 0 rfl _ _ HRX.out Tryd.underlying32 rfl (by kernel_rfl) ?_)
              intro v' w' q1 q2 q3 q4
              have Q1 := Lib.hid q1
              clear q1 q2 q3 q4
              go_wp2_with fail
              go_round
              case rel => exact ⟨k + 1, by omega, by omega, by go_num, Lib.hid (by rw [HNX.out, HFL.out, List.length_append]; exact Q1.out)⟩
              case measure => simp [intOf]; omega
    · have hlt' : ¬ (k : Int) < n := by omega
      go_wp2_with fail
      go_ret
      have := HB.out
      rw [List.take_of_length_le (by rw [HL.out]; omega)] at this
      exact ⟨_, rfl, this⟩
end Go.Proofs.YteaeplceahdioaaDoor
namespace Go.Proofs.YteaeplceahdioaaDoor
open Go.RowKit
set_option linter.unusedVariables false
set_option linter.unusedSimpArgs false
set_option maxRecDepth 20000
set_option maxHeartbeats 1600000 in
theorem growR_any (n : Nat) (w : World) (hn : n ≤ 1000000) :
    Calls Tryd.prog 62 #[.slice none 0 0, .int .i64 (n : Nat)] w fun e w' => ∃ v, e = .returned v ∧ OBM 4 w.heap.size w v 0 [] w' := by
  obtain ⟨i0, hi, hz0, hz1, hz2⟩ := info_parts4 rec_info
  rcases Nat.eq_zero_or_pos n with rfl | hp
  · go_enter Tryd.func62, Tryd.ntmps62
    go_wp2_with fail
    go_ret
    exact ⟨_, rfl, OBM.start w⟩
  · have hpi : (0 : Int) < n := by omega
    have hni : ¬ (n : Int) < 0 := by omega
    have hbig : n * i0.bytes ≤ 281474976710656 := by rw [hz2]; omega
    have hr := Lib.hid (Lib.run_append_nil_zeros (P := Tryd.prog) w 26 3 26 32 i0 _ .i64 .i64 (by kernel_rfl) Tryd.underlying3 hi hz0 n hp (by rw [hz1]; decide) (by omega) hbig)
    have hge := grownCap_ge w n 0 32
    have hcm := grownCap_le_maxLen w n 0 32 (by unfold maxLen; omega)
    obtain ⟨K, hK⟩ : ∃ K, grownCap w n 0 32 = K := ⟨_, rfl⟩
    rw [hK] at hr hge hcm
    obtain ⟨cs, hcs⟩ : ∃ cs, Builtin.zeroCells (Value.agg #[.string ⟨#[]⟩, .int .u16 0, .int .u32 0, .string ⟨#[]⟩]).cells n ++ Builtin.zeroCells (Value.agg #[.string ⟨#[]⟩, .int .u16 0, .int .u32 0, .string ⟨#[]⟩]).cells (K - n) = cs := ⟨_, rfl⟩
    have hsz : cs.size = K * 4 := by
      rw [← hcs, Array.size_append, size_zeroCells, size_zeroCells, rec_zero_cells]
      omega
    rw [hcs] at hr
    have HS := Lib.hid (OBM.zeros (sz := 4) w cs 32 K hsz hcm)
    clear hK hcs hsz hz0 hz1 hz2 hbig
    go_enter Tryd.func62, Tryd.ntmps62
    go_wp2_with (at_builtin; go_loud (refine Lib.wpList_append_run _ rfl _ _ 26 3 rfl _ _ rfl rfl _ _ hr.out ?_))
    go_ret
    exact ⟨_, rfl, HS.out⟩
set_option maxHeartbeats 1600000 in
theorem concatR_any (A : Option Addr) (n c : Nat) (rows : List RowR) (w : World) (h : Sl w w.heap.size 1 A n (rows.map rowRV)) (hn : n ≤ 1000000) (hok : ∀ r ∈ rows, RowROk w r) (hs : (allR rows).length ≤ 1000000) :
    Calls Tryd.prog 38 #[.slice A n c] w fun e w' => ∃ v, e = .returned v ∧ OBM 4 w.heap.size w v (allR rows).length (flatR (allR rows)) w' := by
  have hl : rows.length = n := by simpa using h.1
  obtain ⟨i0, hi, hz0, hz1, hz2⟩ := info_parts4 rec_info
  have H := Lib.hid h
  have HL := Lib.hid hl
  have HK := Lib.hid hok
  have HS := Lib.hid hs
  clear h hl hok hs
  go_enter Tryd.func38, Tryd.ntmps38
  go_wp2_with fail
  go_loop [3, 11] (fun s i => ∃ k m : Nat, k ≤ n ∧ i = .int .i64 k ∧ s = .int .i64 m ∧ Hid (m = (allR (rows.take k)).length) ∧ m ≤ 1000000) (fun _ i => n - (intOf i).toNat)
  case atStart => exact ⟨0, 0, Nat.zero_le _, rfl, rfl, Lib.hid (by simp [allR]), by omega⟩
  case round =>
    obtain ⟨k, m, hk, rfl, rfl, HM, hm⟩ := hrel
    by_cases hlt : k < n
    · have hlt' : (k : Int) < n := by omega
      obtain ⟨b, off, u, rfl, hb, hu, hc⟩ := H.out.at_ hlt
      obtain ⟨r, hr⟩ : ∃ x, rows[k]? = some x := ⟨_, List.getElem?_eq_getElem (by rw [HL.out]; exact hlt)⟩
      rw [List.getElem?_map, hr] at hu
      simp only [Option.map_some, Option.some.injEq] at hu
      subst hu
      unfold rowRV at hc
      have hlen := (HK.out r (List.mem_of_getElem? hr)).len
      obtain ⟨M, hM⟩ : ∃ M : Nat, M = m + r.2.1 := ⟨_, rfl⟩
      have HM2 : Hid (M = (allR (rows.take (k + 1))).length) := Lib.hid (by rw [allR_snoc hr, List.length_append, hM, HM.out, hlen])
      have hM6 : M ≤ 1000000 := by have := allR_le rows (k + 1); have := HS.out; have := HM2.out; omega
      have hsum : (m : Int) + (r.2.1 : Int) = (M : Int) := by omega
      have hMn : ¬ (M : Int) < 0 := by omega
      clear hr hlen hM
      go_wp2_with fail
      go_round
      case rel => exact ⟨k + 1, M, by omega, by go_num, rfl, HM2, hM6⟩
      case measure => simp [intOf]; omega
    · have hlt' : ¬ (k : Int) < n := by omega
      go_wp2_with fail
      refine (growR_any m w hm).mono ?_
      rintro e w1 ⟨v0, rfl, ho0⟩
      have HO0 := Lib.hid ho0
      clear ho0
      go_wp2_with fail
      go_loopw [6, 27] (fun v i wr => ∃ k : Nat, k ≤ n ∧ i = .int .i64 k ∧ Hid (OBM 4 w.heap.size w v (allR (rows.take k)).length (flatR (allR (rows.take k))) wr)) (fun _ i _ => n - (intOf i).toNat)
      case atStart => exact ⟨0, Nat.zero_le _, rfl, Lib.hid (by simpa [allR, flatR] using HO0.out)⟩
      case round =>
        obtain ⟨k, hk, rfl, HB⟩ := hrel
        by_cases hlt : k < n
        · have hlt' : (k : Int) < n := by omega
          obtain ⟨b, off, u, rfl, hb, hu, hc⟩ := ((H.out.below HB.out.bel).more HB.out.bel.size).at_ hlt
          obtain ⟨r, hr⟩ : ∃ x, rows[k]? = some x := ⟨_, List.getElem?_eq_getElem (by rw [HL.out]; exact hlt)⟩
          rw [List.getElem?_map, hr] at hu
          simp only [Option.map_some, Option.some.injEq] at hu
          subst hu
          unfold rowRV at hc
          have hR := (HK.out r (List.mem_of_getElem? hr)).below HB.out.bel
          have hS := Lib.hid (hR.sl.srcM (P := Tryd.prog) (c := r.2.2.1) (tx := 26) (e' := 32) (by kernel_rfl) hR.none_ (flatR_one _))
          have HAS := Lib.hid (allR_snoc hr)
          have hlen := hR.len
          have hle := allR_le rows (k + 1)
          have hs := HS.out
          have HB3 : Hid ((allR (rows.take k)).length + r.2.1 ≤ 1000000) := Lib.hid (by rw [HAS.out, List.length_append, hlen] at hle; omega)
          have HLEN := Lib.hid hR.sl.1
          have HLN := Lib.hid hlen
          clear hr hR hlen hle hs
          go_wp2_with (at_builtin; go_loud (refine wpList_append_obm rfl _ _ 26 26 rfl 32 i0 _ 40 (by kernel_rfl) hi hz0 hz1 hz2 rfl HB.out rfl rfl hS.out HLEN.out (by have := HB3.out; unfold maxLen; omega) (by have := HB3.out; omega) ?_))
          intro v' w' q1 q2 q3 q4
          clear q2 q3 q4
          have Q1 := Lib.hid q1
          clear q1
          go_wp2_with fail
          go_round
          case rel => exact ⟨k + 1, by omega, by go_num, Lib.hid (by rw [HAS.out, flatR_append, List.length_append, HLN.out]; exact Q1.out)⟩
          case measure => simp [intOf]; omega
        · have hlt' : ¬ (k : Int) < n := by omega
          go_wp2_with fail
          go_ret
          have := HB.out
          rw [List.take_of_length_le (by rw [HL.out]; omega)] at this
          exact ⟨_, rfl, this⟩
set_option maxHeartbeats 1600000 in
def zeroR : RecT := (⟨#[]⟩, 0, 0, ⟨#[]⟩)
def isSoaR (r : RecT) : Bool := r.2.1 == 6
def firstS (rs : List RecT) : Option RecT := rs.find? isSoaR
theorem firstS_next {rs : List RecT} {k : Nat} {r : RecT} (h : rs[k]? = some r) : firstS (rs.take (k + 1)) = (firstS (rs.take k)).or (if isSoaR r then some r else none) := by
  unfold firstS
  rw [List.take_add_one, h, List.find?_append]
  congr 1
  simp only [Option.toList_some, List.find?_cons, List.find?_nil]
  cases isSoaR r <;> rfl
theorem firstS_at {rs : List RecT} {k : Nat} {r : RecT} (h0 : firstS (rs.take k) = none) (h : rs[k]? = some r) (hs : isSoaR r = true) : firstS rs = some r := by
  have h1 := firstS_next h
  rw [h0, hs] at h1
  have e : firstS (rs.take (k + 1)) = some r := by rw [h1]; rfl
  have : rs = rs.take (k + 1) ++ rs.drop (k + 1) := (List.take_append_drop _ _).symm
  rw [this]
  unfold firstS at e ⊢
  rw [List.find?_append, e]; rfl
set_option maxHeartbeats 1600000 in
theorem soaz_any (A : Option Addr) (n c : Nat) (rs : List RecT) (w : World) (h : Recs w A rs) (hl : rs.length = n) (hn : n ≤ maxLen) :
    Calls Tryd.prog 37 #[.slice A n c] w fun e w' => e = .returned (.tuple #[recV ((firstS rs).getD zeroR), .bool (firstS rs).isSome]) ∧ Below w.heap.size w w' := by
  unfold maxLen at hn
  obtain ⟨W, hW⟩ : ∃ W, W = w.alloc (.cells #[.string ⟨#[]⟩, .int .u16 0, .int .u32 0, .string ⟨#[]⟩] 32) := ⟨_, rfl⟩
  have hD : Cs W w.heap.size [.string ⟨#[]⟩, .int .u16 0, .int .u32 0, .string ⟨#[]⟩] := by rw [hW]; exact Cs.new w _ _ _
  have hbW : Below w.heap.size w W := by rw [hW]; exact (Below.refl _ _).alloc (Nat.le_refl _) _
  obtain ⟨g, hg⟩ : ∃ g, g = w.heap.size := ⟨_, rfl⟩
  rw [← hg] at hD
  obtain ⟨S, hSS⟩ : ∃ S, firstS rs = S := ⟨_, rfl⟩
  rw [hSS]
  have HSS := Lib.hid hSS
  clear hSS
  have HL := Lib.hid hl
  have HW := Lib.hid hW
  have HD := Lib.hid hD
  have HBW := Lib.hid hbW
  have HG := Lib.hid hg
  have HR := Lib.hid (h.below hbW)
  have hgw : w.heap.size ≤ g := by omega
  clear h hW hD hbW hg hl
  go_enter Tryd.func37, Tryd.ntmps37
  go_wp2_with fail
  rw [← HW.out, ← HG.out]
  go_loopw [8] (fun i wr => ∃ k : Nat, k ≤ n ∧ i = .int .i64 k ∧ Hid (firstS (rs.take k) = none) ∧ Hid (Below W.heap.size W wr)) (fun i _ => n - (intOf i).toNat)
  case atStart => exact ⟨0, Nat.zero_le _, rfl, Lib.hid (by simp [firstS]), Lib.hid (Below.refl _ _)⟩
  case round =>
    obtain ⟨k, hk, rfl, HK, HB⟩ := hrel
    have hDr := HD.out.below HB.out
    have d0 := hDr.get 0 _
    have d1 := hDr.get 1 _
    have d2 := hDr.get 2 _
    have d3 := hDr.get 3 _
    have f0 := hDr.froz 0
    have f1 := hDr.froz 1
    have f2 := hDr.froz 2
    have f3 := hDr.froz 3
    have hgl := hDr.lt
    have HBw := Lib.hid (below_trans HBW.out HBW.out.size HB.out)
    clear hDr
    by_cases hlt : k < n
    · have hlt' : (k : Int) < n := by omega
      obtain ⟨r, hr⟩ : ∃ q, rs[k]? = some q := ⟨_, List.getElem?_eq_getElem (by rw [HL.out]; exact hlt)⟩
      obtain ⟨b, off, rfl, hb, z0, z1, z2, z3⟩ := (HR.out.below HB.out) k _ hr
      have HQ := Lib.hid hr
      clear hr
      cases e6 : (r.2.1 == 6) with
      | true =>
        have HS := Lib.hid (firstS_at HK.out HQ.out e6)
        obtain rfl : S = some r := HSS.out.symm.trans HS.out
        go_wp2_with fail
        refine bodyPost_ret (v := .tuple #[.agg #[.string r.1, .int .u16 r.2.1, .int .u32 r.2.2.1, .string r.2.2.2], .bool true]) (by simp [results, Tryd.results37, go_sem, d0, d1, d2, d3, hgl]) rfl ⟨rfl, ?_⟩
        refine Below.alloc ?_ (by simpa using HBw.out.size) _
        iterate 4 (refine Below.setCell ?_ hgw _)
        exact HBw.out
      | false =>
        have HN : Hid (firstS (rs.take (k + 1)) = none) := Lib.hid (by rw [firstS_next HQ.out, HK.out]; unfold isSoaR; rw [e6]; rfl)
        clear d0 d1 d2 d3 f0 f1 f2 f3
        go_wp2_with fail
        go_round
        case rel => exact ⟨k + 1, by omega, by go_num, HN, Lib.hid (HB.out.alloc HB.out.size _)⟩
        case measure => simp [intOf]; omega
    · have hlt' : ¬ (k : Int) < n := by omega
      have HN : Hid (firstS rs = none) := Lib.hid (by have := HK.out; rwa [List.take_of_length_le (by rw [HL.out]; omega)] at this)
      obtain rfl : S = none := HSS.out.symm.trans HN.out
      go_wp2_with fail
      refine bodyPost_ret (v := .tuple #[.agg #[.string ⟨#[]⟩, .int .u16 0, .int .u32 0, .string ⟨#[]⟩], .bool false]) (by simp [results, Tryd.results37, go_sem, d0, d1, d2, d3]) rfl ⟨rfl, ?_⟩
      first
      | exact HBw.out
      | (iterate 4 (refine Below.setCell ?_ hgw _)
         exact HBw.out)
end Go.Proofs.YteaeplceahdioaaDoor
namespace Go.Proofs.YteaeplceahdioaaDoor
open Go.RowKit
set_option linter.unusedVariables false
set_option linter.unusedSimpArgs false
set_option maxRecDepth 20000
/-- The records of one zone that another one does not have. -/
def woR (a b : List RecT) : List RecT := a.filter fun r => !hasB b r
theorem woR_next {a b : List RecT} {k : Nat} {r : RecT} (h : a[k]? = some r) : woR (a.take (k + 1)) b = woR (a.take k) b ++ if hasB b r then [] else [r] := by
  unfold woR; rw [List.take_add_one, h, List.filter_append]
  congr 1
  simp only [Option.toList_some, List.filter_cons, List.filter_nil]
  cases hasB b r <;> rfl
theorem woR_le (a b : List RecT) : (woR a b).length ≤ a.length := List.length_filter_le _ _
theorem src_rec {w : World} {ts : TypeId} (hts : Tryd.prog.underlying ts = some (.slice 32)) (r : RecT) :
    Src Tryd.prog 4 ts (.slice (some ⟨w.heap.size, 0, none⟩) 1 1) 1 (recCells r) (w.alloc (.cells #[.string r.1, .int .u16 r.2.1, .int .u32 r.2.2.1, .string r.2.2.2] 32)) :=
  Src.ofSlice _ hts _ 1 1 _ rfl (news_at w #[.string r.1, .int .u16 r.2.1, .int .u32 r.2.2.1, .string r.2.2.2] _) (recCells_one r)
set_option maxHeartbeats 1600000 in
theorem without_any (A A2 : Option Addr) (n c n2 c2 : Nat) (a b : List RecT) (w : World) (h : Recs w A a) (hl : a.length = n) (hn : n ≤ 100000) (h2 : Recs w A2 b) (hl2 : b.length = n2) (hn2 : n2 ≤ 100000) :
    Calls Tryd.prog 41 #[.slice A n c, .slice A2 n2 c2] w fun e w' => ∃ v, e = .returned v ∧ OBM 4 w.heap.size w v (woR a b).length (flatR (woR a b)) w' := by
  obtain ⟨i0, hi, hz0, hz1, hz2⟩ := info_parts4 rec_info
  have HR := Lib.hid h
  have HL := Lib.hid hl
  have HAS := Lib.hid (fun r wx hb => has_any A2 n2 c2 b r wx (h2.below hb) hl2 (by unfold maxLen; omega))
  clear h hl h2 hl2
  go_enter Tryd.func41, Tryd.ntmps41
  go_wp2_with fail
  go_loopw [5, 10] (fun v i wr => ∃ k : Nat, k ≤ n ∧ i = .int .i64 k ∧ Hid (OBM 4 w.heap.size w v (woR (a.take k) b).length (flatR (woR (a.take k) b)) wr)) (fun _ i _ => n - (intOf i).toNat)
  case atStart => exact ⟨0, Nat.zero_le _, rfl, Lib.hid (by simpa [woR, flatR] using OBM.start w)⟩
  case round =>
    obtain ⟨k, hk, rfl, HB⟩ := hrel
    by_cases hlt : k < n
    · have hlt' : (k : Int) < n := by omega
      have hk0 : ¬ (k : Int) < 0 := by omega
      obtain ⟨r, hr⟩ : ∃ q, a[k]? = some q := ⟨_, List.getElem?_eq_getElem (by rw [HL.out]; exact hlt)⟩
      obtain ⟨g, off, rfl, hg, z0, z1, z2, z3⟩ := (HR.out.below HB.out.bel) k _ hr
      have HNX := Lib.hid (woR_next (b := b) hr)
      have hle : (woR (a.take k) b).length ≤ 100000 := by have := woR_le (a.take k) b; simp at this; omega
      have HAS2 := HAS.out r
      obtain ⟨q, hq⟩ : ∃ q, hasB b r = q := ⟨_, rfl⟩
      rw [hq] at HAS2 HNX
      have HAS3 := Lib.hid HAS2
      obtain ⟨wa, hwa⟩ : ∃ wa, wa = wr.alloc (.cells #[.string r.1, .int .u16 r.2.1, .int .u32 r.2.2.1, .string r.2.2.2] 32) := ⟨_, rfl⟩
      have HBA := Lib.hid (HB.out.alloc (.cells #[.string r.1, .int .u16 r.2.1, .int .u32 r.2.2.1, .string r.2.2.2] 32))
      have HCA : Hid (Cs wa wr.heap.size (recCells r)) := Lib.hid (by rw [hwa]; exact Cs.new wr _ _ _)
      rw [← hwa] at HBA
      have HWA := Lib.hid hwa
      obtain ⟨B, hB⟩ : ∃ B, B = wr.heap.size := ⟨_, rfl⟩
      rw [← hB] at HCA
      have HBB := Lib.hid hB
      unfold recV at HAS3
      clear hr hq hwa hB HAS2
      go_wp2_with fail
      rw [← HWA.out, ← HBB.out]
      refine (HAS3.out wa HBA.out.bel).mono ?_
      rintro e w2 ⟨rfl, hb2⟩
      have HB2 := Lib.hid (HBA.out.keep hb2 (Nat.le_refl _))
      have c0 := (HCA.out.below hb2).get 0 _
      have c1 := (HCA.out.below hb2).get 1 _
      have c2 := (HCA.out.below hb2).get 2 _
      have c3 := (HCA.out.below hb2).get 3 _
      have g2 := (HCA.out.below hb2).lt
      clear hb2 HAS3 z0 z1 z2 z3
      cases q with
      | true =>
        go_wp2_with fail
        go_roundw
        case rel => exact ⟨k + 1, by omega, by go_num, Lib.hid (by rw [HNX.out]; simpa using HB2.out)⟩
        case measure => simp [intOf]; omega
      | false =>
        have HBX := Lib.hid (HB2.out.alloc (.cells #[.string r.1, .int .u16 r.2.1, .int .u32 r.2.2.1, .string r.2.2.2] 32))
        have hs := Lib.hid (src_rec (w := w2) (ts := 26) Tryd.underlying26 r)
        go_wp2_with (at_builtin; go_loud (refine wpList_append_obm rfl _ _ 26 26 rfl 32 i0 _ 40 Tryd.underlying26 hi hz0 hz1 hz2 rfl HBX.out rfl rfl hs.out rfl (by unfold maxLen; omega) (by omega) ?_))
        intro v' w' q1 q2 q3 q4
        have Q1 := Lib.hid q1
        clear q1 q2 q3 q4
        go_wp2_with fail
        go_roundw
        case rel => exact ⟨k + 1, by omega, by go_num, Lib.hid (by rw [HNX.out, List.length_append, flatR_append]; simpa [flatR] using Q1.out)⟩
        case measure => simp [intOf]; omega
    · have hlt' : ¬ (k : Int) < n := by omega
      go_wp2_with fail
      go_ret
      have := HB.out
      rw [List.take_of_length_le (by rw [HL.out]; omega)] at this
      exact ⟨_, rfl, this⟩
set_option maxHeartbeats 1600000 in
theorem between_any (A A2 : Option Addr) (n c n2 c2 : Nat) (a b : List RecT) (w : World) (h : Recs w A a) (hl : a.length = n) (hn : n ≤ 100000) (h2 : Recs w A2 b) (hl2 : b.length = n2) (hn2 : n2 ≤ 100000) :
    Calls Tryd.prog 21 #[.slice A n c, .slice A2 n2 c2] w fun e w' => ∃ v u, e = .returned (.tuple #[v, u]) ∧ OBM 4 w.heap.size w v (woR a b).length (flatR (woR a b)) w' ∧ OBM 4 w.heap.size w u (woR b a).length (flatR (woR b a)) w' ∧ (∀ q, v.ownBlock = some q → u.ownBlock ≠ some q) := by
  have W1 := Lib.hid (without_any A A2 n c n2 c2 a b w h hl hn h2 hl2 hn2)
  have W2 := Lib.hid (fun wx hb => without_any A2 A n2 c2 n c b a wx (h2.below hb) hl2 hn2 (h.below hb) hl hn)
  clear h hl h2 hl2
  go_enter Tryd.func21, Tryd.ntmps21
  go_wp2_with fail
  refine W1.out.mono ?_
  rintro e w1 ⟨v, rfl, ho⟩
  have HO := Lib.hid ho
  clear ho
  go_wp2_with fail
  refine (W2.out w1 HO.out.bel).mono ?_
  rintro e w2 ⟨u, rfl, ho2⟩
  have HO2 := Lib.hid ho2
  clear ho2
  go_wp2_with fail
  refine bodyPost_ret (v := .tuple #[v, u]) (by simp [results, Tryd.results21, go_sem]) rfl ?_
  refine ⟨v, u, rfl, HO.out.keep HO2.out.bel (Nat.le_refl _), HO2.out.out HO.out.base HO.out.bel, fun q h1 h2 => ?_⟩
  have := (HO.out.lt q h1).2
  have := (HO2.out.lt q h2).1
  omega
end Go.Proofs.YteaeplceahdioaaDoor
namespace Go.Proofs.YteaeplceahdioaaDoor
open Go.RowKit
set_option linter.unusedVariables false
set_option linter.unusedSimpArgs false
set_option maxRecDepth 20000
/-- All go, one behind the other; all come. -/
def delAll : List RecT → List RecT → Option (List RecT)
  | [], z => some z
  | r :: rs, z => if hasB z r = true then delAll rs (lessR z r) else none
def insAll : List RecT → List RecT → Option (List RecT)
  | [], z => some z
  | r :: rs, z => if hasB z r = true then none else insAll rs (insR z r)
/-- A zone behind a delta; or why not. -/
def deltaR (z : List RecT) (fr tt : RecT) (gone new : List RecT) : Nat ⊕ List RecT :=
  match firstS z with
  | none => .inl 5
  | some s => if eqB s fr = true then (match delAll (fr :: gone) z with
    | none => .inl 6
    | some z1 => (match insAll (new ++ [tt]) z1 with
      | none => .inl 7
      | some z2 => .inr z2)) else .inl 5
theorem lessR_rising {z : List RecT} {r : RecT} (h : Rising z) : Rising (lessR z r) := List.Pairwise.sublist List.filter_sublist h
theorem delAll_rising : ∀ (l z z' : List RecT), Rising z → delAll l z = some z' → Rising z' ∧ z'.length ≤ z.length
  | [], z, z', h, e => by injection e with e; subst e; exact ⟨h, Nat.le_refl _⟩
  | r :: l, z, z', h, e => by
    unfold delAll at e
    split at e
    · have := delAll_rising l _ z' (lessR_rising (r := r) h) e
      have h2 : (lessR z r).length ≤ z.length := List.length_filter_le _ _
      exact ⟨this.1, by omega⟩
    · cases e
/-- A zone lies at a slice. -/
def ZoneAt (w : World) (v : Value) (z : List RecT) : Prop := ∃ A c, v = .slice A z.length c ∧ RowROk w (A, z.length, c, z) ∧ (A = none → z.length = 0 ∧ c = 0) ∧ z.length ≤ c ∧ c ≤ maxLen
theorem ZoneAt.below {w w' : World} {v : Value} {z : List RecT} (h : ZoneAt w v z) (hb : Below w.heap.size w w') : ZoneAt w' v z := by
  obtain ⟨A, c, e, h1, h2⟩ := h
  exact ⟨A, c, e, h1.below hb, h2⟩
theorem OBM.zone {B : Nat} {W w : World} {v : Value} {z : List RecT} (h : OBM 4 B W v z.length (flatR z) w) : ZoneAt w v z := by
  obtain ⟨A, c, rfl, h1, h2, h3⟩ := h.slice
  exact ⟨A, c, rfl, ⟨h.sl, fun e => (h3 e).1, rfl⟩, h3, h1, h2⟩
theorem ZoneAt.recs {w : World} {A : Option Addr} {n c : Nat} {z : List RecT} (h : ZoneAt w (.slice A n c) z) : Recs w A z ∧ z.length = n := by
  obtain ⟨A', c', e, h1, h2⟩ := h
  injection e with e1 e2 e3
  subst e1 e3
  exact ⟨h1.sl.recs (Nat.le_refl _) rfl, e2.symm⟩
/-- Delete, Insert of a zone. -/
theorem delete_zone {w : World} {v : Value} {z : List RecT} (h : ZoneAt w v z) (r : RecT) (hn : z.length ≤ 100000) (hr : Rising z) :
    Calls Tryd.prog 39 #[v, recV r] w fun e w' => (hasB z r = false ∧ e = .returned (.tuple #[.slice none 0 0, errV 6]) ∧ Below w.heap.size w w') ∨ (hasB z r = true ∧ ∃ v', e = .returned (.tuple #[v', .nilIface]) ∧ OBM 4 w.heap.size w v' (lessR z r).length (flatR (lessR z r)) w') := by
  obtain ⟨A, c, rfl, h1, h2, h3, h4⟩ := h
  cases hq : hasB z r with
  | false =>
    exact (delete_none A z.length c z r w (h1.sl.recs (Nat.le_refl _) rfl) rfl (by unfold maxLen; omega) (hasB_false.1 hq)).mono fun e w' ⟨a, b⟩ => .inl ⟨rfl, a, b⟩
  | true =>
    exact (delete_some A z.length c z r w h1 h3 hn ((hasB_iff _ _).1 hq) hr).mono fun e w' ⟨v', a, b⟩ => .inr ⟨rfl, v', a, b⟩
theorem insert_zone {w : World} {v : Value} {z : List RecT} (h : ZoneAt w v z) (r : RecT) (hn : z.length ≤ 100000) :
    Calls Tryd.prog 40 #[v, recV r] w fun e w' => (hasB z r = true ∧ e = .returned (.tuple #[.slice none 0 0, errV 7]) ∧ Below w.heap.size w w') ∨ (hasB z r = false ∧ ∃ v', e = .returned (.tuple #[v', .nilIface]) ∧ OBM 4 w.heap.size w v' (insR z r).length (flatR (insR z r)) w') := by
  obtain ⟨A, c, rfl, h1, h2, h3, h4⟩ := h
  cases hq : hasB z r with
  | true =>
    exact (insert_old A z.length c z r w (h1.sl.recs (Nat.le_refl _) rfl) rfl (by unfold maxLen; omega) ((hasB_iff _ _).1 hq)).mono fun e w' ⟨a, b⟩ => .inl ⟨rfl, a, b⟩
  | false =>
    refine (insert_new A z.length c z r w h1 h2 h3 h4 hn (hasB_false.1 hq)).mono fun e w' ⟨v', a, b⟩ => .inr ⟨rfl, v', a, ?_⟩
    rw [insR_len]; exact b
/-- What Delta leaves. -/
def DeltaA (x : Nat ⊕ List RecT) (w : World) (e : Ending) (w' : World) : Prop :=
  (∃ er : Nat, x = .inl er ∧ e = .returned (.tuple #[.slice none 0 0, errV (er : Int)]) ∧ Below w.heap.size w w') ∨ (∃ z v, x = .inr z ∧ e = .returned (.tuple #[v, .nilIface]) ∧ OBM 4 w.heap.size w v z.length (flatR z) w')
/-- A delta's cells. -/
def dltCells (fr tt : RecT) (vg vn : Value) : List Value := recCells fr ++ recCells tt ++ [vg, vn]
def dltV (fr tt : RecT) (vg vn : Value) : Value := .agg (dltCells fr tt vg vn).toArray
theorem rows_two {w : World} {g : Nat} {a b : RowR} (hC : Cs w g [rowRV a, rowRV b]) : Sl w w.heap.size 1 (some ⟨g, 0, none⟩) 2 ([a, b].map rowRV) := hC.sl
/-- In the midst of what goes: behind k of the list L. -/
structure DelS (w : World) (L z : List RecT) (k : Nat) (v : Value) (zk : List RecT) (wr : World) : Prop where
  zone : ZoneAt wr v zk
  ris : Rising zk
  len : zk.length ≤ z.length
  rest : delAll (L.drop k) zk = delAll L z
  bel : Below w.heap.size w wr
/-- In the midst of what comes. -/
structure InsS (w : World) (L z : List RecT) (k : Nat) (v : Value) (zk : List RecT) (wr : World) : Prop where
  zone : ZoneAt wr v zk
  len : zk.length ≤ z.length + k
  rest : insAll (L.drop k) zk = insAll L z
  bel : Below w.heap.size w wr
  own : 0 < k → OBM 4 w.heap.size w v zk.length (flatR zk) wr
theorem delAll_cons (r : RecT) (rs z : List RecT) : delAll (r :: rs) z = if hasB z r = true then delAll rs (lessR z r) else none := rfl
theorem insAll_cons (r : RecT) (rs z : List RecT) : insAll (r :: rs) z = if hasB z r = true then none else insAll rs (insR z r) := rfl
theorem drop_at {L : List RecT} {k : Nat} {r : RecT} (h : L[k]? = some r) : L.drop k = r :: L.drop (k + 1) := by
  obtain ⟨hk, e⟩ := List.getElem?_eq_some_iff.1 h
  rw [List.drop_eq_getElem_cons hk, e]
theorem concat_two {w : World} {g1 g2 : Nat} {r : RecT} {A : Option Addr} {n c : Nat} {l : List RecT} (h1 : Cs w g1 (recCells r)) (hl : RowROk w (A, n, c, l)) (hn : n ≤ 20000) (h2 : Cs w g2 [.slice (some ⟨g1, 0, none⟩) 1 1, .slice A n c]) :
    Calls Tryd.prog 38 #[.slice (some ⟨g2, 0, none⟩) 2 2] w fun e w' => ∃ v, e = .returned v ∧ OBM 4 w.heap.size w v (r :: l).length (flatR (r :: l)) w' := by
  have h := concatR_any (some ⟨g2, 0, none⟩) 2 2 [(some ⟨g1, 0, none⟩, 1, 1, [r]), (A, n, c, l)] w (by exact h2.sl) (by decide) (by
    intro x hx
    simp only [List.mem_cons, List.not_mem_nil, or_false] at hx
    rcases hx with rfl | rfl
    · exact RowROk.one h1
    · exact hl) (by have := hl.len; simp [allR]; simp at this; omega)
  have e : allR [((some ⟨g1, 0, none⟩ : Option Addr), 1, 1, [r]), (A, n, c, l)] = r :: l := by simp [allR]
  rw [e] at h
  exact h
theorem concat_last {w : World} {g1 g2 : Nat} {r : RecT} {A : Option Addr} {n c : Nat} {l : List RecT} (h1 : Cs w g1 (recCells r)) (hl : RowROk w (A, n, c, l)) (hn : n ≤ 20000) (h2 : Cs w g2 [.slice A n c, .slice (some ⟨g1, 0, none⟩) 1 1]) :
    Calls Tryd.prog 38 #[.slice (some ⟨g2, 0, none⟩) 2 2] w fun e w' => ∃ v, e = .returned v ∧ OBM 4 w.heap.size w v (l ++ [r]).length (flatR (l ++ [r])) w' := by
  have h := concatR_any (some ⟨g2, 0, none⟩) 2 2 [(A, n, c, l), (some ⟨g1, 0, none⟩, 1, 1, [r])] w (by exact h2.sl) (by decide) (by
    intro x hx
    simp only [List.mem_cons, List.not_mem_nil, or_false] at hx
    rcases hx with rfl | rfl
    · exact hl
    · exact RowROk.one h1) (by have := hl.len; simp [allR]; simp at this; omega)
  have e : allR [(A, n, c, l), ((some ⟨g1, 0, none⟩ : Option Addr), 1, 1, [r])] = l ++ [r] := by simp [allR]
  rw [e] at h
  exact h
set_option maxHeartbeats 6400000 in
theorem delta_any (V : Value) (z : List RecT) (fr tt : RecT) (Ag An : Option Addr) (ng cg nn cn : Nat) (gone new : List RecT) (w : World) (hZ : ZoneAt w V z) (hzn : z.length ≤ 10000) (hri : Rising z)
    (hG : RowROk w (Ag, ng, cg, gone)) (hGn : ng ≤ 10000) (hN : RowROk w (An, nn, cn, new)) (hNn : nn ≤ 10000) :
    Calls Tryd.prog 19 #[V, dltV fr tt (.slice Ag ng cg) (.slice An nn cn)] w (DeltaA (deltaR z fr tt gone new) w) := by
  obtain ⟨AR, hAR⟩ : ∃ R, R = DeltaA (deltaR z fr tt gone new) w := ⟨_, rfl⟩
  rw [← hAR]
  have HFAIL : Hid (∀ er : Nat, deltaR z fr tt gone new = .inl er → ∀ w', Below w.heap.size w w' → AR (.returned (.tuple #[.slice none 0 0, errV (er : Int)])) w') := Lib.hid (fun er h w' hb => by rw [hAR]; exact .inl ⟨er, h, rfl, hb⟩)
  have HOK : Hid (∀ z' v w', deltaR z fr tt gone new = .inr z' → OBM 4 w.heap.size w v z'.length (flatR z') w' → AR (.returned (.tuple #[v, .nilIface])) w') := Lib.hid (fun z' v w' h ho => by rw [hAR]; exact .inr ⟨z', v, h, rfl, ho⟩)
  have HZ := Lib.hid hZ
  obtain ⟨AZ, cz, rfl, hz1, hz2, hz3, hz4⟩ := hZ
  have SOA := Lib.hid (fun wx hb => soaz_any AZ z.length cz z wx ((hz1.sl.recs (Nat.le_refl _) rfl).below hb) rfl (by unfold maxLen; omega))
  obtain ⟨n, hn⟩ : ∃ n, n = z.length := ⟨_, rfl⟩
  rw [← hn] at HZ SOA
  rw [← hn]
  have HNZ := Lib.hid hn
  have HZN := Lib.hid hzn
  have HRI := Lib.hid hri
  have HG := Lib.hid hG
  have HN := Lib.hid hN
  have HGN := Lib.hid hGn
  have HNN := Lib.hid hNn
  have HDR : Hid (deltaR z fr tt gone new = match firstS z with
    | none => .inl 5
    | some s => if eqB s fr = true then (match delAll (fr :: gone) z with
      | none => .inl 6
      | some z1 => (match insAll (new ++ [tt]) z1 with
        | none => .inl 7
        | some z2 => .inr z2)) else .inl 5) := Lib.hid rfl
  unfold dltV dltCells recCells
  obtain ⟨W, hW⟩ : ∃ W, W = w.alloc (.cells #[.string fr.1, .int .u16 fr.2.1, .int .u32 fr.2.2.1, .string fr.2.2.2, .string tt.1, .int .u16 tt.2.1, .int .u32 tt.2.2.1, .string tt.2.2.2, .slice Ag ng cg, .slice An nn cn] 48) := ⟨_, rfl⟩
  obtain ⟨B, hB⟩ : ∃ B, B = w.heap.size := ⟨_, rfl⟩
  have HC : Hid (Cs W B [.string fr.1, .int .u16 fr.2.1, .int .u32 fr.2.2.1, .string fr.2.2.2, .string tt.1, .int .u16 tt.2.1, .int .u32 tt.2.2.1, .string tt.2.2.2, .slice Ag ng cg, .slice An nn cn]) := Lib.hid (by rw [hW, hB]; exact Cs.new w _ _ _)
  have HBW : Hid (Below w.heap.size w W) := Lib.hid (by rw [hW]; exact (Below.refl _ _).alloc (Nat.le_refl _) _)
  have HW := Lib.hid hW
  have HBB := Lib.hid hB
  clear hAR hz1 hz2 hz3 hz4 hzn hri hG hN hGn hNn hW hB hn
  go_enter Tryd.func19, Tryd.ntmps19
  go_wp2_with fail
  rw [← HW.out, ← HBB.out]
  refine (SOA.out W HBW.out).mono ?_
  rintro e w1 ⟨rfl, hb1⟩
  have HC1 := Lib.hid (HC.out.below hb1)
  have HB1 := Lib.hid (below_trans HBW.out HBW.out.size hb1)
  have c0 := HC1.out.get 0 _
  have c1 := HC1.out.get 1 _
  have c2 := HC1.out.get 2 _
  have c3 := HC1.out.get 3 _
  have hlB := HC1.out.lt
  clear hb1 SOA HC HBW HW
  cases hs : firstS z with
  | none =>
    have hd := HDR.out
    rw [hs] at hd
    have HD := Lib.hid hd
    clear hs hd
    unfold recV zeroR
    go_wp2_with fail
    exact HFAIL.out 5 HD.out _ (HB1.out.alloc HB1.out.size _)
  | some s =>
    have hd := HDR.out
    rw [hs] at hd
    simp only at hd
    obtain ⟨q, hq⟩ : ∃ q, eqB s fr = q := ⟨_, rfl⟩
    have hne : ∀ w, (binOp .neq 32 (recV s) (recV fr)).run Tryd.prog w = .ok (.bool (!q)) w := fun w => by rw [← hq]; exact rec_neq s fr w
    rw [hq] at hd
    unfold recV at hne
    have HD := Lib.hid hd
    clear hs hd hq
    simp only [Option.getD_some, Option.isSome_some]
    unfold recV
    cases q with
    | false =>
      have hd := HD.out
      rw [if_neg (by decide)] at hd
      have HD := Lib.hid hd
      clear hd
      go_wp2_with fail
      exact HFAIL.out 5 HD.out _ (HB1.out.alloc HB1.out.size _)
    | true =>
      have hd := HD.out
      rw [if_pos rfl] at hd
      have HD := Lib.hid hd
      clear hd
      have HB2 := Lib.hid (HB1.out.alloc HB1.out.size (.cells #[.string s.1, .int .u16 s.2.1, .int .u32 s.2.2.1, .string s.2.2.2] 32))
      have HC2 := Lib.hid (HC1.out.alloc (.cells #[.string s.1, .int .u16 s.2.1, .int .u32 s.2.2.1, .string s.2.2.2] 32))
      go_upto_region 5 with fail
      generalize (w1.alloc (.cells #[.string s.1, .int .u16 s.2.1, .int .u32 s.2.2.1, .string s.2.2.2] 32)) = w2 at *
      have d0 := HC2.out.get 0 _
      have d1 := HC2.out.get 1 _
      have d2 := HC2.out.get 2 _
      have d3 := HC2.out.get 3 _
      have d8 := HC2.out.get 8 _
      have hlB2 := HC2.out.lt
      obtain ⟨wc, hwc⟩ : ∃ wc, wc = ((w2.alloc (.cells #[.string fr.1, .int .u16 fr.2.1, .int .u32 fr.2.2.1, .string fr.2.2.2] 32)).alloc (.cells #[.slice (some ⟨w2.heap.size, 0, none⟩) 1 1, .slice Ag ng cg] 26)) := ⟨_, rfl⟩
      have HBC : Hid (Below w2.heap.size w2 wc) := Lib.hid (by rw [hwc]; exact ((Below.refl w2.heap.size w2).alloc (Nat.le_refl _) _).alloc (by simp) _)
      have CT : Hid (Calls Tryd.prog 38 #[.slice (some ⟨w2.heap.size + 1, 0, none⟩) 2 2] wc fun e w' => ∃ v, e = .returned v ∧ OBM 4 wc.heap.size wc v (fr :: gone).length (flatR (fr :: gone)) w') := Lib.hid (by
        have h1 : Cs wc w2.heap.size (recCells fr) := by
          rw [hwc]; exact (Cs.new w2 #[.string fr.1, .int .u16 fr.2.1, .int .u32 fr.2.2.1, .string fr.2.2.2] 32 (recCells fr)).alloc _
        have h2 := Cs.new (w2.alloc (.cells #[.string fr.1, .int .u16 fr.2.1, .int .u32 fr.2.2.1, .string fr.2.2.2] 32)) #[.slice (some ⟨w2.heap.size, 0, none⟩) 1 1, .slice Ag ng cg] 26 [.slice (some ⟨w2.heap.size, 0, none⟩) 1 1, .slice Ag ng cg]
        rw [← hwc] at h2
        exact concat_two h1 (HG.out.below (below_trans HB2.out HB2.out.size HBC.out)) (by have := HGN.out; omega) (h2.at_ _ (by simp)))
      have HWC := Lib.hid hwc
      clear hwc c0 c1 c2 c3 hlB hne HC1 HB1
      go_wp2_with fail
      rw [← HWC.out]
      refine CT.out.mono ?_
      rintro e w3 ⟨v3, rfl, ho3⟩
      obtain ⟨L, hL⟩ : ∃ L, L = fr :: gone := ⟨_, rfl⟩
      rw [← hL] at ho3
      have HD := Lib.hid (HD.out)
      rw [← hL] at HD
      obtain ⟨AL, cl, rfl, hl1, hl2, -⟩ := ho3.slice
      obtain ⟨m, hm⟩ : ∃ m, m = L.length := ⟨_, rfl⟩
      have hm2 : m ≤ 20000 := by rw [hm, hL]; have := HG.out.len; have := HGN.out; simp at *; omega
      have HRL := Lib.hid (ho3.recs rfl)
      rw [← hm]
      have HM := Lib.hid hm
      have HB3 := Lib.hid (below_trans HB2.out HB2.out.size (below_trans HBC.out HBC.out.size ho3.bel))
      have HC3 := Lib.hid ((HC2.out.below HBC.out).below ho3.bel)
      have S0 : Hid (DelS w L z 0 (.slice AZ n cz) z w3) := Lib.hid ⟨HZ.out.below HB3.out, HRI.out, Nat.le_refl _, rfl, HB3.out⟩
      clear hL ho3 hl1 hl2 hm CT HWC HBC HC2 HB2 d0 d1 d2 d3 d8 hlB2
      go_wp2_with fail
      go_loopw [0, 8, 35] (fun v er i wr => ∃ (k : Nat) (zk : List RecT) (V : Value), k ≤ m ∧ v = V ∧ i = .int .i64 k ∧ er = .nilIface ∧ Hid (DelS w L z k V zk wr) ∧ Hid (Below w3.heap.size w3 wr)) (fun _ _ i _ => m - (intOf i).toNat)
      case atStart => exact ⟨0, z, _, Nat.zero_le _, rfl, rfl, rfl, S0, Lib.hid (Below.refl _ _)⟩
      case round =>
        obtain ⟨k, zk, V, hk, hv, rfl, rfl, HS, HBR⟩ := hrel
        obtain rfl := hv.symm
        by_cases hkm : k < m
        · have hkm' : (k : Int) < m := by omega
          have hk0 : ¬ (k : Int) < 0 := by omega
          obtain ⟨r, hr⟩ : ∃ q, L[k]? = some q := ⟨_, List.getElem?_eq_getElem (by rw [← HM.out]; exact hkm)⟩
          obtain ⟨g, off, rfl, hg, z0, z1, z2, z3⟩ := (HRL.out.below HBR.out) k _ hr
          have HR := Lib.hid (drop_at hr)
          have DEL := Lib.hid (fun wx hb => delete_zone (HS.out.zone.below hb) r (w := wx) (by have := HS.out.len; have := HZN.out; omega) HS.out.ris)
          unfold recV at DEL
          clear hr
          go_wp2_with fail
          refine (DEL.out _ ((Below.refl _ _).alloc (Nat.le_refl _) _)).mono ?_
          rintro e w5 (⟨hq, rfl, hb⟩ | ⟨hq, v', rfl, ho⟩)
          · have hf : deltaR z fr tt gone new = .inl 6 := by
              have h1 := HS.out.rest
              rw [HR.out] at h1
              rw [delAll_cons] at h1
              rw [hq, if_neg (by decide)] at h1
              have := HD.out
              rw [← h1] at this
              exact this
            have HF := Lib.hid hf
            have HBF := Lib.hid (below_trans HS.out.bel HS.out.bel.size (below_alloc (.cells #[.string r.1, .int .u16 r.2.1, .int .u32 r.2.2.1, .string r.2.2.2] 32) (Below.refl _ _) (Nat.le_refl _) hb))
            clear hf hq hb DEL
            unfold errV
            go_wp2_with fail
            exact HFAIL.out 6 HF.out _ HBF.out
          · have HBW := Lib.hid (below_alloc (.cells #[.string r.1, .int .u16 r.2.1, .int .u32 r.2.2.1, .string r.2.2.2] 32) (Below.refl _ _) (Nat.le_refl _) ho.bel)
            have HS2 : Hid (DelS w L z (k + 1) v' (lessR zk r) w5) := Lib.hid (by
              refine ⟨ho.zone, lessR_rising HS.out.ris, ?_, ?_, below_trans HS.out.bel HS.out.bel.size HBW.out⟩
              · have h2 : (lessR zk r).length ≤ zk.length := List.length_filter_le _ _
                have := HS.out.len; omega
              · have h1 := HS.out.rest
                rw [HR.out] at h1
                rw [delAll_cons] at h1
                rw [hq, if_pos rfl] at h1
                exact h1)
            clear ho hq DEL
            go_wp2_with fail
            go_roundw
            case rel => exact ⟨k + 1, _, _, by omega, rfl, by go_num, rfl, HS2, Lib.hid (below_trans HBR.out HBR.out.size HBW.out)⟩
            case measure => simp [intOf]; omega
        · obtain rfl : k = m := by omega
          have hkm' : ¬ (k : Int) < k := by omega
          have hz1 : delAll L z = some zk := by
            have h1 := HS.out.rest
            rw [List.drop_of_length_le (by rw [HM.out]; omega)] at h1
            exact h1.symm
          have hd := HD.out
          rw [hz1] at hd
          have HD := Lib.hid hd
          have HCR := Lib.hid (HC3.out.below HBR.out)
          have d4 := HCR.out.get 4 _
          have d5 := HCR.out.get 5 _
          have d6 := HCR.out.get 6 _
          have d7 := HCR.out.get 7 _
          have d9 := HCR.out.get 9 _
          have hlB2 := HCR.out.lt
          obtain ⟨wc, hwc⟩ : ∃ wc, wc = ((wr.alloc (.cells #[.string tt.1, .int .u16 tt.2.1, .int .u32 tt.2.2.1, .string tt.2.2.2] 32)).alloc (.cells #[.slice An nn cn, .slice (some ⟨wr.heap.size, 0, none⟩) 1 1] 26)) := ⟨_, rfl⟩
          have HBC : Hid (Below wr.heap.size wr wc) := Lib.hid (by rw [hwc]; exact ((Below.refl wr.heap.size wr).alloc (Nat.le_refl _) _).alloc (by simp) _)
          have CT : Hid (Calls Tryd.prog 38 #[.slice (some ⟨wr.heap.size + 1, 0, none⟩) 2 2] wc fun e w' => ∃ v, e = .returned v ∧ OBM 4 wc.heap.size wc v (new ++ [tt]).length (flatR (new ++ [tt])) w') := Lib.hid (by
            have h1 : Cs wc wr.heap.size (recCells tt) := by
              rw [hwc]; exact (Cs.new wr #[.string tt.1, .int .u16 tt.2.1, .int .u32 tt.2.2.1, .string tt.2.2.2] 32 (recCells tt)).alloc _
            have h2 := Cs.new (wr.alloc (.cells #[.string tt.1, .int .u16 tt.2.1, .int .u32 tt.2.2.1, .string tt.2.2.2] 32)) #[.slice An nn cn, .slice (some ⟨wr.heap.size, 0, none⟩) 1 1] 26 [.slice An nn cn, .slice (some ⟨wr.heap.size, 0, none⟩) 1 1]
            rw [← hwc] at h2
            exact concat_last h1 (HN.out.below (below_trans HS.out.bel HS.out.bel.size HBC.out)) (by have := HNN.out; omega) (h2.at_ _ (by simp)))
          have HWC := Lib.hid hwc
          clear hwc hz1 hd
          go_wp2_with fail
          rw [← HWC.out]
          refine CT.out.mono ?_
          rintro e w6 ⟨v6, rfl, ho6⟩
          obtain ⟨L2, hL2⟩ : ∃ L2, L2 = new ++ [tt] := ⟨_, rfl⟩
          rw [← hL2] at ho6 HD
          obtain ⟨AL2, cl2, rfl, hl1, hl2, -⟩ := ho6.slice
          obtain ⟨m2, hm2⟩ : ∃ m2, m2 = L2.length := ⟨_, rfl⟩
          have hmm2 : m2 ≤ 20000 ∧ 0 < m2 := by rw [hm2, hL2]; have := HN.out.len; have := HNN.out; simp at *; omega
          have HRL2 := Lib.hid (ho6.recs rfl)
          rw [← hm2]
          have HM2 := Lib.hid hm2
          have HB6 := Lib.hid (below_trans HBC.out HBC.out.size ho6.bel)
          have S0 : Hid (InsS w L2 zk 0 V zk w6) := Lib.hid ⟨HS.out.zone.below HB6.out, by omega, rfl, below_trans HS.out.bel HS.out.bel.size HB6.out, fun h => by omega⟩
          have HZK : Hid (zk.length ≤ 10000) := Lib.hid (by have := HS.out.len; have := HZN.out; omega)
          obtain ⟨hmm2, hmm0⟩ := hmm2
          clear hL2 ho6 hl1 hl2 hm2 CT HWC HBC HB6 d4 d5 d6 d7 d9 hlB2 HS HCR
          go_wp2_with fail
          go_loopw [0, 8, 57] (fun v er i wr => ∃ (k : Nat) (zj : List RecT) (V : Value), k ≤ m2 ∧ v = V ∧ i = .int .i64 k ∧ er = .nilIface ∧ Hid (InsS w L2 zk k V zj wr) ∧ Hid (Below w6.heap.size w6 wr)) (fun _ _ i _ => m2 - (intOf i).toNat)
          case atStart => exact ⟨0, zk, _, Nat.zero_le _, rfl, rfl, rfl, S0, Lib.hid (Below.refl _ _)⟩
          case round =>
            obtain ⟨j, zj, V, hj, hv, rfl, rfl, HS, HBR⟩ := hrel
            obtain rfl := hv.symm
            by_cases hjm : j < m2
            · have hjm' : (j : Int) < m2 := by omega
              have hj0 : ¬ (j : Int) < 0 := by omega
              obtain ⟨r, hr⟩ : ∃ q, L2[j]? = some q := ⟨_, List.getElem?_eq_getElem (by rw [← HM2.out]; exact hjm)⟩
              obtain ⟨g, off, rfl, hg, z0, z1, z2, z3⟩ := (HRL2.out.below HBR.out) j _ hr
              have HR := Lib.hid (drop_at hr)
              have INS := Lib.hid (fun wx hb => insert_zone (HS.out.zone.below hb) r (w := wx) (by have := HS.out.len; have := HZK.out; omega))
              unfold recV at INS
              clear hr
              go_wp2_with fail
              refine (INS.out _ ((Below.refl _ _).alloc (Nat.le_refl _) _)).mono ?_
              rintro e w7 (⟨hq, rfl, hb⟩ | ⟨hq, v', rfl, ho⟩)
              · have hf : deltaR z fr tt gone new = .inl 7 := by
                  have h1 := HS.out.rest
                  rw [HR.out] at h1
                  rw [insAll_cons] at h1
                  rw [hq, if_pos rfl] at h1
                  have := HD.out
                  rw [← h1] at this
                  exact this
                have HF := Lib.hid hf
                have HBF := Lib.hid (below_trans HS.out.bel HS.out.bel.size (below_alloc (.cells #[.string r.1, .int .u16 r.2.1, .int .u32 r.2.2.1, .string r.2.2.2] 32) (Below.refl _ _) (Nat.le_refl _) hb))
                clear hf hq hb INS
                unfold errV
                go_wp2_with fail
                exact HFAIL.out 7 HF.out _ HBF.out
              · have HBW := Lib.hid (below_alloc (.cells #[.string r.1, .int .u16 r.2.1, .int .u32 r.2.2.1, .string r.2.2.2] 32) (Below.refl _ _) (Nat.le_refl _) ho.bel)
                have HS2 : Hid (InsS w L2 zk (j + 1) v' (insR zj r) w7) := Lib.hid (by
                  refine ⟨ho.zone, ?_, ?_, below_trans HS.out.bel HS.out.bel.size HBW.out, fun _ => ?_⟩
                  · rw [insR_len]; have := HS.out.len; omega
                  · have h1 := HS.out.rest
                    rw [HR.out] at h1
                    rw [insAll_cons] at h1
                    rw [hq, if_neg (by decide)] at h1
                    exact h1
                  · exact ho.out (by have := HS.out.bel.size; simp; omega) (HS.out.bel.alloc HS.out.bel.size _))
                clear ho hq INS
                go_wp2_with fail
                go_roundw
                case rel => exact ⟨j + 1, _, _, by omega, rfl, by go_num, rfl, HS2, Lib.hid (below_trans HBR.out HBR.out.size HBW.out)⟩
                case measure => simp [intOf]; omega
            · obtain rfl : j = m2 := by omega
              have hjm' : ¬ (j : Int) < j := by omega
              have hz1 : insAll L2 zk = some zj := by
                have h1 := HS.out.rest
                rw [List.drop_of_length_le (by rw [HM2.out]; omega)] at h1
                exact h1.symm
              have hd := HD.out
              rw [hz1] at hd
              have HD := Lib.hid hd
              clear hz1 hd
              go_wp2_with fail
              exact HOK.out zj V _ HD.out (HS.out.own hmm0)
end Go.Proofs.YteaeplceahdioaaDoor
namespace Go.Proofs.YteaeplceahdioaaDoor
open Go.RowKit Go.Extern.Stop Go.Stop Go.Extern
set_option linter.unusedVariables false
/-- The variable errors.errorType as the start lays it. -/
abbrev errT : Value := .iface 140 (.agg #[.pointer (some ⟨1, 37, none⟩)])
def Etype (w : World) : Prop := w.cell? ⟨0, 0, none⟩ = some errT
theorem Etype.pos {w : World} (h : Etype w) : 0 < w.heap.size := by
  rcases Nat.eq_zero_or_pos w.heap.size with h0 | h1
  · unfold Etype at h; simp [World.cell?, h0] at h
  · exact h1
theorem Etype.keep {B : Nat} {w w' : World} (h : Etype w) (hB : w.heap.size ≤ B) (hb : Below B w w') : Etype w' := by
  unfold Etype
  rw [World.cell?_of_block (a := ⟨0, 0, none⟩) (hb.block 0 (Nat.lt_of_lt_of_le h.pos hB))]; exact h
theorem as_none (t : Value) (w : World) : Calls Tryd.prog 36 #[.nilIface, t] w fun e w' => e = .returned (.bool false) ∧ w = w' := by
  go_enter Tryd.func36, Tryd.ntmps36
  go_wp2
  go_ret
  exact ⟨rfl, rfl⟩
section
abbrev hP : Value := .pointer (some ⟨1, 79, none⟩)
abbrev hE : Value := .pointer (some ⟨1, 40, none⟩)
theorem as_vp (t : Addr) (w : World) : (ReflectliteValue.unpack (.iface 79 (.pointer (some t)))).run Tryd.prog w = .ok (.agg #[hP, .pointer (some ⟨w.heap.size, 0, none⟩), .int .u64 150]) (w.alloc (.cells #[.pointer (some t)] 79)) := by kernel_rfl
theorem as_ve (x : Int) (w : World) : (ReflectliteValue.unpack (.iface 40 (.int .i64 x))).run Tryd.prog w = .ok (.agg #[hE, .pointer (some ⟨w.heap.size, 0, none⟩), .int .u64 130]) (w.alloc (.cells #[.int .i64 x] 40)) := by kernel_rfl
theorem as_ty (a : Addr) (w : World) : (ReflectliteValue.methodAny (ReflectliteValue.valueError "reflectlite.Value.Type" 0) (fun t _ _ _ => ReflectliteType.toType t) #[.agg #[hP, .pointer (some a), .int .u64 150]]).run Tryd.prog w = .ok (.iface 140 (.agg #[hP])) w := by kernel_rfl
theorem as_mk (h : Value) (w : World) : (Go.method 297 140 (.agg #[h]) "Kind").run Tryd.prog w = .ok (112, h) w := by kernel_rfl
theorem as_me (h : Value) (w : World) : (Go.method 297 140 (.agg #[h]) "Elem").run Tryd.prog w = .ok (122, .agg #[h]) w := by kernel_rfl
theorem as_mi (h : Value) (w : World) : (Go.method 297 140 (.agg #[h]) "Implements").run Tryd.prog w = .ok (123, .agg #[h]) w := by kernel_rfl
theorem as_ma (h : Value) (w : World) : (Go.method 297 140 (.agg #[h]) "AssignableTo").run Tryd.prog w = .ok (120, .agg #[h]) w := by kernel_rfl
theorem as_kp (w : World) : ((ReflectliteType.abiMethod fun t => (fun a : Nat => Value.int IntKind.u8 (a : Int)) <$> Rtype.kind t) #[hP]).run Tryd.prog w = .ok (.int .u8 22) w := by kernel_rfl
theorem as_ke (w : World) : ((ReflectliteType.abiMethod fun t => (fun a : Nat => Value.int IntKind.u8 (a : Int)) <$> Rtype.kind t) #[hE]).run Tryd.prog w = .ok (.int .u8 2) w := by kernel_rfl
theorem as_el (w : World) : (ReflectliteType.method ReflectliteType.elem #[.agg #[hP]]).run Tryd.prog w = .ok (.iface 140 (.agg #[hE])) w := by kernel_rfl
theorem as_im (w : World) : (ReflectliteType.relation "Implements" ReflectliteType.implements_ #[.agg #[hE], errT]).run Tryd.prog w = .ok (.bool true) w := by kernel_rfl
theorem as_to (v : Value) (w : World) : (ReflectliteType.typeOf #[.iface 40 v]).run Tryd.prog w = .ok (.iface 140 (.agg #[hE])) w := by kernel_rfl
theorem as_as (w : World) : (ReflectliteType.relation "AssignableTo" ReflectliteType.assignableTo #[.agg #[hE], .iface 140 (.agg #[hE])]).run Tryd.prog w = .ok (.bool true) w := by kernel_rfl
theorem as_m (z : Sem Value) (f : TypeId → Addr → Nat → Nat → Sem Value) (v : Value) : ReflectliteValue.method z f #[v] = (do match ← ReflectliteValue.parts v with | none => z | some (t, a, fl) => f t a fl (fl % 32)) := rfl
theorem as_pp (a : Addr) (w : World) : (ReflectliteValue.parts (.agg #[hP, .pointer (some a), .int .u64 150])).run Tryd.prog w = .ok (some (79, a, 150)) w := by kernel_rfl
theorem as_pa (a : Addr) (w : World) : (ReflectliteValue.parts (.agg #[hE, .pointer (some a), .int .u64 386])).run Tryd.prog w = .ok (some (40, a, 386)) w := by kernel_rfl
theorem as_pe (a : Addr) (w : World) : (ReflectliteValue.parts (.agg #[hE, .pointer (some a), .int .u64 130])).run Tryd.prog w = .ok (some (40, a, 130)) w := by kernel_rfl
theorem as_nil (a p : Addr) (W : World) (ha : W.cell? a = some (.pointer (some p))) :
    (ReflectliteValue.method (ReflectliteValue.valueError "reflectlite.Value.IsNil" 0) ReflectliteValue.isNil #[.agg #[hP, .pointer (some a), .int .u64 150]]).run Tryd.prog W = .ok (.bool false) W := by
  rw [as_m]
  simp only [Sem.run_bind, as_pp, Result.andThen]
  simp [ReflectliteValue.isNil, loadVar, isAgg, underlying, Tryd.underlying79, ha, Result.andThen]
theorem as_eo (w : World) : (Rtype.elem? 79).run Tryd.prog w = .ok (some 40) w := by kernel_rfl
theorem as_mv (p : Addr) (w : World) : (ReflectliteValue.mk 40 p ReflectliteValue.flagAddr).run Tryd.prog w = .ok (.agg #[hE, .pointer (some p), .int .u64 386]) w := by kernel_rfl
theorem as_elv (a p : Addr) (W : World) (ha : W.cell? a = some (.pointer (some p))) :
    (ReflectliteValue.method (ReflectliteValue.valueError "reflectlite.Value.Elem" 0) ReflectliteValue.elem #[.agg #[hP, .pointer (some a), .int .u64 150]]).run Tryd.prog W = .ok (.agg #[hE, .pointer (some p), .int .u64 386]) W := by
  rw [as_m]
  simp only [Sem.run_bind, as_pp, Result.andThen]
  simp [ReflectliteValue.elem, loadVar, isAgg, underlying, Tryd.underlying79, ha, Result.andThen, as_eo, as_mv]
theorem as_s (v x : Value) : ReflectliteValue.set #[v, x] = (do
    let (some (dst, a, fl), some (src, b, _)) := (← ReflectliteValue.parts v, ← ReflectliteValue.parts x)
      | unsupported (.noEntry "extern/(internal/reflectlite.Value).Set.zeroValue")
    if fl / ReflectliteValue.flagAddr % 2 == 0 then unsupported (.noEntry "extern/(internal/reflectlite.Value).Set.unaddressable")
    let val ← loadVar src b
    if ← Rtype.directlyAssignable dst src then storeVar dst a val
    else if ← Rtype.implements dst src then
      if (← Rtype.kind src) == 20 then
        match val with
        | .nilIface => unsupported (.noEntry "extern/reflectlite: a nil value of one interface type handed on as a value of another")
        | _ => storeVar dst a val
      else storeVar dst a (.iface src val)
    else panicString ("reflectlite.Set: value of type " ++ (← Rtype.spelt src) ++ " is not assignable to type " ++ (← Rtype.spelt dst))
    pure (.tuple #[])) := rfl
theorem as_da (w : World) : (Rtype.directlyAssignable 40 40).run Tryd.prog w = .ok true w := by kernel_rfl
theorem as_set (ta b : Addr) (x : Int) (old : Value) (W : World) (hb : W.cell? b = some (.int .i64 x)) (ht : W.cell? ta = some old) (hf : W.frozen? ta = false) :
    (ReflectliteValue.set #[.agg #[hE, .pointer (some ta), .int .u64 386], .agg #[hE, .pointer (some b), .int .u64 130]]).run Tryd.prog W = .ok (.tuple #[]) (W.setCell ta (.int .i64 x)) := by
  rw [as_s]
  simp only [Sem.run_bind, as_pa, as_pe, Result.andThen]
  simp [ReflectliteValue.flagAddr, loadVar, isAgg, underlying, Tryd.underlying40, hb, Result.andThen, as_da, storeVar, Value.cells, storeCells, Addr.add]
  rw [run_store Tryd.prog W ta _ _ (by rfl)]
  simp [ht, hf]
end
set_option maxHeartbeats 4000000 in
theorem as_errno (x : Int) (t : Addr) (old : Value) (w : World) (hg : Etype w) (ht0 : w.cell? t = some old) (hf0 : w.frozen? t = false) :
    Calls Tryd.prog 36 #[.iface 40 (.int .i64 x), .iface 79 (.pointer (some t))] w fun ev w' => ev = .returned (.bool true) ∧ ∃ W1, Below w.heap.size w W1 ∧ w' = W1.setCell t (.int .i64 x) := by
  have h6 := @run_callFunc_extern Tryd.prog 58 _ (fun args => ReflectliteValue.unpack (args.getD 0 (.tuple #[]))) Tryd.func58 (by kernel_rfl) (by kernel_rfl) (by kernel_rfl) (by kernel_rfl)
  have h7 := @run_callFunc_extern Tryd.prog 59 _ (ReflectliteValue.methodAny (ReflectliteValue.valueError "reflectlite.Value.Type" 0) (fun t _ _ _ => ReflectliteType.toType t)) Tryd.func59 (by kernel_rfl) (by kernel_rfl) (by kernel_rfl) (by kernel_rfl)
  have h8 := @run_callFunc_extern Tryd.prog 60 _ (ReflectliteValue.method (ReflectliteValue.valueError "reflectlite.Value.IsNil" 0) ReflectliteValue.isNil) Tryd.func60 (by kernel_rfl) (by kernel_rfl) (by kernel_rfl) (by kernel_rfl)
  have h9 := @run_callFunc_extern Tryd.prog 112 _ (ReflectliteType.abiMethod fun t => do pure (.int .u8 (← Rtype.kind t))) Tryd.func112 (by kernel_rfl) (by kernel_rfl) (by kernel_rfl) (by kernel_rfl)
  have h10 := @run_callFunc_extern Tryd.prog 122 _ (ReflectliteType.method ReflectliteType.elem) Tryd.func122 (by kernel_rfl) (by kernel_rfl) (by kernel_rfl) (by kernel_rfl)
  have h11 := @run_callFunc_extern Tryd.prog 123 _ (ReflectliteType.relation "Implements" ReflectliteType.implements_) Tryd.func123 (by kernel_rfl) (by kernel_rfl) (by kernel_rfl) (by kernel_rfl)
  have h12 := @run_callFunc_extern Tryd.prog 83 _ ReflectliteType.typeOf Tryd.func83 (by kernel_rfl) (by kernel_rfl) (by kernel_rfl) (by kernel_rfl)
  have h13 := @run_callFunc_extern Tryd.prog 120 _ (ReflectliteType.relation "AssignableTo" ReflectliteType.assignableTo) Tryd.func120 (by kernel_rfl) (by kernel_rfl) (by kernel_rfl) (by kernel_rfl)
  have h14 := @run_callFunc_extern Tryd.prog 84 _ (ReflectliteValue.method (ReflectliteValue.valueError "reflectlite.Value.Elem" 0) ReflectliteValue.elem) Tryd.func84 (by kernel_rfl) (by kernel_rfl) (by kernel_rfl) (by kernel_rfl)
  have h15 := @run_callFunc_extern Tryd.prog 85 _ ReflectliteValue.set Tryd.func85 (by kernel_rfl) (by kernel_rfl) (by kernel_rfl) (by kernel_rfl)
  have g1 := as_to
  have g2 := as_ma
  have g3 := as_as
  have g4 := as_ve
  have g5 := as_vp
  have g6 := as_ty
  have g7 := as_mk
  have g8 := as_me
  have g9 := as_mi
  have g10 := as_kp
  have g11 := as_ke
  have g12 := as_el
  have g13 := as_im
  obtain ⟨o1, ho1⟩ : ∃ o1 : Obj, o1 = .cells #[.pointer (some t)] 79 := ⟨_, rfl⟩
  have hlt := hg.pos
  have hg0 : w.cell? ⟨0, 0, none⟩ = some errT := hg
  have htl : t.block < w.heap.size := by
    rcases Nat.lt_or_ge t.block w.heap.size with h | h
    · exact h
    · simp [World.cell?, Array.getElem?_eq_none h] at ht0
  have n8 := as_nil ⟨w.heap.size, 0, none⟩ t ((w.alloc (.cells #[.pointer (some t)] 79)).alloc (.cells #[hP, .pointer (some ⟨w.heap.size, 0, none⟩), .int .u64 150] 106)) (by simp)
  have hg2 : ((w.alloc (.cells #[.pointer (some t)] 79)).alloc (.cells #[hP, .pointer (some ⟨w.heap.size, 0, none⟩), .int .u64 150] 106)).cell? ⟨0, 0, none⟩ = some errT := by
    rw [World.cell?_alloc_lt _ _ ⟨0, 0, none⟩ (by simp), World.cell?_alloc_lt _ _ ⟨0, 0, none⟩ hlt]; exact hg0
  have el := as_elv ⟨w.heap.size, 0, none⟩ t (((w.alloc (.cells #[.pointer (some t)] 79)).alloc (.cells #[hP, .pointer (some ⟨w.heap.size, 0, none⟩), .int .u64 150] 106)).alloc (.cells #[hP, .pointer (some ⟨w.heap.size, 0, none⟩), .int .u64 150] 106)) (by rw [World.cell?_alloc_lt _ _ ⟨w.heap.size, 0, none⟩ (by simp; omega)]; simp)
  have st := as_set t ⟨w.heap.size + 1 + 1 + 1, 0, none⟩ x old ((((w.alloc (.cells #[.pointer (some t)] 79)).alloc (.cells #[hP, .pointer (some ⟨w.heap.size, 0, none⟩), .int .u64 150] 106)).alloc (.cells #[hP, .pointer (some ⟨w.heap.size, 0, none⟩), .int .u64 150] 106)).alloc (.cells #[.int .i64 x] 40))
    (by rw [World.cell?_alloc_at _ _ _ _ (by simp)]; rfl)
    (by rw [World.cell?_alloc_lt _ _ t (by simp; omega), World.cell?_alloc_lt _ _ t (by simp; omega), World.cell?_alloc_lt _ _ t (by simp; omega), World.cell?_alloc_lt _ _ t htl]; exact ht0)
    (by rw [World.frozen?_alloc_old _ _ t (by simp; omega), World.frozen?_alloc_old _ _ t (by simp; omega), World.frozen?_alloc_old _ _ t (by simp; omega), World.frozen?_alloc_old _ _ t (Nat.ne_of_lt htl)]; exact hf0)
  go_enter Tryd.func36, Tryd.ntmps36
  go_wp2
  refine wp_loop_rounds 1 ?_
  rw [rounds_succ]
  go_wp2
  go_ret
  refine ⟨rfl, _, ?_, rfl⟩
  exact ((((Below.refl _ _).alloc (Nat.le_refl _) _).alloc (by simp) _).alloc (by simp; omega) _).alloc (by simp; omega) _
theorem number_none (w : World) : Calls Tryd.prog 16 #[.nilIface] w fun e w' => e = .returned (.int .i64 0) ∧ Below w.heap.size w w' := by
  go_enter Tryd.func16, Tryd.ntmps16
  go_wp2_with fail
  refine (as_none _ _).mono ?_
  rintro e w1 ⟨rfl, rfl⟩
  go_wp2_with fail
  go_ret
  exact ⟨rfl, (Below.refl _ _).alloc (Nat.le_refl _) _⟩
theorem number_errno (x : Int) (w : World) (hg : Etype w) : Calls Tryd.prog 16 #[.iface 40 (.int .i64 x)] w fun e w' => e = .returned (.int .i64 x) ∧ Below w.heap.size w w' := by
  have hb : Below w.heap.size w (w.alloc (.cells #[.int .i64 0] 40)) := (Below.refl _ _).alloc (Nat.le_refl _) _
  have AE := Lib.hid (as_errno x ⟨w.heap.size, 0, none⟩ (.int .i64 0) (w.alloc (.cells #[.int .i64 0] 40)) (hg.keep (Nat.le_refl _) hb) (by simp) (by simp))
  have HB := Lib.hid hb
  clear hb hg
  go_enter Tryd.func16, Tryd.ntmps16
  go_wp2_with fail
  refine AE.out.mono ?_
  clear AE
  rintro e w1 ⟨rfl, W1, hb1, rfl⟩
  have hc : (W1.setCell ⟨w.heap.size, 0, none⟩ (.int .i64 x)).cell? ⟨w.heap.size, 0, none⟩ = some (.int .i64 x) := by
    refine World.cell?_setCell_same W1 _ _ (u := .int .i64 0) ?_
    rw [World.cell?_of_block (a := ⟨w.heap.size, 0, none⟩) (hb1.block w.heap.size (by simp))]; simp
  have hbel := Lib.hid ((HB.out.trans (hb1.mono (by simp))).setCell (p := ⟨w.heap.size, 0, none⟩) (Nat.le_refl _) (.int .i64 x))
  clear hb1
  go_wp2_with fail
  go_ret
  exact ⟨rfl, hbel.out⟩
end Go.Proofs.YteaeplceahdioaaDoor
namespace Go.Proofs.YteaeplceahdioaaDoor
open Go.RowKit
set_option linter.unusedVariables false
set_option linter.unusedSimpArgs false
set_option maxRecDepth 20000
attribute [local simp] putsF isV wordOf Deps Region.binds Region.wanted Act.put wantedX isB
theorem app_follows : Tryd.prog.follows .mixedOrders = true := by kernel_rfl
def txt10 : RecT := (⟨#[]⟩, 16, 0, ⟨#[1, 120]⟩)
def S10 (n : Nat) : RecT := soaR ⟨#[]⟩ n
theorem soaD_ne : soaD 1 ≠ soaD 2 := by decide +kernel
theorem eqB_refl (r : RecT) : eqB r r = true := (eqB_iff r r).2 rfl
theorem firstS_soa (o : ByteArray) (n : Nat) : firstS [soaR o n] = some (soaR o n) := rfl
theorem lessR_one (r : RecT) : lessR [r] r = [] := by unfold lessR; simp [eqB_refl]
theorem delta10_a : deltaR [S10 1] (S10 1) (S10 2) [txt10] [] = .inl 6 := by
  unfold deltaR S10
  rw [firstS_soa]
  simp only [eqB_refl, if_true]
  rw [delAll_cons, if_pos ((hasB_iff _ _).2 (by simp)), lessR_one, delAll_cons, if_neg (by simp [hasB])]
theorem delta10_b : deltaR [S10 1] (S10 1) (S10 2) [] [] = .inr [S10 2] := by
  unfold deltaR S10
  rw [firstS_soa]
  simp only [eqB_refl, if_true]
  rw [delAll_cons, if_pos ((hasB_iff _ _).2 (by simp)), lessR_one]
  simp only [delAll, List.nil_append]
  rw [insAll_cons, if_neg (by simp [hasB])]
  rfl
/-- A delta's value, whose rows lie somewhere. -/
def dW (fr tt : RecT) (r : RecT) : Value → World → Prop := fun v w => ∃ g, v = dltV fr tt (.slice (some ⟨g, 0, none⟩) 1 1) (.slice none 0 0) ∧ Cs w g (recCells r)
theorem dW_stays (fr tt r : RecT) : ∀ v w w', dW fr tt r v w → Goes w w' → dW fr tt r v w' := by
  rintro v w w' ⟨g, rfl, h⟩ hb
  exact ⟨g, rfl, h.below hb⟩
/-- One record in a slice; the same beside no error. -/
def oneR (r : RecT) : Value → World → Prop := fun v w => ∃ g c, v = .slice (some ⟨g, 0, none⟩) 1 c ∧ 1 ≤ c ∧ (∀ i u, (recCells r)[i]? = some u → w.cell? ⟨g, i, none⟩ = some u) ∧ g < w.heap.size
def oneRT (r : RecT) : Value → World → Prop := fun v w => ∃ v', v = .tuple #[v', .nilIface] ∧ oneR r v' w
theorem oneR_stays (r : RecT) : ∀ v w w', oneR r v w → Goes w w' → oneR r v w' := by
  rintro v w w' ⟨g, c, rfl, hc, h, hl⟩ hb
  exact ⟨g, c, rfl, hc, fun i u hu => (hb.cell (p := ⟨g, i, none⟩) hl).trans (h i u hu), Nat.lt_of_lt_of_le hl hb.size⟩
theorem oneRT_stays (r : RecT) : ∀ v w w', oneRT r v w → Goes w w' → oneRT r v w' := by
  rintro v w w' ⟨v', rfl, h⟩ hb
  exact ⟨v', rfl, oneR_stays r _ _ _ h hb⟩
theorem OBM.oneR {B : Nat} {W w : World} {v : Value} {r : RecT} (h : OBM 4 B W v [r].length (flatR [r]) w) : oneR r v w := by
  rcases h.own with ⟨_, h0⟩ | ⟨g, cap, rfl, h1, h2, h3, h4, h5, h6⟩
  · simp at h0
  · exact ⟨g, cap, rfl, h3, fun i u hu => h6 i u (by simpa [flatR] using hu), h2⟩
set_option maxHeartbeats 3200000 in
theorem awake10_any (w : World) (hE : Etype w) : Calls Tryd.prog 9 #[] w fun e w' => e = .returned (.bool true) ∧ Below w.heap.size w w' := by
  obtain ⟨D1, hD1⟩ : ∃ D, D = soaD 1 := ⟨_, rfl⟩
  obtain ⟨D2, hD2⟩ : ∃ D, D = soaD 2 := ⟨_, rfl⟩
  have SO1 : Hid (∀ w, Calls Tryd.prog 12 #[.string ⟨#[]⟩, .int .u32 1] w fun e w' => e = .returned (.agg #[.string ⟨#[]⟩, .int .u16 6, .int .u32 9, .string D1]) ∧ Below w.heap.size w w') := Lib.hid (fun w => by rw [hD1]; exact soa9_any ⟨#[]⟩ 1 (by decide) w)
  have SO2 : Hid (∀ w, Calls Tryd.prog 12 #[.string ⟨#[]⟩, .int .u32 2] w fun e w' => e = .returned (.agg #[.string ⟨#[]⟩, .int .u16 6, .int .u32 9, .string D2]) ∧ Below w.heap.size w w') := Lib.hid (fun w => by rw [hD2]; exact soa9_any ⟨#[]⟩ 2 (by decide) w)
  have r1 : S10 1 = (⟨#[]⟩, 6, 9, D1) := by rw [hD1]; rfl
  have r2 : S10 2 = (⟨#[]⟩, 6, 9, D2) := by rw [hD2]; rfl
  have HE := Lib.hid hE
  have DA := delta10_a
  have DB := delta10_b
  rw [r1, r2] at DA DB
  have HDA := Lib.hid DA
  have HDB := Lib.hid DB
  have hri : Hid (∀ r : RecT, Rising [r]) := Lib.hid (fun r => List.pairwise_singleton _ _)
  have heq : ∀ w, (binOp .eql 32 (recV (⟨#[]⟩, 6, 9, D2)) (recV (⟨#[]⟩, 6, 9, D2))).run Tryd.prog w = .ok (.bool true) w := fun w => by rw [rec_eql, eqB_refl]
  unfold recV at heq
  clear hE DA DB hD1 hD2 r1 r2
  go_enter Tryd.func9, Tryd.ntmps9
  go_wp2_with fail
  refine (SO1.out _).mono ?_
  rintro e w1 ⟨rfl, hb1⟩
  have HB1 := Lib.hid hb1
  clear hb1
  go_upto_region 2 with fail
  obtain ⟨g, hg⟩ : ∃ g, g = w1.heap.size := ⟨_, rfl⟩
  obtain ⟨w2, hw2⟩ : ∃ w2, w2 = w1.alloc (.cells #[.string ⟨#[]⟩, .int .u16 6, .int .u32 9, .string D1] 32) := ⟨_, rfl⟩
  have HC : Hid (Cs w2 g (recCells (⟨#[]⟩, 6, 9, D1))) := Lib.hid (by rw [hw2, hg]; exact Cs.new w1 _ _ _)
  have HB2 : Hid (Below w.heap.size w w2) := Lib.hid (by rw [hw2]; exact HB1.out.alloc HB1.out.size _)
  rw [← hw2, ← hg]
  clear hw2 hg
  refine wp_region_goesG app_follows (fun x => by simp [putsF, Act.put]; rfl) w2.heap.size w2
    [isV (.slice (some ⟨g, 0, none⟩) 1 1), isV (.slice (some ⟨g, 0, none⟩) 1 1), isV (.pointer (some ⟨g, 0, none⟩)), isV (.agg #[.string ⟨#[]⟩, .int .u16 6, .int .u32 9, .string D1]), isV (.agg #[.string ⟨#[]⟩, .int .u16 6, .int .u32 9, .string D2]), isV (.agg #[.string ⟨#[]⟩, .int .u16 16, .int .u32 0, .string ⟨#[1, 120]⟩]), litW 1 (recCells txt10), dW (⟨#[]⟩, 6, 9, D1) (⟨#[]⟩, 6, 9, D2) txt10, isV (.tuple #[.slice none 0 0, errV 6]), isV (.tuple #[.slice none 0 0, errV 6]), isV (.slice none 0 0), isV (errV 6), isV (.slice none 0 0), isV (errV 6)]
    (by kernel_rfl) (by kernel_rfl) (by kernel_rfl) rfl ?_ (Below.refl _ _) ?_ ?_
  · repeat (first | exact trivial | refine ⟨by first | exact isV_stays _ | exact litW_stays _ _ | exact dW_stays _ _ _, ?_⟩)
  · refine ⟨?_, ?_, ?_, ?_, ?_, ?_, ?_, ?_, ?_, ?_, ?_, ?_, ?_, ?_, trivial⟩
    all_goals
      intro x wx hR hd
      simp at hd ⊢
      try simp [hd]
      have c0 := (HC.out.below hR).get 0 _
      have c1 := (HC.out.below hR).get 1 _
      have c2 := (HC.out.below hR).get 2 _
      have c3 := (HC.out.below hR).get 3 _
      have gl := (HC.out.below hR).lt
    · go_simp; exact next_same _ rfl rfl hR
    · go_simp; exact next_same _ rfl rfl hR
    · go_simp; exact next_same _ rfl rfl hR
    · go_simp; exact next_same _ rfl rfl hR
    · go_simp
      go_at_call 12
      refine (SO2.out wx).mono ?_
      rintro e w3 ⟨rfl, hb3⟩
      exact next_call _ rfl rfl hR hR.size hb3
    · go_simp; exact next_same _ rfl rfl hR
    · go_simp; exact next_alloc _ _ rfl (litW_new 1 _ _ _ _) hR hR.size
    · obtain ⟨h3, h4, g6, h6, hc6⟩ := hd
      rw [h6]
      go_simp
      exact next_same _ rfl ⟨g6, rfl, hc6⟩ hR
    · obtain ⟨h0, ⟨g7, h7, hc7⟩, h4⟩ := hd
      rw [h7]
      unfold dltV dltCells recCells
      go_simp
      go_at_call 19
      refine (delta_any (.slice (some ⟨g, 0, none⟩) 1 1) [(⟨#[]⟩, 6, 9, D1)] (⟨#[]⟩, 6, 9, D1) (⟨#[]⟩, 6, 9, D2) (some ⟨g7, 0, none⟩) none 1 1 0 0 [txt10] [] wx ⟨_, 1, rfl, RowROk.one (HC.out.below hR), (fun e => by cases e), Nat.le_refl _, by decide⟩ (by simp) (hri.out _) (RowROk.one hc7) (by decide) (RowROk.nothing _ _ _) (by decide)).mono ?_
      intro e w3 hD
      rw [HDA.out] at hD
      rcases hD with ⟨er, h1, rfl, hb3⟩ | ⟨z, v, h1, -, -⟩
      · injection h1 with h1
        subst h1
        exact next_call _ rfl rfl hR hR.size hb3
      · cases h1
    · go_simp; exact next_same _ rfl rfl hR
    · go_simp; exact next_same _ rfl rfl hR
    · go_simp; exact next_same _ rfl rfl hR
    · go_simp; exact next_same _ rfl rfl hR
    · go_simp; exact next_same _ rfl rfl hR
  intro x w4 hR4 hx
  obtain ⟨-, -, -, -, -, -, -, -, -, -, -, -, x12, x13, -⟩ := hx
  have x12 : x 12 = _ := x12
  have x13 : x 13 = _ := x13
  rw [x12, x13]
  have HC4 := Lib.hid (HC.out.below hR4)
  have HB4 := Lib.hid (below_trans HB2.out HB2.out.size hR4)
  clear hR4 x12 x13 HC HB2
  unfold errV
  go_upto_region 3 with fail
  refine wp_region_goesG app_follows (fun x => by simp [putsF, Act.put]; rfl) w4.heap.size w4
    [isV (.slice (some ⟨g, 0, none⟩) 1 1), isV (.slice (some ⟨g, 0, none⟩) 1 1), isV (.pointer (some ⟨g, 0, none⟩)), isV (.agg #[.string ⟨#[]⟩, .int .u16 6, .int .u32 9, .string D1]), isV (.agg #[.string ⟨#[]⟩, .int .u16 6, .int .u32 9, .string D2]), isV (dltV (⟨#[]⟩, 6, 9, D1) (⟨#[]⟩, 6, 9, D2) (.slice none 0 0) (.slice none 0 0)), oneRT (⟨#[]⟩, 6, 9, D2), oneRT (⟨#[]⟩, 6, 9, D2), oneR (⟨#[]⟩, 6, 9, D2), isV .nilIface, oneR (⟨#[]⟩, 6, 9, D2), isV .nilIface]
    (by kernel_rfl) (by kernel_rfl) (by kernel_rfl) rfl ?_ (Below.refl _ _) ?_ ?_
  · repeat (first | exact trivial | refine ⟨by first | exact isV_stays _ | exact oneR_stays _ | exact oneRT_stays _, ?_⟩)
  · refine ⟨?_, ?_, ?_, ?_, ?_, ?_, ?_, ?_, ?_, ?_, ?_, ?_, trivial⟩
    all_goals
      intro y wx hR hd
      simp at hd ⊢
      try simp [hd]
      have c0 := (HC4.out.below hR).get 0 _
      have c1 := (HC4.out.below hR).get 1 _
      have c2 := (HC4.out.below hR).get 2 _
      have c3 := (HC4.out.below hR).get 3 _
      have gl := (HC4.out.below hR).lt
    · go_simp; exact next_same _ rfl rfl hR
    · go_simp; exact next_same _ rfl rfl hR
    · go_simp; exact next_same _ rfl rfl hR
    · go_simp; exact next_same _ rfl rfl hR
    · go_simp
      go_at_call 12
      refine (SO2.out wx).mono ?_
      rintro e w3 ⟨rfl, hb3⟩
      exact next_call _ rfl rfl hR hR.size hb3
    · go_simp; exact next_same _ rfl rfl hR
    · unfold dltV dltCells recCells
      go_simp
      go_at_call 19
      refine (delta_any (.slice (some ⟨g, 0, none⟩) 1 1) [(⟨#[]⟩, 6, 9, D1)] (⟨#[]⟩, 6, 9, D1) (⟨#[]⟩, 6, 9, D2) none none 0 0 0 0 [] [] wx ⟨_, 1, rfl, RowROk.one (HC4.out.below hR), (fun e => by cases e), Nat.le_refl _, by decide⟩ (by simp) (hri.out _) (RowROk.nothing _ _ _) (by decide) (RowROk.nothing _ _ _) (by decide)).mono ?_
      intro e w3 hD
      rw [HDB.out] at hD
      rcases hD with ⟨er, h1, -, -⟩ | ⟨z, v, h1, rfl, ho⟩
      · cases h1
      · injection h1 with h1
        subst h1
        exact next_call _ rfl ⟨v, rfl, ho.oneR⟩ hR hR.size ho.bel
    · go_simp; exact next_same _ rfl hd hR
    · obtain ⟨v', h7, ho⟩ := hd
      rw [h7]
      go_simp; exact next_same _ rfl ho hR
    · obtain ⟨v', h7, ho⟩ := hd
      rw [h7]
      go_simp; exact next_same _ rfl rfl hR
    · first | (obtain ⟨hd, -⟩ := hd) | skip
      go_simp; exact next_same _ rfl hd hR
    · go_simp; exact next_same _ rfl rfl hR
  intro y w5 hR5 hy
  obtain ⟨-, -, -, -, -, -, -, -, -, -, ⟨gz, cz, y10, hcz, hcl, hgz⟩, y11, -⟩ := hy
  have y10 : y 10 = _ := y10
  have y11 : y 11 = _ := y11
  rw [y10, y11]
  have HB5 := Lib.hid (below_trans HB4.out HB4.out.size hR5)
  have hcl : ∀ i u, (recCells (⟨#[]⟩, 6, 9, D2))[i]? = some u → w5.cell? ⟨gz, i, none⟩ = some u := hcl
  have z0 := hcl 0 _ rfl
  have z1 := hcl 1 _ rfl
  have z2 := hcl 2 _ rfl
  have z3 := hcl 3 _ rfl
  clear hR5 y10 y11 HC4 HB4 hcl
  go_upto_region 4 with fail
  refine wp_region_goesG app_follows (fun x => by simp [putsF, Act.put]; rfl) w5.heap.size w5
    [isV (errV 6), isV (.int .i64 6), isV (.bool true), isV (.bool true), isV .nilIface, isV (.bool true), isV (.bool true), isV (.bool true), isV (.slice (some ⟨gz, 0, none⟩) 1 cz), isV (.int .i64 1), isV (.bool true), isV (.bool true), isV (.bool true), isV (.slice (some ⟨gz, 0, none⟩) 1 cz), isV (.pointer (some ⟨gz, 0, none⟩)), isV (.agg #[.string ⟨#[]⟩, .int .u16 6, .int .u32 9, .string D2]), isV (.agg #[.string ⟨#[]⟩, .int .u16 6, .int .u32 9, .string D2]), isV (.bool true), isV (.bool true), isV (.bool true)]
    (by kernel_rfl) (by kernel_rfl) (by kernel_rfl) rfl ?_ (Below.refl _ _) ?_ ?_
  · repeat (first | exact trivial | refine ⟨by first | exact isV_stays _, ?_⟩)
  · refine ⟨?_, ?_, ?_, ?_, ?_, ?_, ?_, ?_, ?_, ?_, ?_, ?_, ?_, ?_, ?_, ?_, ?_, ?_, ?_, ?_, trivial⟩
    all_goals
      intro x wx hR hd
      simp at hd ⊢
      try simp [hd]
      have c0 := (hR.cell (p := ⟨gz, 0, none⟩) hgz).trans z0
      have c1 := (hR.cell (p := ⟨gz, 1, none⟩) hgz).trans z1
      have c2 := (hR.cell (p := ⟨gz, 2, none⟩) hgz).trans z2
      have c3 := (hR.cell (p := ⟨gz, 3, none⟩) hgz).trans z3
      have gl : gz < wx.heap.size := Nat.lt_of_lt_of_le hgz hR.size
    all_goals first
      | (go_at_call 16; fail)
      | (unfold errV; go_simp; exact next_same _ rfl rfl hR)
      | (go_simp; exact next_same _ rfl rfl hR)
      | (unfold errV
         go_simp
         go_at_call 16
         refine (number_errno 6 wx (HE.out.keep (Nat.le_refl _) (below_trans HB5.out HB5.out.size hR))).mono ?_
         rintro e w3 ⟨rfl, hb3⟩
         exact next_call _ rfl rfl hR hR.size hb3)
      | (go_simp
         go_at_call 12
         refine (SO2.out wx).mono ?_
         rintro e w3 ⟨rfl, hb3⟩
         exact next_call _ rfl rfl hR hR.size hb3)
      | trace_state
  intro x w6 hR6 hx
  simp [AllWords] at hx ⊢
  have hx19 : x 19 = .bool true := by simp [hx]
  clear hx
  rw [hx19]
  have HB6 := Lib.hid (below_trans HB5.out HB5.out.size hR6)
  clear hR6
  go_wp2_with fail
  go_ret
  exact ⟨rfl, HB6.out⟩
end Go.Proofs.YteaeplceahdioaaDoor
namespace Go.Proofs.YteaeplceahdioaaDoor
open Go.RowKit
set_option linter.unusedVariables false
set_option linter.unusedSimpArgs false
set_option maxRecDepth 20000
/-- A zone by numbers. -/
def zoneR (o : ByteArray) (n : Nat) (ds : List ActT) (most : Nat) : List RecT := sortedR (undersOf o false ds most ++ [soaR o n])
theorem zoneR_len (o : ByteArray) (n : Nat) (ds : List ActT) (most : Nat) : (zoneR o n ds most).length ≤ most + 1 := by
  have := sortedR_le (undersOf o false ds most ++ [soaR o n])
  rw [List.length_append, undersOf_len] at this
  simp at this
  unfold zoneR; omega
theorem zoneR_rising (o : ByteArray) (n : Nat) (ds : List ActT) (most : Nat) : Rising (zoneR o n ds most) := sortedR_rising _
set_option maxHeartbeats 1600000 in
theorem zone10_any (o : ByteArray) (n : Nat) (hn : n < 4294967296) (A : Option Addr) (m c most : Nat) (ds : List ActT) (w : World) (h : ActsAt w A m ds) (hm : m ≤ maxLen) (hmost : most ≤ 1000) (ho : o.size ≤ maxLen) :
    Calls Tryd.prog 18 #[.string o, .int .u32 (n : Nat), .slice A m c, .int .i64 (most : Nat)] w fun e w' => ∃ v, e = .returned v ∧ OBM 4 w.heap.size w v (zoneR o n ds most).length (flatR (zoneR o n ds most)) w' := by
  obtain ⟨i0, hi, hz0, hz1, hz2⟩ := info_parts4 rec_info
  have UN := Lib.hid (under_any o A m c most false ds w h hm hmost ho)
  have SO := Lib.hid (fun w => soa9_any o n hn w)
  obtain ⟨D, hD⟩ : ∃ D, soaD n = D := ⟨_, rfl⟩
  unfold soaR at SO
  rw [hD] at SO
  have hr : soaR o n = (o, 6, 9, D) := by rw [← hD]; rfl
  obtain ⟨us, hus⟩ : ∃ us, us = undersOf o false ds most := ⟨_, rfl⟩
  have hul : us.length ≤ 1000 := by rw [hus, undersOf_len]; omega
  unfold zoneR
  rw [← hus, hr]
  rw [← hus] at UN
  obtain ⟨Z, hZ⟩ : ∃ Z, Z = us ++ [((o, 6, 9, D) : RecT)] := ⟨_, rfl⟩
  have hZf : flatR Z = flatR us ++ recCells (o, 6, 9, D) := by rw [hZ, flatR_append]; simp [flatR]
  have hZl : Z.length = us.length + 1 := by rw [hZ]; simp
  rw [← hZ]
  have HZF := Lib.hid hZf
  have HZL := Lib.hid hZl
  unfold recV at SO
  clear hr hus h hD hZ hZf hZl
  go_enter Tryd.func18, Tryd.ntmps18
  go_wp2_with fail
  refine UN.out.mono ?_
  rintro e w1 ⟨v, rfl, ho1⟩
  have HO1 := Lib.hid ho1
  clear ho1 UN
  go_wp2_with fail
  refine (SO.out w1).mono ?_
  rintro e w2 ⟨rfl, hb2⟩
  have HB2 := Lib.hid hb2
  have HOX := Lib.hid ((HO1.out.keep hb2 (Nat.le_refl _)).alloc (.cells #[.string o, .int .u16 6, .int .u32 9, .string D] 32))
  have hs := Lib.hid (src_rec (w := w2) (ts := 26) Tryd.underlying26 (o, 6, 9, D))
  clear hb2 HO1
  go_wp2_with (at_builtin; go_loud (refine wpList_append_obm rfl _ _ 26 26 rfl 32 i0 _ 40 Tryd.underlying26 hi hz0 hz1 hz2 rfl HOX.out rfl rfl hs.out rfl (by unfold maxLen; omega) (by omega) ?_))
  intro v' w3 q1 q2 q3 q4
  have Q1 : Hid (OBM 4 w.heap.size w v' Z.length (flatR Z) w3) := Lib.hid (by rw [HZF.out, HZL.out]; exact q1)
  clear q1 q2 q3 q4
  obtain ⟨A3, c3, rfl, hc1, hc2, -⟩ := Q1.out.slice
  have hz : Z.length ≤ 100000 := by have := HZL.out; omega
  have SR := Lib.hid (sorted_any A3 Z.length c3 Z w3 (Q1.out.recs rfl) rfl hz)
  clear hz hc1 hc2
  go_wp2_with fail
  refine SR.out.mono ?_
  rintro e w4 ⟨v4, rfl, ho4⟩
  have HO4 := Lib.hid (ho4.out Q1.out.base Q1.out.bel)
  clear ho4
  go_wp2_with fail
  go_ret
  exact ⟨_, rfl, HO4.out⟩
end Go.Proofs.YteaeplceahdioaaDoor
