/- The walks of layer 1's statements: each law's Go text returns true, and writes nothing that was there. -/
import Derived.Test.YthhlgogokcblgaaView
import Derived.Test.YthhlgogokcblgaaNum
import Derived.Test.YthhlgogokcblgaaAw1
import Derived.Deep.DeepCutAuto
import Derived.WalkSmall
import Derived.Test.YthhlgogokcblgaaReg
namespace Go.Proofs.Ythhlgogokcblgaa
open Go.RowKit
set_option linter.unusedVariables false

theorem bits_flags_take (n K : Nat) (hK : K ≤ 16) : ∀ j, j ≤ K → bitsN ((flagsL n K).take j) = n / 2 ^ (K - j) % 2 ^ j := by
  intro j
  induction j with
  | zero => intro _; simp [bitsN, Nat.mod_one]
  | succ j ih =>
    intro hj
    have hl : j < (flagsL n K).length := by simp [flagsL]; omega
    rw [List.take_succ_eq_append_getElem hl, bitsN_snoc, ih (by omega)]
    have hg : (flagsL n K)[j] = (n / 2 ^ (K - 1 - j) % 2 == 1) := by simp [flagsL]
    rw [hg]
    have e1 : n / 2 ^ (K - j) = n / 2 ^ (K - (j + 1)) / 2 := by
      rw [Nat.div_div_eq_div_mul, show K - j = K - (j + 1) + 1 by omega, Nat.pow_succ]
    rw [e1, show K - 1 - j = K - (j + 1) by omega]
    generalize n / 2 ^ (K - (j + 1)) = q
    have h2 : (2 : Nat) ^ (j + 1) ≤ 65536 := Nat.pow_le_pow_right (n := 2) (by omega) (by omega : j + 1 ≤ 16)
    have hm := Nat.mod_mul (x := q) (a := 2) (b := 2 ^ j)
    rw [show 2 ^ (j + 1) = 2 * 2 ^ j by rw [Nat.pow_succ, Nat.mul_comm]] at *
    have hlt := Nat.mod_lt q (show 0 < 2 * 2 ^ j by have := Nat.two_pow_pos j; omega)
    rw [hm] at *
    generalize q / 2 % 2 ^ j = r at *
    rcases Nat.mod_two_eq_zero_or_one q with h | h <;> simp [h] at * <;> omega
theorem bits_flags (n K : Nat) (hK : K ≤ 16) : bitsN (flagsL n K) = n % 2 ^ K := by
  have := bits_flags_take n K hK K (Nat.le_refl _)
  rw [List.take_of_length_le (by simp [flagsL])] at this
  rw [this]; simp

set_option maxHeartbeats 800000 in
theorem numBits_walk (w : World) (A : Option Addr) (n c : Nat) (fs : List Bool) (hS : SlView w A n c (fs.map Value.bool)) (hl : fs.length = n) (hc : c ≤ 140737488351232) (x : Int) (hx : (Lit.int .u16 x).wf = true) (m : Int) (hm : (Lit.int .i8 m).wf = true) :
    Calls Try.prog 5 #[.slice A n c, .int .u16 x, .int .i8 m] w fun e w' => e = .returned (.bool true) ∧ Below w.heap.size w w' := by
  have hx2 := bounds_u16 hx
  have hm2 := bounds_i8 hm
  obtain ⟨y, rfl⟩ := Int.eq_ofNat_of_zero_le hx2.1
  have hy : y < 65536 := by omega
  have hA := hS.sl
  have hn : n ≤ 140737488351232 := Nat.le_trans hS.le hc
  obtain ⟨K, hK⟩ : ∃ K, K = clampN m := ⟨_, rfl⟩
  have hK16 : K ≤ 16 := by rw [hK]; unfold clampN; omega
  have hKv : (max 0 (min m 16)) = (K : Int) := by rw [hK]; unfold clampN; omega
  have HK := Lib.hid hKv
  have HC := Lib.hid hK
  have HB := Lib.hid (bits_flags y K hK16)
  clear hKv hK hx hm
  go_enter Try.func5, Try.ntmps5
  go_wp2_with (go_at_call 13; refine (awake1_any _).mono ?_; rintro e w1 ⟨rfl, hb1⟩)
  have hA1 := (hA.below hb1).more hb1.size
  go_loop [7, 16] (fun v i => ∃ k : Nat, k ≤ n ∧ i = .int .i64 k ∧ v = .int .i64 (bitsN (fs.take k))) (fun _ i => n - (intOf i).toNat)
  case atStart => exact ⟨0, Nat.zero_le _, rfl, rfl⟩
  case round =>
    obtain ⟨k, hk, rfl, rfl⟩ := hrel
    by_cases hlt : k < n
    · obtain ⟨b, off, u, rfl, hb, hu, hc⟩ := hA1.at_ hlt
      have hkl : k < fs.length := by omega
      have ht : fs.take (k + 1) = fs.take k ++ [fs[k]] := List.take_succ_eq_append_getElem hkl
      simp only [List.getElem?_map, List.getElem?_eq_getElem hkl, Option.map_some, Option.some.injEq] at hu
      obtain ⟨f, hf⟩ : ∃ f, f = fs[k] := ⟨_, rfl⟩
      rw [← hf] at hu ht
      subst hu
      have hb16 := bitsN_lt (fs.take k)
      have hst := bitsN_snoc (fs.take k) f
      rw [← ht] at hst
      have HS := Lib.hid hst
      clear hst ht hf hl
      generalize bitsN (fs.take k) = q at *
      cases f
      all_goals
        go_wp2
        go_round
        case rel => exact ⟨k + 1, by omega, by go_num, congrArg (Value.int IntKind.i64) (by rw [HS.out]; simp <;> omega)⟩
        case measure => simp [intOf]; omega
    · have hle : fs.length ≤ k := by omega
      rw [List.take_of_length_le hle]
      have hb16 := bitsN_lt fs
      clear hl
      have hne : ((bitsN fs : Int) != (bitsN fs : Int)) = false := by simp
      go_upto_region 13 with (go_at_call 19; refine (bits_any _ _ _ _ _ hA1 (by unfold maxLen; omega)).mono ?_; rintro e w2 ⟨rfl, rfl⟩)
      go_cut [10] (fun v wc => v = .int .i64 (K : Int) ∧ wc = w1)
      case first =>
        rcases Int.lt_or_le 16 m with h | h
        · have HE := Lib.hid (show (K : Int) = 16 by have := HK.out; omega)
          go_wp2
          all_goals (go_meet; exact ⟨congrArg (Value.int IntKind.i64) (by have := HE.out; omega), rfl⟩)
        · rcases Int.lt_or_le m 0 with h0 | h0
          · have HE := Lib.hid (show (K : Int) = 0 by have := HK.out; omega)
            go_wp2
            all_goals (go_meet; exact ⟨congrArg (Value.int IntKind.i64) (by have := HE.out; omega), rfl⟩)
          · have HE := Lib.hid (show (K : Int) = m by have := HK.out; omega)
            go_wp2
            all_goals (go_meet; exact ⟨congrArg (Value.int IntKind.i64) (by have := HK.out; omega), rfl⟩)
      case rest =>
        obtain ⟨rfl, rfl⟩ := hcut
        go_wp2_with fail
        refine (flags_any y m _ hy).mono ?_
        rw [← HC.out]
        rintro e w2 ⟨g, rfl, hown, hb2⟩
        have hS2 := Sl.of_own hown
        have hB2 := below_trans hb1 hb1.size hb2
        clear hown hb2
        go_wp2_with fail
        have hp : (2 : Nat) ^ K ≤ 65536 := Nat.pow_le_pow_right (n := 2) (by omega) hK16
        have hp0 : 0 < (2 : Nat) ^ K := Nat.two_pow_pos K
        have hpi : (2 : Int) ^ K = ((2 ^ K : Nat) : Int) := by simp
        have eW : IntKind.i64.wrap ((2 : Int) ^ K) = (2 : Int) ^ K := IntWalk.i64_in _ (by rw [hpi]; omega)
        have e0 : ¬ (2 : Int) ^ K = 0 := by rw [hpi]; omega
        have eY : IntKind.i64.wrap (y : Int) = (y : Int) := IntWalk.i64_in _ (by omega)
        have hb2 := bitsN_lt (flagsL y K)
        have eB : IntKind.i64.wrap (bitsN (flagsL y K) : Int) = (bitsN (flagsL y K) : Int) := IntWalk.i64_in _ (by omega)
        have eF : (y : Int).tmod ((2 : Int) ^ K) = (bitsN (flagsL y K) : Int) := by
          rw [HB.out, hpi, Int.tmod_eq_emod_of_nonneg (by omega)]; simp
        clear hpi hp hp0
        go_quiet ((go_at_call 19; exact Calls.quiet_of_same ((bits_any _ _ _ _ _ (hS2.drewN _) (by unfold maxLen; omega)).mono fun e w' ⟨a, b⟩ => ⟨a, b.symm⟩)))
        go_wp2
        go_ret
        exact ⟨rfl, below_drewN hB2 _⟩
theorem u8_lt (x y : Nat) (hx : x < 256) (hy : y < 256) : decide (UInt8.ofNat x < UInt8.ofNat y) = decide (x < y) := by
  rw [decide_eq_decide, UInt8.lt_iff_toNat_lt, UInt8.toNat_ofNat_of_lt' (by simpa using hx), UInt8.toNat_ofNat_of_lt' (by simpa using hy)]
theorem u8_eq (x y : Nat) (hx : x < 256) (hy : y < 256) : (UInt8.ofNat x == UInt8.ofNat y) = (x == y) := by
  rw [Bool.eq_iff_iff, beq_iff_eq, beq_iff_eq, ← UInt8.toNat_inj, UInt8.toNat_ofNat_of_lt' (by simpa using hx), UInt8.toNat_ofNat_of_lt' (by simpa using hy)]
theorem less16 (m n : Nat) (hm : m < 65536) (hn : n < 65536) : Op.bytesLess (b16 m) (b16 n) = decide (m < n) := by
  simp only [b16, Op.bytesLess]
  rw [u8_lt _ _ (by omega) (by omega), u8_lt _ _ (by omega) (by omega), u8_eq _ _ (by omega) (by omega), u8_eq _ _ (by omega) (by omega)]
  rw [Bool.eq_iff_iff]
  simp
  omega
theorem less32 (m n : Nat) (hm : m < 4294967296) (hn : n < 4294967296) : Op.bytesLess (b32 m) (b32 n) = decide (m < n) := by
  simp only [b32, Op.bytesLess]
  rw [u8_lt _ _ (by omega) (by omega), u8_lt _ _ (by omega) (by omega), u8_eq _ _ (by omega) (by omega), u8_eq _ _ (by omega) (by omega), u8_lt _ _ (by omega) (by omega), u8_lt _ _ (by omega) (by omega), u8_eq _ _ (by omega) (by omega), u8_eq _ _ (by omega) (by omega)]
  rw [Bool.eq_iff_iff]
  simp
  omega
theorem put32_one (b : Nat) (x : Int) (w : World) (hc : w.cell? ⟨b, 0, none⟩ = some (.int .u32 x)) (h0 : 0 ≤ x) (hx : x < 4294967296) :
    Calls Try.prog 15 #[.slice none 0 0, .slice (some ⟨b, 0, none⟩) 1 1] w fun e w' => ∃ v, e = .returned v ∧ txt (b32 x.toNat) v w' ∧ Below w.heap.size w w' := by
  obtain ⟨n, rfl⟩ := Int.eq_ofNat_of_zero_le h0
  refine (put32_any none 0 0 [] _ 1 1 [n] w (Sl.nil _ _ _ _) (fun _ => ⟨rfl, rfl⟩) ⟨rfl, fun _ => ⟨b, 0, rfl, World.block_lt_of_cell? w _ hc, ?_⟩⟩ (by intro x hx; simp at hx; omega) (by omega)).mono ?_
  · intro j u hu
    match j, hu with
    | 0, hu => simp at hu; rw [← hu]; exact hc
  · rintro e w' ⟨g, rfl, hown, hb⟩
    exact ⟨_, rfl, ⟨_, _, _, rfl, Txt.of_own hown⟩, hb⟩

theorem put16_one (b : Nat) (x : Int) (w : World) (hc : w.cell? ⟨b, 0, none⟩ = some (.int .u16 x)) (h0 : 0 ≤ x) (hx : x < 65536) :
    Calls Try.prog 14 #[.slice none 0 0, .slice (some ⟨b, 0, none⟩) 1 1] w fun e w' => ∃ v, e = .returned v ∧ txt (b16 x.toNat) v w' ∧ Below w.heap.size w w' := by
  obtain ⟨n, rfl⟩ := Int.eq_ofNat_of_zero_le h0
  refine (put16_any none 0 0 [] _ 1 1 [n] w (Sl.nil _ _ _ _) (fun _ => ⟨rfl, rfl⟩) ⟨rfl, fun _ => ⟨b, 0, rfl, World.block_lt_of_cell? w _ hc, ?_⟩⟩ (by intro x hx; simp at hx; omega) (by omega)).mono ?_
  · intro j u hu
    match j, hu with
    | 0, hu => simp at hu; rw [← hu]; exact hc
  · rintro e w' ⟨g, rfl, hown, hb⟩
    exact ⟨_, rfl, ⟨_, _, _, rfl, Txt.of_own hown⟩, hb⟩

theorem follows : Try.prog.follows .mixedOrders = true := by kernel_rfl

attribute [local simp] putsF isV wordOf Deps Region.binds Region.wanted Act.put
set_option maxHeartbeats 1600000 in
theorem numOrder_walk (w : World) (a : Int) (ha : (Lit.int .u32 a).wf = true) (b : Int) (hb : (Lit.int .u32 b).wf = true) (c : Int) (hc : (Lit.int .u16 c).wf = true) (d : Int) (hd : (Lit.int .u16 d).wf = true) :
    Calls Try.prog 7 #[.int .u32 a, .int .u32 b, .int .u16 c, .int .u16 d] w fun e w' => e = .returned (.bool true) ∧ Below w.heap.size w w' := by
  have ha2 := bounds_u32 ha
  have hb2 := bounds_u32 hb
  have hc2 := bounds_u16 hc
  have hd2 := bounds_u16 hd
  have e1 := less32 a.toNat b.toNat (by omega) (by omega)
  have e2 := less16 c.toNat d.toNat (by omega) (by omega)
  rw [show decide (a.toNat < b.toNat) = decide (a < b) by rw [decide_eq_decide]; omega] at e1
  rw [show decide (c.toNat < d.toNat) = decide (c < d) by rw [decide_eq_decide]; omega] at e2
  have E1 := Lib.hid e1
  have E2 := Lib.hid e2
  clear ha hb hc hd e1 e2
  go_enter Try.func7, Try.ntmps7
  go_upto_region 3 with (go_at_call 13; refine (awake1_any _).mono ?_; rintro e w1 ⟨rfl, hb1⟩)
  refine wp_region_goes follows w.heap.size w
    [isV (.int .u32 a), one (.int .u32 a), txt (b32 a.toNat), isV (.string ⟨(b32 a.toNat).toArray⟩), isV (.int .u32 b), one (.int .u32 b), txt (b32 b.toNat), isV (.string ⟨(b32 b.toNat).toArray⟩), isV (.string ⟨(b32 a.toNat).toArray⟩), isV (.string ⟨(b32 b.toNat).toArray⟩)]
    (by kernel_rfl) (by kernel_rfl) rfl ?_ hb1 ?_ ?_
  · repeat (first | exact trivial | refine ⟨by first | exact isV_stays _ | exact one_stays _ | exact txt_stays _, ?_⟩)
  · refine ⟨?_, ?_, ?_, ?_, ?_, ?_, ?_, ?_, ?_, ?_, trivial⟩
    all_goals
      intro x wr hR hd
      simp at hd ⊢
    · go_simp
      exact next_same _ rfl rfl hR
    · go_simp
      exact next_alloc _ _ rfl (one_new _ _ _) hR hR.size
    · obtain ⟨g, hx, hc⟩ := hd
      go_simp
      go_at_call 15
      refine (put32_one g a _ hc (by omega) (by omega)).mono ?_
      rintro e w2 ⟨v, rfl, ht, hb⟩
      exact next_call _ rfl ht hR hR.size hb
    · obtain ⟨A, n, cc, hx, ht⟩ := hd
      have hv := ht.conv (P := Try.prog) 22 9 5 Try.underlying22 Try.underlying5 Try.underlying9 cc
      go_simp
      exact next_same _ rfl rfl hR
    · go_simp
      exact next_same _ rfl rfl hR
    · go_simp
      exact next_alloc _ _ rfl (one_new _ _ _) hR hR.size
    · obtain ⟨⟨g, hx, hc⟩, -⟩ := hd
      go_simp
      go_at_call 15
      refine (put32_one g b _ hc (by omega) (by omega)).mono ?_
      rintro e w2 ⟨v, rfl, ht, hb⟩
      exact next_call _ rfl ht hR hR.size hb
    · obtain ⟨A, n, cc, hx, ht⟩ := hd
      have hv := ht.conv (P := Try.prog) 22 9 5 Try.underlying22 Try.underlying5 Try.underlying9 cc
      go_simp
      exact next_same _ rfl rfl hR
    · go_simp
      exact next_same _ rfl rfl hR
    · go_simp
      exact next_same _ rfl rfl hR
  intro x w2 hb2 hx
  simp [AllWords] at hx ⊢
  obtain ⟨-, -, -, -, -, -, -, -, h8, h9⟩ := hx
  go_wp2_with fail
  refine wp_region_goes follows w.heap.size w
    [isV (.int .u16 c), one (.int .u16 c), txt (b16 c.toNat), isV (.string ⟨(b16 c.toNat).toArray⟩), isV (.int .u16 d), one (.int .u16 d), txt (b16 d.toNat), isV (.string ⟨(b16 d.toNat).toArray⟩), isV (.string ⟨(b16 c.toNat).toArray⟩), isV (.string ⟨(b16 d.toNat).toArray⟩)]
    (by kernel_rfl) (by kernel_rfl) rfl ?_ hb2 ?_ ?_
  · repeat (first | exact trivial | refine ⟨by first | exact isV_stays _ | exact one_stays _ | exact txt_stays _, ?_⟩)
  · refine ⟨?_, ?_, ?_, ?_, ?_, ?_, ?_, ?_, ?_, ?_, trivial⟩
    all_goals
      intro x wr hR hd
      simp at hd ⊢
    · go_simp
      exact next_same _ rfl rfl hR
    · go_simp
      exact next_alloc _ _ rfl (one_new _ _ _) hR hR.size
    · obtain ⟨g, hx, hc⟩ := hd
      go_simp
      go_at_call 14
      refine (put16_one g c _ hc (by omega) (by omega)).mono ?_
      rintro e w2 ⟨v, rfl, ht, hb⟩
      exact next_call _ rfl ht hR hR.size hb
    · obtain ⟨A, n, cc, hx, ht⟩ := hd
      have hv := ht.conv (P := Try.prog) 22 9 5 Try.underlying22 Try.underlying5 Try.underlying9 cc
      go_simp
      exact next_same _ rfl rfl hR
    · go_simp
      exact next_same _ rfl rfl hR
    · go_simp
      exact next_alloc _ _ rfl (one_new _ _ _) hR hR.size
    · obtain ⟨⟨g, hx, hc⟩, -⟩ := hd
      go_simp
      go_at_call 14
      refine (put16_one g d _ hc (by omega) (by omega)).mono ?_
      rintro e w2 ⟨v, rfl, ht, hb⟩
      exact next_call _ rfl ht hR hR.size hb
    · obtain ⟨A, n, cc, hx, ht⟩ := hd
      have hv := ht.conv (P := Try.prog) 22 9 5 Try.underlying22 Try.underlying5 Try.underlying9 cc
      go_simp
      exact next_same _ rfl rfl hR
    · go_simp
      exact next_same _ rfl rfl hR
    · go_simp
      exact next_same _ rfl rfl hR
  intro x w2 hb2 hx
  simp [AllWords] at hx ⊢
  obtain ⟨-, -, -, -, -, -, -, -, h8, h9⟩ := hx
  have e1 := E1.out
  have e2 := E2.out
  go_wp2_with fail
  go_ret
  exact ⟨rfl, hb2⟩
end Go.Proofs.Ythhlgogokcblgaa
