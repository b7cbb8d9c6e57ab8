/- Whether a message may hold a record: some answer, the same at every world. -/
import Derived.Test.YtoacmdjbmbdjdaaSoaA
import Derived.Test.YtoacmdjbmbdjdaaNameF
import Derived.Test.YtoacmdjbmbdjdaaZonB
namespace Go.Proofs.Ytoacmdjbmbdjdaa
open Go.RowKit
set_option linter.unusedVariables false
set_option linter.unusedSimpArgs false
set_option maxRecDepth 20000
/-- The next text's place. -/
def stepT (s : ByteArray) (p : Nat) : Nat := if h : p < s.size then p + 1 + s[p].toNat else p
def runT (s : ByteArray) : Nat → Nat
  | 0 => 0
  | k + 1 => stepT s (runT s k)
theorem runT_stays {s : ByteArray} {k : Nat} (h : ¬ runT s k < s.size) : ∀ j, runT s (k + j) = runT s k
  | 0 => rfl
  | j + 1 => by
    have ih := runT_stays h j
    show stepT s (runT s (k + j)) = _
    rw [ih]; unfold stepT; rw [dif_neg h]
theorem runT_next {s : ByteArray} {k p : Nat} (h : runT s k = p) (hp : p < s.size) : runT s (k + 1) = p + 1 + s[p].toNat := by
  show stepT s (runT s k) = _
  subst h
  unfold stepT; rw [dif_pos hp]
theorem texts_any (s : ByteArray) (w : World) (hs : s.size ≤ 512) :
    Calls Try.prog 70 #[.string s] w fun e w' => e = .returned (.bool (decide (s.size ≠ 0) && decide (runT s s.size = s.size))) ∧ Below w.heap.size w w' := by
  obtain ⟨E, hE⟩ : ∃ E, runT s s.size = E := ⟨_, rfl⟩
  rw [hE]
  have HE := Lib.hid hE
  clear hE
  go_enter Try.func70, Try.ntmps70
  go_wp2_with fail
  go_loop [3] (fun i => ∃ p k : Nat, p ≤ s.size + 256 ∧ i = .int .i64 p ∧ k ≤ p ∧ k ≤ s.size ∧ Hid (runT s k = p)) (fun i => s.size + 256 - (intOf i).toNat)
  case atStart => exact ⟨0, 0, Nat.zero_le _, rfl, Nat.le_refl _, Nat.zero_le _, Lib.hid rfl⟩
  case round =>
    obtain ⟨p, k, hp, rfl, hkp, hks, hr⟩ := hrel
    by_cases hlt : p < s.size
    · have hlt' : (p : Int) < s.size := by omega
      have hnx := runT_next hr.out hlt
      have hge : ¬ (s.size : Int) ≤ p := by omega
      have hp0 : ¬ (p : Int) < 0 := by omega
      obtain ⟨x, hx⟩ : ∃ x, s[p] = x := ⟨_, rfl⟩
      obtain ⟨q, hxq⟩ : ∃ q, x.toNat = q := ⟨_, rfl⟩
      have hq256 : q < 256 := by rw [← hxq]; exact UInt8.toNat_lt _
      rw [hx, hxq] at hnx
      have HNX := Lib.hid hnx
      clear hnx
      have hw1 : IntKind.i64.wrap (q : Int) = q := by rw [IntKind.wrap_i64]; omega
      have hw2 : IntKind.i64.wrap (1 + (q : Int)) = 1 + q := by rw [IntKind.wrap_i64]; omega
      have hw3 : IntKind.i64.wrap ((p : Int) + (1 + (q : Int))) = ((p + 1 + q : Nat) : Int) := by rw [IntKind.wrap_i64]; omega
      have hi3 : ((p : Int) + (1 + (q : Int))) = ((p + 1 + q : Nat) : Int) := by omega
      go_wp2_with fail
      go_round
      case rel => exact ⟨p + 1 + q, k + 1, by omega, by first | rfl | rw [hi3] | rw [hw3] | go_num, by omega, by omega, HNX⟩
      case measure => simp [intOf]; omega
    · have hlt' : ¬ (p : Int) < s.size := by omega
      have hfin : runT s s.size = p := by
        obtain ⟨j, hj⟩ : ∃ j, s.size = k + j := ⟨s.size - k, by omega⟩
        rw [hj, runT_stays (by rw [hr.out]; exact hlt), hr.out]
      obtain rfl : E = p := HE.out.symm.trans hfin
      clear hfin
      by_cases h0 : s.size = 0
      · obtain rfl : s = ⟨#[]⟩ := by
          cases s with | mk a => simp [ByteArray.size] at h0; subst h0; rfl
        go_wp2_with fail
        go_ret
        exact ⟨by simp, Below.refl _ _⟩
      · have hse := str_empty s h0
        by_cases he : E = s.size
        · have heq : ((E : Int) == (s.size : Int)) = true := by simp [he]
          go_wp2_with fail
          go_ret
          exact ⟨by simp [h0, he], Below.refl _ _⟩
        · have heq : ((E : Int) == (s.size : Int)) = false := by simp; omega
          go_wp2_with fail
          go_ret
          exact ⟨by simp [h0, he], Below.refl _ _⟩
theorem cutSoa_any (s : ByteArray) (hs : s.size ≤ 100000) : ∃ q : Bool, ∀ w, Calls Try.prog 69 #[.string s] w fun e w' => (∃ a b c, e = .returned (.tuple #[a, b, c, .bool q])) ∧ Below w.heap.size w w' := by
  have key : ∀ w, Calls Try.prog 69 #[.string s] w fun e w' => (∃ a b c q, e = .returned (.tuple #[a, b, c, .bool q]) ∧ (q = true ↔ ∃ a b t, IsSoa s.data.toList a b t)) ∧ Below w.heap.size w w' := by
    intro w
    have HC := Lib.hid (fun w => cutp_any s w (by omega))
    go_enter Try.func69, Try.ntmps69
    go_wp2_with fail
    refine (HC.out w).mono ?_
    rintro e w1 ⟨hb1, ⟨n, t, hnt, rfl⟩ | ⟨hno, rfl⟩⟩
    · have HB1 := Lib.hid hb1
      have HNT := Lib.hid hnt
      have htl : t.length ≤ 100000 := by have := congrArg List.length hnt.2; simp at this; omega
      have HC2 := Lib.hid (fun w => cutp_any ⟨t.toArray⟩ w (by show t.toArray.size ≤ _; simp; omega))
      clear hb1 hnt
      rw [show sv t = .string ⟨t.toArray⟩ from rfl]
      go_wp2_with fail
      refine (HC2.out w1).mono ?_
      rintro e w2 ⟨hb2, ⟨n2, t2, hnt2, rfl⟩ | ⟨hno, rfl⟩⟩
      · have hnt2' : IsCut t n2 t2 := by simpa using hnt2
        have HB2 := Lib.hid (below_trans HB1.out HB1.out.size hb2)
        have HNT2 := Lib.hid hnt2'
        have htl2 : t2.length ≤ 100000 := by have := congrArg List.length hnt2'.2; simp at this; omega
        clear hb2 hnt2 hnt2'
        obtain ⟨T, hT⟩ : ∃ T : ByteArray, T = ⟨t2.toArray⟩ := ⟨_, rfl⟩
        have hTs : T.size = t2.length := by rw [hT]; simp [ByteArray.size]
        rw [show sv t2 = .string ⟨t2.toArray⟩ from rfl, ← hT]
        by_cases h20 : T.size = 20
        · have heq : ((T.size : Int) != 20) = false := by simp [h20]
          go_wp2_with fail
          refine bodyPost_ret (v := .tuple #[sv n, sv n2, .string T, .bool true]) (by simp [results, Try.results69, go_sem, hT]) rfl ?_
          exact ⟨⟨_, _, _, _, rfl, by simp; exact ⟨n, n2, t2, by have h := HNT.out; have h2 := HNT2.out; exact ⟨⟨h.1, by rw [h.2, h2.2]⟩, h2.1, by omega⟩⟩⟩, HB2.out⟩
        · have heq : ((T.size : Int) != 20) = true := by simp; omega
          go_wp2_with fail
          refine bodyPost_ret (v := .tuple #[.string ⟨#[]⟩, .string ⟨#[]⟩, .string ⟨#[]⟩, .bool false]) (by simp [results, Try.results69, go_sem]) rfl ?_
          refine ⟨⟨_, _, _, _, rfl, by
            simp
            intro a b t' hh
            have h1 := At.one hh.1 HNT.out
            have h2 := At.one (show IsCut t b t' from ⟨hh.2.1, h1.2.symm⟩) HNT2.out
            have := hh.2.2
            rw [h2.2] at this
            omega⟩, HB2.out⟩
      · have hno' : ∀ n2 t2, ¬ IsCut t n2 t2 := by simpa using hno
        have HB2 := Lib.hid (below_trans HB1.out HB1.out.size hb2)
        have HNO := Lib.hid hno'
        clear hb2 hno hno'
        go_wp2_with fail
        refine bodyPost_ret (v := .tuple #[.string ⟨#[]⟩, .string ⟨#[]⟩, .string ⟨#[]⟩, .bool false]) (by simp [results, Try.results69, go_sem]) rfl ?_
        refine ⟨⟨_, _, _, _, rfl, by
          simp
          intro a b t' hh
          have h1 := At.one hh.1 HNT.out
          exact HNO.out b t' ⟨hh.2.1, h1.2.symm⟩⟩, HB2.out⟩
    · have HB1 := Lib.hid hb1
      have HNO := Lib.hid hno
      clear hb1 hno
      go_wp2_with fail
      refine bodyPost_ret (v := .tuple #[.string ⟨#[]⟩, .string ⟨#[]⟩, .string ⟨#[]⟩, .bool false]) (by simp [results, Try.results69, go_sem]) rfl ?_
      exact ⟨⟨_, _, _, _, rfl, by simp; intro a b t' hh; exact HNO.out _ _ hh.1⟩, HB1.out⟩
  by_cases hq : ∃ a b t, IsSoa s.data.toList a b t
  · refine ⟨true, fun w => (key w).mono ?_⟩
    rintro e w' ⟨⟨a, b, c, q, rfl, h⟩, hb⟩
    rw [h.2 hq]
    exact ⟨⟨_, _, _, rfl⟩, hb⟩
  · refine ⟨false, fun w => (key w).mono ?_⟩
    rintro e w' ⟨⟨a, b, c, q, rfl, h⟩, hb⟩
    have : q = false := by cases q with | false => rfl | true => exact absurd (h.1 rfl) hq
    rw [this]
    exact ⟨⟨_, _, _, rfl⟩, hb⟩
theorem rmay_any (t : Int) (ht : 0 ≤ t ∧ t < 65536) (d : ByteArray) (hd : d.size ≤ 100000) : ∃ q : Bool, ∀ w, Calls Try.prog 63 #[.int .u16 t, .string d] w fun e w' => e = .returned (.bool q) ∧ Below w.heap.size w w' := by
  by_cases h1 : t = 1
  · subst h1
    refine ⟨decide (d.size = 4), fun w => ?_⟩
    have heq : ((d.size : Int) == 4) = decide (d.size = 4) := by by_cases h : d.size = 4 <;> simp [h]; omega
    go_enter Try.func63, Try.ntmps63
    go_wp2_with fail
    go_ret
    exact ⟨rfl, Below.refl _ _⟩
  have e1 : (t == 1) = false := by simp; omega
  by_cases h28 : t = 28
  · subst h28
    refine ⟨decide (d.size = 16), fun w => ?_⟩
    have heq : ((d.size : Int) == 16) = decide (d.size = 16) := by by_cases h : d.size = 16 <;> simp [h]; omega
    go_enter Try.func63, Try.ntmps63
    go_wp2_with fail
    go_ret
    exact ⟨rfl, Below.refl _ _⟩
  have e28 : (t == 28) = false := by simp; omega
  by_cases h2 : t = 2
  · subst h2
    refine ⟨(labelsOf d).isSome, fun w => ?_⟩
    have HM := Lib.hid (fun w => may_any d w (by unfold maxLen; omega))
    go_enter Try.func63, Try.ntmps63
    go_wp2_with fail
    refine (HM.out w).mono ?_
    rintro e w1 ⟨rfl, hb⟩
    go_wp2_with fail
    go_ret
    exact ⟨rfl, hb⟩
  have e2 : (t == 2) = false := by simp; omega
  by_cases h5 : t = 5
  · subst h5
    refine ⟨(labelsOf d).isSome, fun w => ?_⟩
    have HM := Lib.hid (fun w => may_any d w (by unfold maxLen; omega))
    go_enter Try.func63, Try.ntmps63
    go_wp2_with fail
    refine (HM.out w).mono ?_
    rintro e w1 ⟨rfl, hb⟩
    go_wp2_with fail
    go_ret
    exact ⟨rfl, hb⟩
  have e5 : (t == 5) = false := by simp; omega
  by_cases h6 : t = 6
  · subst h6
    obtain ⟨q, hq⟩ := cutSoa_any d hd
    refine ⟨q, fun w => ?_⟩
    have HM := Lib.hid hq
    clear hq
    go_enter Try.func63, Try.ntmps63
    go_wp2_with fail
    refine (HM.out w).mono ?_
    rintro e w1 ⟨⟨a, b, c, rfl⟩, hb⟩
    go_wp2_with fail
    go_ret
    exact ⟨rfl, hb⟩
  have e6 : (t == 6) = false := by simp; omega
  by_cases h16 : t = 16
  · subst h16
    by_cases hl : d.size ≤ 512
    · refine ⟨decide (d.size ≠ 0) && decide (runT d d.size = d.size), fun w => ?_⟩
      have HM := Lib.hid (fun w => texts_any d w hl)
      obtain ⟨Q, hQ⟩ : ∃ Q, (decide (d.size ≠ 0) && decide (runT d d.size = d.size)) = Q := ⟨_, rfl⟩
      rw [hQ] at HM ⊢
      clear hQ
      have hl' : (d.size : Int) ≤ 512 := by omega
      go_enter Try.func63, Try.ntmps63
      go_wp2_with fail
      refine (HM.out w).mono ?_
      rintro e w1 ⟨rfl, hb⟩
      go_wp2_with fail
      go_ret
      exact ⟨rfl, hb⟩
    · refine ⟨false, fun w => ?_⟩
      have hl' : ¬ (d.size : Int) ≤ 512 := by omega
      have hl2 : (512 : Int) < d.size := by omega
      go_enter Try.func63, Try.ntmps63
      go_wp2_with fail
      go_ret
      exact ⟨rfl, Below.refl _ _⟩
  have e16 : (t == 16) = false := by simp; omega
  refine ⟨decide (d.size ≤ 512), fun w => ?_⟩
  have heq : decide ((d.size : Int) ≤ 512) = decide (d.size ≤ 512) := by by_cases h : d.size ≤ 512 <;> simp [h] <;> omega
  go_enter Try.func63, Try.ntmps63
  go_wp2_with fail
  go_ret
  exact ⟨rfl, Below.refl _ _⟩
theorem mayrec_any (r : RecT) (ht : 0 ≤ r.2.1 ∧ r.2.1 < 65536) (hn : r.1.size ≤ 100000) (hd : r.2.2.2.size ≤ 100000) : ∃ q : Bool, ∀ w, Calls Try.prog 47 #[recV r] w fun e w' => e = .returned (.bool q) ∧ Below w.heap.size w w' := by
  obtain ⟨m, hm⟩ : ∃ m, (labelsOf r.1).isSome = m := ⟨_, rfl⟩
  have HM := Lib.hid (fun w => may_any r.1 w (by unfold maxLen; omega))
  rw [hm] at HM
  clear hm
  unfold recV
  cases m with
  | false =>
    refine ⟨false, fun w => ?_⟩
    go_enter Try.func47, Try.ntmps47
    go_wp2_with fail
    refine (HM.out _).mono ?_
    rintro e w1 ⟨rfl, hb⟩
    have HB := Lib.hid (below_alloc _ (Below.refl _ _) (Nat.le_refl _) hb)
    clear hb
    go_wp2_with fail
    go_ret
    exact ⟨rfl, HB.out⟩
  | true =>
    by_cases h41 : r.2.1 = 41
    · have e41 : (r.2.1 != 41) = false := by simp [h41]
      clear h41
      refine ⟨false, fun w => ?_⟩
      go_enter Try.func47, Try.ntmps47
      go_wp2_with fail
      refine (HM.out _).mono ?_
      rintro e w1 ⟨rfl, hb⟩
      have hc := (Cs.new w #[.string r.1, .int .u16 r.2.1, .int .u32 r.2.2.1, .string r.2.2.2] 27 [.string r.1, .int .u16 r.2.1, .int .u32 r.2.2.1, .string r.2.2.2]).below hb
      have c1 := hc.get 1 _
      have c3 := hc.get 3 _
      have HB := Lib.hid (below_alloc _ (Below.refl _ _) (Nat.le_refl _) hb)
      clear hb hc
      go_wp2_with fail
      go_ret
      exact ⟨rfl, HB.out⟩
    · have e41 : (r.2.1 != 41) = true := by simp [h41]
      obtain ⟨q, hq⟩ := rmay_any r.2.1 ht r.2.2.2 hd
      have HQ := Lib.hid hq
      clear hq
      refine ⟨q, fun w => ?_⟩
      go_enter Try.func47, Try.ntmps47
      go_wp2_with fail
      refine (HM.out _).mono ?_
      rintro e w1 ⟨rfl, hb⟩
      have hc := (Cs.new w #[.string r.1, .int .u16 r.2.1, .int .u32 r.2.2.1, .string r.2.2.2] 27 [.string r.1, .int .u16 r.2.1, .int .u32 r.2.2.1, .string r.2.2.2]).below hb
      have c1 := hc.get 1 _
      have c3 := hc.get 3 _
      have HB := Lib.hid (below_alloc _ (Below.refl _ _) (Nat.le_refl _) hb)
      clear hb hc
      go_wp2_with fail
      refine (HQ.out w1).mono ?_
      rintro e w2 ⟨rfl, hb2⟩
      have HB2 := Lib.hid (below_trans HB.out HB.out.size hb2)
      clear hb2
      go_wp2_with fail
      go_ret
      exact ⟨rfl, HB2.out⟩
end Go.Proofs.Ytoacmdjbmbdjdaa
