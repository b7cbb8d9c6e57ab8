/- The walk of TableMany. -/
import Derived.Test.YtikbekchddinfaaLawTabR
import Derived.WalkSmall
namespace Go.Proofs.Ytikbekchddinfaa
open Go.RowKit
set_option linter.unusedVariables false
set_option maxRecDepth 20000
def keyN (i : Nat) : ByteArray := bytesN [i % 256, i / 256, i % 7]
theorem keyN_inj {i j : Nat} (hi : i < 2000) (hj : j < 2000) (h : keyN i = keyN j) : i = j := by
  have := bytesN_inj (by intro x hx; simp at hx; omega) (by intro x hx; simp at hx; omega) h
  simp at this; omega
theorem keyN_size (i : Nat) : (keyN i).size ≤ maxLen := by rw [keyN, bytesN_size]; simp [maxLen]
theorem keyN_any (i : Nat) (hi : i < 2000) (w : World) : Calls Try.prog 14 #[.int .i64 i] w fun e w' => e = .returned (.string (keyN i)) ∧ Below w.heap.size w w' := by
  obtain ⟨p, hp, hp2⟩ : ∃ p : Nat, (i : Int) % 256 = p ∧ p = i % 256 := ⟨i % 256, by omega, rfl⟩
  obtain ⟨q, hq, hq2⟩ : ∃ q : Nat, (i : Int) / 256 = q ∧ q = i / 256 := ⟨i / 256, by omega, rfl⟩
  obtain ⟨r, hr, hr2⟩ : ∃ r : Nat, (i : Int) % 7 = r ∧ r = i % 7 := ⟨i % 7, by omega, rfl⟩
  have hcv := conv_bytesN (P := Try.prog) w 41 9 5 Try.underlying41 Try.underlying5 Try.underlying9 [p, q, r] (by intro x hx; simp at hx; omega) 3 #[.int .u8 (p : Int), .int .u8 (q : Int), .int .u8 (r : Int)] rfl 3 rfl
  obtain ⟨K, hK⟩ : ∃ K, K = keyN i := ⟨_, rfl⟩
  rw [show bytesN [p, q, r] = K by rw [hK, keyN, hp2, hq2, hr2]] at hcv
  rw [← hK]
  have hq8 : q < 256 := by omega
  have hr8 : r < 256 := by omega
  have HK := Lib.hid hK
  clear hp2 hq2 hr2 hK
  go_enter Try.func14, Try.ntmps14
  go_wp2_with fail
  go_ret
  exact ⟨rfl, (Below.refl _ _).alloc (Nat.le_refl _) _⟩
/-- Behind so many puts. -/
def manyM : Nat → ByteArray → Option Int
  | 0 => fun _ => none
  | k + 1 => upd (manyM k) (keyN k) (some k)
theorem manyM_get : ∀ (k i : Nat), k ≤ 2000 → i < 2000 → manyM k (keyN i) = if i < k then some (i : Int) else none
  | 0, i, _, _ => by simp [manyM]
  | k + 1, i, hk, hi => by
    have ih := manyM_get k i (by omega) hi
    unfold manyM
    by_cases h : i = k
    · subst h; rw [upd_same, if_pos (by omega)]
    · rw [upd_other _ _ _ _ (fun e => h (keyN_inj hi (by omega) e)), ih]
      by_cases h2 : i < k
      · rw [if_pos h2, if_pos (by omega)]
      · rw [if_neg h2, if_neg (by omega)]
/-- Behind so many deletions. -/
def dropM (n step : Nat) : Nat → ByteArray → Option Int
  | 0 => manyM n
  | a + 1 => upd (dropM n step a) (keyN (a * step)) none
theorem dropM_get (n step : Nat) (hn : n ≤ 2000) (hs : 0 < step) : ∀ (a i : Nat), (∀ b, b < a → b * step < n) → i < n → dropM n step a (keyN i) = if i % step = 0 ∧ i / step < a then none else some (i : Int)
  | 0, i, _, hi => by
    unfold dropM
    rw [manyM_get n i hn (by omega), if_pos hi, if_neg (fun h => Nat.not_lt_zero _ h.2)]
  | a + 1, i, ha, hi => by
    have ih := dropM_get n step hn hs a i (fun b hb => ha b (by omega)) hi
    have hal := ha a (by omega)
    unfold dropM
    by_cases h : i = a * step
    · subst h
      rw [upd_same, if_pos ⟨Nat.mul_mod_left _ _, by rw [Nat.mul_div_cancel _ hs]; omega⟩]
    · rw [upd_other _ _ _ _ (fun e => h (keyN_inj (by omega) (by omega) e)), ih]
      have key : (i % step = 0 ∧ i / step < a) ↔ (i % step = 0 ∧ i / step < a + 1) := by
        constructor
        · rintro ⟨h1, h2⟩; exact ⟨h1, by omega⟩
        · rintro ⟨h1, h2⟩
          refine ⟨h1, ?_⟩
          rcases Nat.lt_or_ge (i / step) a with h3 | h3
          · exact h3
          · exfalso
            have h4 : i / step = a := by omega
            have h5 := Nat.div_add_mod i step
            rw [h1, h4, Nat.add_zero, Nat.mul_comm] at h5
            exact h h5.symm
      simp only [key]
def ManyL (w : World) (b : Nat) (V : Value) (M : ByteArray → Option Int) (lv : Nat) (wr : World) : Prop := ∃ us n, TabL w w.heap.size 2000 b V M lv us n wr
theorem ManyL.put {w wr : World} {b : Nat} {V : Value} {M : ByteArray → Option Int} {lv : Nat} (h : ManyL w b V M lv wr) (k : ByteArray) (v : Int) (hk : k.size ≤ maxLen) (hm : M k = none) (hl : lv + 1 ≤ 2000) (w1 : World) (hb : Below wr.heap.size wr w1) :
    Calls Try.prog 9 #[.pointer (some ⟨b, 0, none⟩), .string k, .int .i64 v] w1 fun e w' => e = .returned (.bool true) ∧ ∃ V', ManyL w b V' (upd M k (some v)) (lv + 1) w' := by
  obtain ⟨us, n, h⟩ := h
  refine ((h.below hb).put (by omega) k v hk).mono ?_
  rintro e w' ⟨rfl, V', us', n', h', -⟩
  refine ⟨by rw [hm]; rfl, V', us', n', h'.is rfl (by rw [hm]; rfl) ?_⟩
  rw [hm]; simp; omega
theorem ManyL.del {w wr : World} {b : Nat} {V : Value} {M : ByteArray → Option Int} {lv : Nat} (h : ManyL w b V M lv wr) (k : ByteArray) (hk : k.size ≤ maxLen) (x : Int) (hm : M k = some x) (w1 : World) (hb : Below wr.heap.size wr w1) :
    Calls Try.prog 10 #[.pointer (some ⟨b, 0, none⟩), .string k] w1 fun e w' => e = .returned (.bool true) ∧ ManyL w b V (upd M k none) (lv - 1) w' := by
  obtain ⟨us, n, h⟩ := h
  refine ((h.below hb).del (by omega) k hk).mono ?_
  rintro e w' ⟨rfl, h', -⟩
  exact ⟨by rw [hm]; rfl, us, n, h'.is rfl (by rw [hm]; rfl) (Nat.le_refl _)⟩
theorem ManyL.get {w wr : World} {b : Nat} {V : Value} {M : ByteArray → Option Int} {lv : Nat} (h : ManyL w b V M lv wr) (k : ByteArray) (hk : k.size ≤ maxLen) (w1 : World) (hb : Below wr.heap.size wr w1) :
    Calls Try.prog 11 #[.pointer (some ⟨b, 0, none⟩), .string k] w1 fun e w' => e = .returned (.tuple #[.int .i64 ((M k).getD 0), .bool (M k).isSome]) ∧ ManyL w b V M lv w' := by
  obtain ⟨us, n, h⟩ := h
  have h1 := h.below hb
  refine (h1.get (by omega) k hk).mono ?_
  rintro e w' ⟨rfl, hb'⟩
  exact ⟨rfl, us, n, h1.below hb'⟩
theorem ceil_div (n step a : Nat) (hs : 0 < step) (h1 : n ≤ a * step) (h2 : ∀ b, b < a → b * step < n) : (n + step - 1) / step = a := by
  rcases Nat.eq_zero_or_pos a with h0 | h0
  · subst h0; simp at h1; subst h1; exact Nat.div_eq_of_lt (by omega)
  · have h3 := h2 (a - 1) (by omega)
    rw [Nat.div_eq_of_lt_le]
    · have : a * step = (a - 1) * step + step := by conv => lhs; rw [show a = (a - 1) + 1 by omega, Nat.add_mul, Nat.one_mul]
      omega
    · rw [Nat.add_mul, Nat.one_mul]; omega
set_option maxHeartbeats 3200000 in
theorem tableMany_walk (w : World) (r : Int) (hr : (Lit.int .u16 r).wf = true) (d : Int) (hd : (Lit.int .u8 d).wf = true) :
    Calls Try.prog 5 #[.int .u16 r, .int .u8 d] w fun e w' => e = .returned (.bool true) ∧ Below w.heap.size w w' := by
  have hrb := bounds_u16 hr
  have hdb := bounds_u8 hd
  obtain ⟨n, hm⟩ : ∃ n : Nat, r % 2000 = n := ⟨(r % 2000).toNat, by omega⟩
  obtain ⟨s5, hs5⟩ : ∃ s5 : Nat, d % 5 = s5 := ⟨(d % 5).toNat, by omega⟩
  obtain ⟨st, hst⟩ : ∃ st : Nat, (2 : Int) + s5 = st := ⟨2 + s5, by omega⟩
  have hr0 : 0 ≤ r := by omega
  have hd0 : 0 ≤ d := by omega
  have hn2 : n < 2000 := by omega
  have hst2 : 2 ≤ st := by omega
  have hst6 : st ≤ 6 := by omega
  have hs5b : s5 < 256 := by omega
  have hst0 : 0 < st := by omega
  clear hr hd
  go_enter Try.func5, Try.ntmps5
  go_wp2_with fail
  refine (awake15_any _).mono ?_
  rintro e w1 ⟨rfl, hb1⟩
  have HB1 := Lib.hid hb1
  clear hb1
  go_wp2_with fail
  have h0 : Hid (TabL w w.heap.size 0 w1.heap.size (.slice none 0 0) (fun _ => none) 0 0 0 (w1.alloc (.cells #[.slice none 0 0, .int .i64 0, .int .i64 0] 27))) := Lib.hid (TabL.start w1 _ w _ HB1.out.size HB1.out)
  generalize hW2 : (w1.alloc (.cells #[.slice none 0 0, .int .i64 0, .int .i64 0] 27)) = w2 at *
  obtain ⟨b, hbb⟩ : ∃ b, w1.heap.size = b := ⟨_, rfl⟩
  rw [hbb] at h0 ⊢
  clear hW2 hbb
  try rw [hm]
  go_loopw [8] (fun i wr => ∃ (k : Nat) (V : Value), k ≤ n ∧ i = .int .i64 k ∧ Hid (ManyL w b V (manyM k) k wr)) (fun i _ => n - (intOf i).toNat)
  case atStart => exact ⟨0, _, Nat.zero_le _, rfl, Lib.hid ⟨0, 0, h0.out.is rfl rfl (by omega)⟩⟩
  case round =>
    obtain ⟨k, V, hk, rfl, HR⟩ := hrel
    clear h0
    by_cases hkm : k < n
    · have hkm' : (k : Int) < n := by omega
      have HP := Lib.hid (fun w1 hb => HR.out.put (keyN k) k (keyN_size k) (by rw [manyM_get k k (by omega) (by omega), if_neg (by omega)]) (by omega) w1 hb)
      clear HR
      go_wp2_with fail
      refine (keyN_any k (by omega) _).mono ?_
      rintro e w3 ⟨rfl, hb3⟩
      have HP3 := Lib.hid (HP.out _ hb3)
      clear HP hb3
      go_wp2_with fail
      refine HP3.out.mono ?_
      rintro e w4 ⟨rfl, V', h4⟩
      have H4 := Lib.hid h4
      clear h4 HP3
      go_wp2_with fail
      go_roundw
      case rel => exact ⟨k + 1, _, by omega, by go_num, H4⟩
      case measure => simp [intOf]; omega
    · obtain rfl : k = n := by omega
      have hkm' : ¬ (k : Int) < k := by omega
      go_wp2_with fail
      try rw [hs5]
      go_loopw [10] (fun i wr => ∃ (a : Nat) (V : Value), (∀ b, b < a → b * st < k) ∧ i = .int .i64 (a * st : Nat) ∧ a * st ≤ 3000 ∧ Hid (ManyL w b V (dropM k st a) (k - a) wr)) (fun i _ => 4000 - (intOf i).toNat)
      case atStart => exact ⟨0, _, fun b hb => by omega, by simp, by omega, HR⟩
      case round =>
        obtain ⟨a, V, ha, rfl, ha3, HR⟩ := hrel
        have HA := Lib.hid ha
        clear ha
        obtain ⟨q, hq⟩ : ∃ q, a * st = q := ⟨_, rfl⟩
        have HQ := Lib.hid hq
        rw [hq] at ha3 ⊢
        clear hq
        by_cases hqk : q < k
        · have hqk' : (q : Int) < k := by omega
          have hget : dropM k st a (keyN q) = some (q : Int) := by
            rw [dropM_get k st (by omega) hst0 a q HA.out hqk, if_neg]
            rintro ⟨h1, h2⟩
            rw [← HQ.out, Nat.mul_div_cancel _ hst0] at h2
            omega
          have HP := Lib.hid (fun w1 hb => HR.out.del (keyN q) (keyN_size q) q hget w1 hb)
          clear HR hget
          go_wp2_with fail
          refine (keyN_any q (by omega) _).mono ?_
          rintro e w3 ⟨rfl, hb3⟩
          have HP3 := Lib.hid (HP.out _ hb3)
          clear HP hb3
          go_wp2_with fail
          refine HP3.out.mono ?_
          rintro e w4 ⟨rfl, h4⟩
          have H4 := Lib.hid h4
          clear h4 HP3
          go_wp2_with fail
          go_roundw
          case rel =>
            have hs : (a + 1) * st = q + st := by rw [Nat.add_mul, Nat.one_mul, HQ.out]
            refine ⟨a + 1, V, ?_, by rw [hs]; simp, by rw [hs]; omega, Lib.hid ?_⟩
            · intro b hb
              rcases Nat.lt_or_ge b a with h | h
              · exact HA.out b h
              · obtain rfl : b = a := by omega
                rw [HQ.out]; exact hqk
            · have := H4.out
              rw [← HQ.out] at this
              rw [show k - (a + 1) = k - a - 1 by omega]
              exact this
          case measure => simp [intOf]; omega
        · have hqk' : ¬ (q : Int) < k := by omega
          have hceil := ceil_div k st a hst0 (by rw [HQ.out]; omega) HA.out
          have HG : Hid (∀ i, i < k → dropM k st a (keyN i) = if i % st = 0 then none else some (i : Int)) := Lib.hid (fun i hi => by
            rw [dropM_get k st (by omega) hst0 a i HA.out hi]
            by_cases h1 : i % st = 0
            · have h2 : i < a * st := by have := HQ.out; omega
              rw [if_pos h1, if_pos ⟨h1, (Nat.div_lt_iff_lt_mul hst0).2 h2⟩]
            · rw [if_neg h1, if_neg (fun h => h1 h.1)])
          have hak : a ≤ k := by
            rcases Nat.eq_zero_or_pos a with h | h
            · omega
            · have h3 := HA.out (a - 1) (by omega)
              have : a - 1 ≤ (a - 1) * st := Nat.le_mul_of_pos_right _ hst0
              omega
          have HCE := Lib.hid hceil
          clear hceil HQ HA
          go_wp2_with fail
          go_loopw [11] (fun i wr => ∃ (j : Nat) (V : Value), j ≤ k ∧ i = .int .i64 j ∧ Hid (ManyL w b V (dropM k st a) (k - a) wr)) (fun i _ => k - (intOf i).toNat)
          case atStart => exact ⟨0, _, Nat.zero_le _, rfl, HR⟩
          case round =>
            obtain ⟨j, V, hj, rfl, HR⟩ := hrel
            by_cases hjk : j < k
            · have hjk' : (j : Int) < k := by omega
              have HP := Lib.hid (fun w1 hb => HR.out.get (keyN j) (keyN_size j) w1 hb)
              rw [HG.out j hjk] at HP
              have hstz : ¬ (st : Int) = 0 := by omega
              obtain ⟨md, hmd⟩ : ∃ md : Nat, (j : Int) % st = md ∧ md = j % st := ⟨j % st, by simp, rfl⟩
              obtain ⟨hmd, hmd2⟩ := hmd
              have hmd' : (j : Int).tmod st = md := by rw [Int.tmod_eq_emod_of_nonneg (by omega)]; exact hmd
              clear HR
              rw [← hmd2] at HP
              clear hmd2
              by_cases h1 : md = 0
              · subst h1
                rw [if_pos rfl] at HP
                go_wp2_with fail
                refine (keyN_any j (by omega) _).mono ?_
                rintro e w3 ⟨rfl, hb3⟩
                have HP3 := Lib.hid (HP.out _ hb3)
                clear HP hb3
                go_wp2_with fail
                refine HP3.out.mono ?_
                rintro e w4 ⟨rfl, h4⟩
                have H4 := Lib.hid h4
                clear h4 HP3
                go_wp2_with fail
                go_roundw
                case rel => exact ⟨j + 1, _, by omega, by go_num, H4⟩
                case measure => simp [intOf]; omega
              · rw [if_neg h1] at HP
                have h1' : ((md : Int) != 0) = true := by rw [bne_iff_ne]; omega
                go_wp2_with fail
                refine (keyN_any j (by omega) _).mono ?_
                rintro e w3 ⟨rfl, hb3⟩
                have HP3 := Lib.hid (HP.out _ hb3)
                clear HP hb3
                go_wp2_with fail
                refine HP3.out.mono ?_
                rintro e w4 ⟨rfl, h4⟩
                have H4 := Lib.hid h4
                clear h4 HP3
                go_wp2_with fail
                go_roundw
                case rel => exact ⟨j + 1, _, by omega, by go_num, H4⟩
                case measure => simp [intOf]; omega
            · obtain rfl : j = k := by omega
              have hjk' : ¬ (j : Int) < j := by omega
              obtain ⟨us, nn, hT⟩ := HR.out
              have HLEN := Lib.hid (fun q => len_of (hT.tab.below (w' := wr.drewN q) (below_drewN (Below.refl _ _) q)))
              have HB := Lib.hid hT.bel
              clear hT HR
              have hstz : ¬ (st : Int) = 0 := by omega
              have hdv : ((j : Int) + st - 1) / st = (a : Int) := by
                have := HCE.out
                rw [show ((j : Int) + st - 1) = ((j + st - 1 : Nat) : Int) by omega, ← this]; simp
              have hi1 : IntKind.i64.wrap ((j : Int) + st) = (j : Int) + st := IntWalk.i64_in _ (by omega)
              have hi2 : IntKind.i64.wrap ((j : Int) + st - 1) = (j : Int) + st - 1 := IntWalk.i64_in _ (by omega)
              have hi3 : IntKind.i64.wrap ((j : Int) - (a : Int)) = (j : Int) - (a : Int) := IntWalk.i64_in _ (by omega)
              have hi4 : ((j : Int) + st - 1).tdiv st = (a : Int) := by rw [Int.tdiv_eq_ediv_of_nonneg (by omega)]; exact hdv
              have hi5 : IntKind.i64.wrap (a : Int) = a := IntWalk.i64_in _ (by omega)
              have heq : (((j - a : Nat) : Int) == (j : Int) - a) = true := by rw [beq_iff_eq]; omega
              go_wp2_with fail
              go_quiet ((go_at_call 12; exact Calls.quiet_of_same ((HLEN.out _).mono fun e w' ⟨a, b⟩ => ⟨a, b.symm⟩)))
              go_wp2
              go_ret
              exact ⟨rfl, below_drewN HB.out _⟩
end Go.Proofs.Ytikbekchddinfaa
