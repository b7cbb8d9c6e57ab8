/- The walks of TrieDeep and TrieWhole. -/
import Derived.Test.YtgfoahednmipkaaDoorLawTrM
namespace Go.Proofs.YtgfoahednmipkaaDoor
open Go.RowKit
set_option linter.unusedVariables false
set_option maxRecDepth 200000
theorem u8_nat {z : Int} (h : (Lit.int .u8 z).wf = true) : ∃ k : Nat, z = k ∧ k < 256 := by
  have := bounds_u8 h
  exact ⟨z.toNat, by omega, by omega⟩
theorem u16_nat {z : Int} (h : (Lit.int .u16 z).wf = true) : ∃ k : Nat, z = k ∧ k < 65536 := by
  have := bounds_u16 h
  exact ⟨z.toNat, by omega, by omega⟩
theorem long_is {t : Tr} {q : List UInt8} {n : Nat} {v : Int} (ho : t.Ok []) (hf : t.Fit) (hm : mayL q = true) (hn : n ≤ q.length) (hg : getR t (q.take n) = some v) (h2 : ∀ m, n < m → m ≤ q.length → getR t (q.take m) = none) :
    (if mayL q then longR t q none else none) = some (n, v) := by
  rw [if_pos hm]
  rcases long_spec (q := q) (b := none) ho with ⟨k, x, e1, e2, e3, e4⟩ | ⟨e1, e2⟩
  · have h5 : n ≤ k := e4 n v hn ((get_spec ho hf).1 hg)
    have h6 : k = n := by
      rcases Nat.lt_or_ge n k with h | h
      · have := h2 k h e2
        rw [(get_spec ho hf).2 e3] at this; cases this
      · omega
    subst h6
    rw [(get_spec ho hf).2 e3] at hg
    injection hg with hg
    rw [e1, hg]
  · exact absurd ((get_spec ho hf).1 hg) (e2 n v hn)
theorem long_no {t : Tr} {q : List UInt8} (ho : t.Ok []) (hf : t.Fit) (h2 : ∀ m, m ≤ q.length → getR t (q.take m) = none) :
    (if mayL q then longR t q none else none) = none := by
  split
  · rcases long_spec (q := q) (b := none) ho with ⟨k, x, e1, e2, e3, e4⟩ | ⟨e1, e2⟩
    · have := h2 k e2
      rw [(get_spec ho hf).2 e3] at this; cases this
    · exact e1
  · rfl
def sg (b : Nat) : UInt8 := if b = 1 then 49 else 48
theorem sg_enc (b : Nat) (hb : b < 2) : Utf8.encode (wrap32 (48 + (b : Int))) = sb [sg b] := by
  rcases (by omega : b = 0 ∨ b = 1) with rfl | rfl
  · have e3 : wrap32 (48 + ((0 : Nat) : Int)) = 48 := by simp [wrap32]
    rw [e3]; rfl
  · have e3 : wrap32 (48 + ((1 : Nat) : Int)) = 49 := by simp [wrap32]
    rw [e3]; rfl
/-- A word of so many signs. -/
def word (f : Nat → Nat) (n : Nat) : List UInt8 := (List.range n).map fun k => sg (f k)
theorem word_len (f : Nat → Nat) (n : Nat) : (word f n).length = n := by simp [word]
theorem word_next (f : Nat → Nat) (n : Nat) : word f (n + 1) = word f n ++ [sg (f n)] := by simp [word, List.range_succ]
theorem word_may (f : Nat → Nat) (n : Nat) (h : n ≤ 128) : mayL (word f n) = true := by
  rw [mayL_iff]
  refine ⟨by rw [word_len]; exact h, fun x hx => ?_⟩
  simp only [word, List.mem_map] at hx
  obtain ⟨k, _, rfl⟩ := hx
  unfold sg
  split <;> simp
theorem word_take (f : Nat → Nat) (n m : Nat) (h : m ≤ n) : (word f n).take m = word f m := by
  rw [word, ← List.map_take, List.take_range, Nat.min_eq_left h]; rfl
/-- The words of up to so many signs have their numbers. -/
structure DeepS (w : World) (a : Nat) (i : Nat) (wr : World) (t : Tr) (bs : List Nat) : Prop where
  tl : TrL w w.heap.size a bs t wr
  len : t.keys.length = i
  get : ∀ q, getR t q = if 1 ≤ q.length ∧ q.length ≤ i ∧ q = word (· % 2) q.length then some ((q.length : Int) - 1) else none
theorem deep_next {t : Tr} {i : Nat} (ho : t.Ok []) (hf : t.Fit) (hi : i < 128) (hl : t.keys.length = i) (hg : ∀ q, getR t q = if 1 ≤ q.length ∧ q.length ≤ i ∧ q = word (· % 2) q.length then some ((q.length : Int) - 1) else none) :
    getR t (word (· % 2) (i + 1)) = none ∧ (putR t (word (· % 2) (i + 1)) i).keys.length = i + 1 ∧ ∀ q, getR (putR t (word (· % 2) (i + 1)) i) q = if 1 ≤ q.length ∧ q.length ≤ i + 1 ∧ q = word (· % 2) q.length then some ((q.length : Int) - 1) else none := by
  have hm := word_may (· % 2) (i + 1) (by omega)
  have h0 : getR t (word (· % 2) (i + 1)) = none := by rw [hg, if_neg]; rintro ⟨_, h, _⟩; rw [word_len] at h; omega
  refine ⟨h0, ?_, fun q => ?_⟩
  · rw [keys_put ho hf hm, h0, hl]; rfl
  · rw [get_put ho hf hm, hg]
    by_cases e : q = word (· % 2) (i + 1)
    · subst e
      rw [if_pos rfl, word_len, if_pos ⟨by omega, by omega, rfl⟩]
      congr 1; omega
    · rw [if_neg e]
      by_cases h1 : 1 ≤ q.length ∧ q.length ≤ i ∧ q = word (· % 2) q.length
      · rw [if_pos h1, if_pos ⟨h1.1, by omega, h1.2.2⟩]
      · rw [if_neg h1, if_neg]
        rintro ⟨h2, h3, h4⟩
        rcases Nat.lt_or_ge i q.length with h5 | h5
        · have : q.length = i + 1 := by omega
          rw [this] at h4; exact e h4
        · exact h1 ⟨h2, h5, h4⟩
set_option maxHeartbeats 3200000 in
theorem trieDeep_walk (w : World) (n0 : Int) (hn : (Lit.int .u8 n0).wf = true) (m0 : Int) (hm : (Lit.int .u8 m0).wf = true) :
    Calls Tryd.prog 7 #[.int .u8 n0, .int .u8 m0] w fun e w' => e = .returned (.bool true) ∧ Below w.heap.size w w' := by
  obtain ⟨n, rfl, hn⟩ := u8_nat hn
  obtain ⟨m, rfl, hm⟩ := u8_nat hm
  obtain ⟨k1, hk1⟩ : ∃ k1 : Nat, (n : Int) % 128 = k1 := ⟨n % 128, by omega⟩
  obtain ⟨j, hj⟩ : ∃ j : Nat, (m : Int) % 129 = j := ⟨m % 129, by omega⟩
  have hk128 : k1 < 128 := by omega
  have hj129 : j < 129 := by omega
  obtain ⟨k, hk⟩ : ∃ k : Nat, (k1 : Int) + 1 = k := ⟨k1 + 1, by omega⟩
  have hk1' : 1 ≤ k ∧ k ≤ 128 := by omega
  have HK1 := Lib.hid hk1'
  have e1 : (n : Int).tmod 128 = k1 := by rw [Int.tmod_eq_emod_of_nonneg (by omega)]; exact hk1
  have e2 : (m : Int).tmod 129 = j := by rw [Int.tmod_eq_emod_of_nonneg (by omega)]; exact hj
  clear hk1 hj hm hn hk1'
  go_enter Tryd.func7, Tryd.ntmps7
  go_wp2_with fail
  refine (awake16_any _).mono ?_
  rintro e w1 ⟨rfl, hb1⟩
  have HB1 := Lib.hid hb1
  clear hb1
  have h0 : Hid (TrL w w.heap.size w1.heap.size [] .nil (w1.alloc (.cells #[.pointer none, .int .i64 0] 28))) := Lib.hid (TrL.start w1 _ w _ HB1.out.size HB1.out)
  go_wp2_with fail
  generalize (w1.alloc (.cells #[.pointer none, .int .i64 0] 28)) = w2 at *
  obtain ⟨a, ha⟩ : ∃ a, w1.heap.size = a := ⟨_, rfl⟩
  rw [ha] at h0 ⊢
  clear ha HB1 e1 e2 hk hk128 hj129
  go_loopw [8, 9] (fun s i wr => ∃ (c : Nat) (S : ByteArray), c ≤ k ∧ s = .string S ∧ i = .int .i64 c ∧ Hid (S = sb (word (· % 2) c)) ∧ Hid (∃ t bs, DeepS w a c wr t bs)) (fun _ i _ => k - (intOf i).toNat)
  case atStart => exact ⟨0, _, Nat.zero_le _, rfl, rfl, Lib.hid rfl, Lib.hid ⟨.nil, [], h0.out, rfl, fun q => by
    rw [if_neg (by omega)]; unfold getR; split <;> rfl⟩⟩
  case round =>
    obtain ⟨c, S, hc, rfl, rfl, hS, HD⟩ := hrel
    clear h0
    by_cases hck : c < k
    · have d1 : (c : Int) < k := by omega
      obtain ⟨b, hb⟩ : ∃ b : Nat, (c : Int) % 2 = b := ⟨c % 2, by omega⟩
      have hb2 : b < 2 := by omega
      have hb3 : b = c % 2 := by omega
      have hE := sg_enc b hb2
      obtain ⟨d, hd48⟩ : ∃ d : Nat, (48 : Int) + b = d := ⟨48 + b, by omega⟩
      have hdd : d < 50 := by omega
      have w3 : wrap32 (d : Int) = d := by simp [wrap32]; omega
      rw [hd48, w3] at hE
      obtain ⟨E, hEE⟩ : ∃ E, sb [sg b] = E := ⟨_, rfl⟩
      have hes : E.size = 1 := by rw [← hEE, sb_size]; rfl
      have hss : S.size = c := by rw [hS.out, sb_size, word_len]
      have HN : Hid (S ++ E = sb (word (· % 2) (c + 1))) := Lib.hid (by rw [word_next, ← sb_append, hS.out, ← hEE, hb3])
      rw [hEE] at hE
      have hc128 : c < 128 := by have := HK1.out; omega
      have f1 : ¬ 9223372036854775807 < S.size + E.size := by omega
      have f2 : S.size + E.size ≤ 9223372036854775807 := by omega
      obtain ⟨t, bs, hd⟩ := HD.out
      obtain ⟨n1, n2, n3⟩ := deep_next hd.tl.ok hd.tl.fit hc128 hd.len hd.get
      have HPUT := Lib.hid (hd.tl.put (word (· % 2) (c + 1)) c (word_may _ _ (by omega)) (by rw [hd.len]; omega))
      rw [n1] at HPUT
      have HNX := Lib.hid (And.intro n2 n3)
      clear hb2 hb3 hEE hes hss n1 n2 n3 HD hS
      obtain ⟨S2, hS2⟩ : ∃ S2, S ++ E = S2 := ⟨_, rfl⟩
      have HS2 : Hid (S2 = sb (word (· % 2) (c + 1))) := Lib.hid (by rw [← hS2]; exact HN.out)
      rw [← HS2.out] at HPUT
      clear hd HN

      go_wp2_with fail
      refine HPUT.out.mono ?_
      rintro e w3 ⟨rfl, hn⟩
      obtain ⟨bs3, h3⟩ := hn.ex
      have H3 : Hid (∃ t bs, DeepS w a (c + 1) w3 t bs) := Lib.hid ⟨_, bs3, h3, HNX.out.1, HNX.out.2⟩
      clear hn h3 HPUT HNX hS2
      go_wp2_with fail
      go_roundw
      case rel => exact ⟨c + 1, _, by omega, rfl, by go_num, HS2, H3⟩
      case measure => simp [intOf]; omega
    · obtain rfl : c = k := by omega
      have hk1' := HK1.out
      by_cases hjk : j < c
      · skip
        have m3 : min (j : Int) (c : Int) = (j : Int) := by omega
        have HSP : Hid (S.extract 0 j = sb (word (· % 2) j)) := Lib.hid (by rw [hS.out, sb_take, word_take _ _ _ (by omega)])
        have HSZ : Hid ((sb (word (· % 2) j)).size = j) := Lib.hid (by rw [sb_size, word_len])
        have hle : (j : Int) ≤ S.size := by rw [hS.out, sb_size, word_len]; omega
        have hle' : j ≤ S.size := by omega
        obtain ⟨t, bs, hd⟩ := HD.out
        have HLEN := Lib.hid hd.tl.len
        rw [hd.len] at HLEN
        have HLONG := Lib.hid (hd.tl.longest (word (· % 2) j) (by rw [word_len]; omega))
        have HT := Lib.hid hd.tl
        have HKL := Lib.hid hd.len
        have hx := HSP.out
        have hy := HSZ.out
        by_cases hp0 : j = 0
        · have HNO : Hid ((if mayL (word (· % 2) j) then longR t (word (· % 2) j) none else none) = none) := Lib.hid (long_no hd.tl.ok hd.tl.fit (fun m hm => by
            rw [hd.get, if_neg]; rintro ⟨h1, _⟩; rw [word_len] at hm; simp [word_len] at h1; omega))
          rw [HNO.out] at HLONG
          generalize sb (word (· % 2) j) = PB at *
          have d5 : ((j : Int) == 0) = true := by simp; omega
          clear hd hS HD HSP HSZ HK1 HNO hp0
          go_wp2_with fail
          refine HLONG.out.mono ?_
          rintro e w5 ⟨rfl, hb⟩
          have H5 := Lib.hid (HT.out.below hb)
          clear hb
          simp only [longV]
          go_wp2_with fail
          go_ret
          exact ⟨rfl, H5.out.bel⟩
        · obtain ⟨p1, hp1⟩ : ∃ p1 : Nat, (j : Int) - 1 = p1 := ⟨j - 1, by omega⟩
          have HIS : Hid ((if mayL (word (· % 2) j) then longR t (word (· % 2) j) none else none) = some (j, (p1 : Int))) := Lib.hid (by
            have hg : getR t (word (· % 2) j) = some (p1 : Int) := by rw [hd.get, word_len, if_pos ⟨by omega, by omega, rfl⟩, hp1]
            have := getR_some hg
            rwa [word_len] at this)
          rw [HIS.out] at HLONG
          generalize sb (word (· % 2) j) = PB at *
          have d5 : ((j : Int) == 0) = false := by simp; omega
          clear hd hS HD HSP HSZ HK1 HIS hp0
          go_wp2_with fail
          refine HLONG.out.mono ?_
          rintro e w5 ⟨rfl, hb⟩
          have H5 := Lib.hid (HT.out.below hb)
          have HLEN5 := Lib.hid H5.out.len
          rw [HKL.out] at HLEN5
          clear hb HLEN
          simp only [longV]
          go_wp2_with fail
          refine HLEN5.out.mono ?_
          rintro e w6 ⟨rfl, rfl⟩
          go_wp2_with fail
          go_ret
          exact ⟨rfl, H5.out.bel⟩
      · skip
        have m3 : min (j : Int) (c : Int) = (c : Int) := by omega
        have HSP : Hid (S.extract 0 c = sb (word (· % 2) c)) := Lib.hid (by rw [hS.out, sb_take, word_take _ _ _ (by omega)])
        have HSZ : Hid ((sb (word (· % 2) c)).size = c) := Lib.hid (by rw [sb_size, word_len])
        have hle : (c : Int) ≤ S.size := by rw [hS.out, sb_size, word_len]; omega
        have hle' : c ≤ S.size := by omega
        obtain ⟨t, bs, hd⟩ := HD.out
        have HLEN := Lib.hid hd.tl.len
        rw [hd.len] at HLEN
        have HLONG := Lib.hid (hd.tl.longest (word (· % 2) c) (by rw [word_len]; omega))
        have HT := Lib.hid hd.tl
        have HKL := Lib.hid hd.len
        have hx := HSP.out
        have hy := HSZ.out
        by_cases hp0 : c = 0
        · have HNO : Hid ((if mayL (word (· % 2) c) then longR t (word (· % 2) c) none else none) = none) := Lib.hid (long_no hd.tl.ok hd.tl.fit (fun m hm => by
            rw [hd.get, if_neg]; rintro ⟨h1, _⟩; rw [word_len] at hm; simp [word_len] at h1; omega))
          rw [HNO.out] at HLONG
          generalize sb (word (· % 2) c) = PB at *
          have d5 : ((c : Int) == 0) = true := by simp; omega
          clear hd hS HD HSP HSZ HK1 HNO hp0
          go_wp2_with fail
          refine HLONG.out.mono ?_
          rintro e w5 ⟨rfl, hb⟩
          have H5 := Lib.hid (HT.out.below hb)
          clear hb
          simp only [longV]
          go_wp2_with fail
          go_ret
          exact ⟨rfl, H5.out.bel⟩
        · obtain ⟨p1, hp1⟩ : ∃ p1 : Nat, (c : Int) - 1 = p1 := ⟨c - 1, by omega⟩
          have HIS : Hid ((if mayL (word (· % 2) c) then longR t (word (· % 2) c) none else none) = some (c, (p1 : Int))) := Lib.hid (by
            have hg : getR t (word (· % 2) c) = some (p1 : Int) := by rw [hd.get, word_len, if_pos ⟨by omega, by omega, rfl⟩, hp1]
            have := getR_some hg
            rwa [word_len] at this)
          rw [HIS.out] at HLONG
          generalize sb (word (· % 2) c) = PB at *
          have d5 : ((c : Int) == 0) = false := by simp; omega
          clear hd hS HD HSP HSZ HK1 HIS hp0
          go_wp2_with fail
          refine HLONG.out.mono ?_
          rintro e w5 ⟨rfl, hb⟩
          have H5 := Lib.hid (HT.out.below hb)
          have HLEN5 := Lib.hid H5.out.len
          rw [HKL.out] at HLEN5
          clear hb HLEN
          simp only [longV]
          go_wp2_with fail
          refine HLEN5.out.mono ?_
          rintro e w6 ⟨rfl, rfl⟩
          go_wp2_with fail
          go_ret
          exact ⟨rfl, H5.out.bel⟩
end Go.Proofs.YtgfoahednmipkaaDoor
