/- The walk of TableRound. -/
import Derived.Test.YtikbekchddinfaaTabT
import Derived.Test.YtikbekchddinfaaTabC
import Derived.Test.YtikbekchddinfaaView
import Derived.Test.YtikbekchddinfaaReg2
import Derived.Outline
namespace Go.Proofs.Ytikbekchddinfaa
open Go.RowKit
set_option linter.unusedVariables false
set_option maxRecDepth 20000
theorem awake15_any (w : World) : Calls Try.prog 7 #[] w fun e w' => e = .returned (.bool true) ∧ Below w.heap.size w w' := by
  go_enter Try.func7, Try.ntmps7
  go_wp2_with fail
  have hC0 : Cs (w.alloc (.cells #[.slice none 0 0, .int .i64 0, .int .i64 0] 27)) w.heap.size [.slice none 0 0, .int .i64 0, .int .i64 0] := Cs.new w _ _ _
  have hB0 : Below w.heap.size w (w.alloc (.cells #[.slice none 0 0, .int .i64 0, .int .i64 0] 27)) := (Below.refl _ _).alloc (Nat.le_refl _) _
  obtain ⟨b, hb⟩ : ∃ b, w.heap.size = b := ⟨_, rfl⟩
  have hBb : b ≤ b := Nat.le_refl _
  rw [hb] at hC0 hB0 ⊢
  refine (put_first _ b b 1 hBb hC0).mono ?_
  rintro e w1 ⟨rfl, g, hbg, hBg, hC1, hS1, hB1⟩
  go_wp2_with fail
  refine (put_again _ b g b 1 1 1 2 hbg hBb hBg hC1 hS1).mono ?_
  rintro e w2 ⟨rfl, hC2, hS2, hB2⟩
  go_wp2_with fail
  refine (get_live _ b g 1 1 2 hC2 hS2).mono ?_
  rintro e w3 ⟨rfl, hB3⟩
  have hC3 := hC2.below hB3
  go_wp2_with fail
  refine (len_any _ b _ 1 1 hC3).mono ?_
  rintro e w4 ⟨rfl, rfl⟩
  go_wp2
  go_ret
  have q := hC2.lt
  refine ⟨rfl, ?_⟩
  rw [hb]
  exact (((hB0.trans hB1).trans hB2).trans (hB3.mono (by omega)))
/-- A table of the law's own: its blocks lie from B on. -/
structure TabL (W : World) (B most : Nat) (b : Nat) (V : Value) (M : ByteArray → Option Int) (lv us n : Nat) (w : World) : Prop where
  tab : Tab most w b [] V M lv us n
  bel : Below B W w
  base : B ≤ b
  own : ∀ q, V.ownBlock = some q → B ≤ q
section
variable {W w w' : World} {B most b : Nat} {V : Value} {M : ByteArray → Option Int} {lv us n : Nat}
theorem TabL.below (h : TabL W B most b V M lv us n w) (hb : Below w.heap.size w w') : TabL W B most b V M lv us n w' :=
  ⟨h.tab.below hb, h.bel.trans (hb.mono (Nat.le_trans h.base (Nat.le_of_lt h.tab.lt))), h.base, h.own⟩
theorem TabL.start (w : World) (t : TypeId) (W : World) (B : Nat) (hB : B ≤ w.heap.size) (hb : Below B W w) : TabL W B 0 w.heap.size (.slice none 0 0) (fun _ => none) 0 0 0 (w.alloc (.cells #[.slice none 0 0, .int .i64 0, .int .i64 0] t)) :=
  ⟨Tab.new _ _ _ (Cs.new w _ _ _), hb.alloc hB _, hB, fun q hq => by cases hq⟩
/-- Put. -/
theorem TabL.put (h : TabL W B most b V M lv us n w) (hm : most ≤ 68719476735) (k : ByteArray) (v : Int) (hk : k.size ≤ maxLen) :
    Calls Try.prog 9 #[.pointer (some ⟨b, 0, none⟩), .string k, .int .i64 v] w fun e w' => e = .returned (.bool (M k).isNone) ∧ ∃ V' us' n', TabL W B (max most (if (M k).isSome then lv else lv + 1)) b V' (upd M k (some v)) (if (M k).isSome then lv else lv + 1) us' n' w' ∧ 8 ≤ n' ∧
      Only (fun q => q = b ∨ V.ownBlock = some q) w w' ∧ (V'.ownBlock = V.ownBlock ∨ ∃ g, V'.ownBlock = some g ∧ w.heap.size ≤ g) :=
  (put_tab h.tab hm k v hk).mono fun e w' ⟨he, V', us', n', h1, h2, h3, h4⟩ =>
    ⟨he, V', us', n', ⟨h1, h.bel.trans (h3.below (Nat.le_trans h.base (Nat.le_of_lt h.tab.lt)) (fun k hk e => by
      have h5 := h.base
      rcases e with e | e
      · omega
      · have := h.own k e; omega)), h.base, fun q hq => by
        rcases h4 with e | ⟨g, e, hg⟩
        · rw [e] at hq; exact h.own q hq
        · rw [e] at hq; injection hq with hq; have := h.base; have := h.tab.lt; omega⟩, h2, h3, h4⟩
theorem TabL.del (h : TabL W B most b V M lv us n w) (hm : most ≤ 68719476735) (k : ByteArray) (hk : k.size ≤ maxLen) :
    Calls Try.prog 10 #[.pointer (some ⟨b, 0, none⟩), .string k] w fun e w' => e = .returned (.bool (M k).isSome) ∧ TabL W B most b V (upd M k none) (if (M k).isSome then lv - 1 else lv) us n w' ∧ Only (fun q => q = b ∨ V.ownBlock = some q) w w' :=
  (del_tab h.tab hm k hk).mono fun e w' ⟨he, h1, h3⟩ =>
    ⟨he, ⟨h1, h.bel.trans (h3.below (Nat.le_trans h.base (Nat.le_of_lt h.tab.lt)) (fun k hk e => by
      have h5 := h.base
      rcases e with e | e
      · omega
      · have := h.own k e; omega)), h.base, h.own⟩, h3⟩
theorem TabL.get (h : TabL W B most b V M lv us n w) (hm : most ≤ 68719476736) (k : ByteArray) (hk : k.size ≤ maxLen) :
    Calls Try.prog 11 #[.pointer (some ⟨b, 0, none⟩), .string k] w fun e w' => e = .returned (.tuple #[.int .i64 ((M k).getD 0), .bool (M k).isSome]) ∧ Below w.heap.size w w' := get_tab h.tab hm k hk
theorem TabL.is {M' : ByteArray → Option Int} {lv' most' : Nat} (h : TabL W B most b V M lv us n w) (hM : M = M') (hl : lv = lv') (hm : most ≤ most') : TabL W B most' b V M' lv' us n w := by
  subst hM hl; exact ⟨h.tab.more hm, h.bel, h.base, h.own⟩
end
theorem upd_twice (M : ByteArray → Option Int) (k : ByteArray) (u v : Option Int) : upd (upd M k u) k v = upd M k v := by
  funext q; unfold upd; split <;> rfl
theorem upd_empty (k : ByteArray) (v : Int) : upd (upd (fun _ => none) k (some v)) k none = fun _ => none := by
  rw [upd_twice]; exact upd_none rfl
/-- Bytes by numbers, as a string. -/
def bytesN (ns : List Nat) : ByteArray := ⟨(ns.map UInt8.ofNat).toArray⟩
theorem bytesN_size (ns : List Nat) : (bytesN ns).size = ns.length := by simp [bytesN, ByteArray.size]
theorem conv_bytesN {P : Program} (w : World) (src dst e : TypeId) (hs : P.underlying src = some (.slice e)) (he : P.underlying e = some (.int .u8)) (hd : P.underlying dst = some .string) (ns : List Nat) (hn : ∀ x ∈ ns, x < 256) (c : Nat) (cs : Array Value) (hcs : cs.toList = ns.map (fun x => .int .u8 (x : Int))) (n : Nat) (hl : ns.length = n) :
    (convert src dst (.slice (some ⟨w.heap.size, 0, none⟩) n c)).run P (w.alloc (.cells cs e)) = .ok (.string (bytesN ns)) (w.alloc (.cells cs e)) := by
  subst hl
  have hl : (ns.map UInt8.ofNat).length = ns.length := by simp
  have h := run_convert_bytes_back (P := P) (w.alloc (.cells cs e)) src dst e ⟨w.heap.size, 0, none⟩ c (ns.map UInt8.ofNat) hs he hd (fun j hj => by
    have hj' : j < ns.length := by simpa using hj
    have h1 := news_at w cs e j (.int .u8 (ns[j] : Int)) (by rw [hcs, List.getElem?_map, List.getElem?_eq_getElem hj']; rfl)
    rw [h1, List.getElem_map]
    have h2 := hn _ (List.getElem_mem hj')
    congr 2
    rw [UInt8.toNat_ofNat']; omega)
  rw [hl] at h
  exact h
theorem bytesN_inj {a b : List Nat} (ha : ∀ x ∈ a, x < 256) (hb : ∀ x ∈ b, x < 256) (h : bytesN a = bytesN b) : a = b := by
  have h1 : a.map UInt8.ofNat = b.map UInt8.ofNat := by
    have := congrArg (fun s : ByteArray => s.data.toList) h
    simpa [bytesN] using this
  have h2 : (a.map UInt8.ofNat).map UInt8.toNat = (b.map UInt8.ofNat).map UInt8.toNat := by rw [h1]
  have key : ∀ l : List Nat, (∀ x ∈ l, x < 256) → (l.map UInt8.ofNat).map UInt8.toNat = l := by
    intro l hl
    rw [List.map_map]
    conv => rhs; rw [← List.map_id l]
    apply List.map_congr_left
    intro x hx
    simp [UInt8.toNat_ofNat']; exact hl x hx
  rw [key a ha, key b hb] at h2
  exact h2
/-- At the loop's head. -/
def RoundL (w : World) (b : Nat) (V : Value) (i : Nat) (wr : World) : Prop := ∃ us n, TabL w w.heap.size 1 b V (fun _ => none) 0 us n wr
set_option maxHeartbeats 1600000 in
theorem tableRound_walk (w : World) (r : Int) (hr : (Lit.int .u16 r).wf = true) :
    Calls Try.prog 6 #[.int .u16 r] w fun e w' => e = .returned (.bool true) ∧ Below w.heap.size w w' := by
  have hrb := bounds_u16 hr
  obtain ⟨R, hR⟩ : ∃ R : Nat, r = R := ⟨r.toNat, by omega⟩
  subst hR
  have hR16 : R < 65536 := by omega
  clear hr hrb
  obtain ⟨m, hm⟩ : ∃ m : Nat, m = R % 3000 := ⟨_, rfl⟩
  have hme : (R : Int) % 3000 = (m : Int) := by omega
  have hm3 : m < 3000 := by omega
  clear hm
  go_enter Try.func6, Try.ntmps6
  go_wp2_with fail
  refine (awake15_any _).mono ?_
  rintro e w1 ⟨rfl, hb1⟩
  have HB1 := Lib.hid hb1
  clear hb1
  go_wp2_with fail
  have h0 : Hid (TabL w w.heap.size 0 w1.heap.size (.slice none 0 0) (fun _ => none) 0 0 0 (w1.alloc (.cells #[.slice none 0 0, .int .i64 0, .int .i64 0] 27))) := Lib.hid (TabL.start w1 _ w _ HB1.out.size HB1.out)
  generalize hW2 : (w1.alloc (.cells #[.slice none 0 0, .int .i64 0, .int .i64 0] 27)) = w2 at *
  obtain ⟨b, hbb⟩ : ∃ b, w1.heap.size = b := ⟨_, rfl⟩
  rw [hbb] at h0 ⊢
  clear hW2 hbb
  go_loopw [4] (fun i wr => ∃ (k : Nat) (V : Value), k ≤ m ∧ i = .int .i64 k ∧ Hid (RoundL w b V k wr)) (fun i _ => m - (intOf i).toNat)
  case atStart => exact ⟨0, _, Nat.zero_le _, rfl, Lib.hid ⟨0, 0, h0.out.is rfl rfl (by omega)⟩⟩
  case round =>
    obtain ⟨k, V, hk, rfl, HR⟩ := hrel
    clear h0
    by_cases hkm : k < m
    · have hkm' : (k : Int) < m := by omega
      obtain ⟨p, hp⟩ : ∃ p : Nat, (k : Int) % 256 = p ∧ p < 256 := ⟨k % 256, by omega, by omega⟩
      obtain ⟨q, hq⟩ : ∃ q : Nat, (k : Int) / 256 = q ∧ q < 256 := ⟨k / 256, by omega, by omega⟩
      obtain ⟨hp, hp2⟩ := hp
      obtain ⟨hq, hq2⟩ := hq
      have hcv := conv_bytesN (P := Try.prog) wr 41 9 5 Try.underlying41 Try.underlying5 Try.underlying9 [p, q] (by intro x hx; simp at hx; omega) 2 #[.int .u8 (p : Int), .int .u8 (q : Int)] rfl 2 rfl
      obtain ⟨K, hK⟩ : ∃ K, K = bytesN [p, q] := ⟨_, rfl⟩
      rw [← hK] at hcv
      have hks : Hid (K.size ≤ maxLen) := Lib.hid (by rw [hK, bytesN_size]; simp [maxLen])
      clear hK
      obtain ⟨us, n, hT⟩ := HR.out
      have HT := Lib.hid (hT.below ((Below.refl _ _).alloc (Nat.le_refl _) (.cells #[.int .u8 (p : Int), .int .u8 (q : Int)] 5)))
      have HP := Lib.hid (HT.out.put (by omega) K k hks.out)
      clear hT HT HR
      go_wp2_with fail
      refine HP.out.mono ?_
      rintro e w3 ⟨rfl, V', us', n', hT3, -⟩
      have HT3 := Lib.hid hT3
      have HD := Lib.hid (hT3.del (by simp) K hks.out)
      clear hT3 HP
      go_wp2_with fail
      refine HD.out.mono ?_
      rintro e w4 ⟨rfl, hT4, -⟩
      rw [upd_empty] at hT4
      have HT4 := Lib.hid (hT4.is (lv' := 0) (most' := 1) rfl (by simp [upd_same]) (by simp))
      have HLEN := Lib.hid (len_of HT4.out.tab)
      rw [upd_same]
      clear hT4 HD
      go_wp2_with fail
      refine HLEN.out.mono ?_
      rintro e w5 ⟨rfl, rfl⟩
      go_wp2_with fail
      go_roundw
      case rel => exact ⟨k + 1, _, by omega, by go_num, Lib.hid ⟨_, _, HT4.out⟩⟩
      case measure => simp [intOf]; omega
    · obtain rfl : k = m := by omega
      have hkm' : ¬ (k : Int) < k := by omega
      obtain ⟨us, n, hT⟩ := HR.out
      have HS := Lib.hid (slots_tab hT.tab)
      have HT := Lib.hid hT
      have hn8 : n ≤ 8 := by have := hT.tab.few; omega
      have hh := hT.tab.half
      have hh' : 2 * (us : Int) ≤ n := by omega
      have hn8' : (n : Int) ≤ 8 := by omega
      clear hT HR
      go_wp2_with fail
      refine HS.out.mono ?_
      rintro e w3 ⟨rfl, hb⟩
      have HT3 := Lib.hid (HT.out.below hb)
      clear HT hb
      go_wp2_with fail
      go_ret
      exact ⟨rfl, HT3.out.bel⟩
end Go.Proofs.Ytikbekchddinfaa
