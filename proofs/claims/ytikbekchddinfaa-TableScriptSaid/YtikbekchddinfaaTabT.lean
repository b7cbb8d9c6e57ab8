/- A table by its contents: Put, Get, Del, Slots. -/
import Derived.Test.YtikbekchddinfaaTabQ
namespace Go.Proofs.Ytikbekchddinfaa
open Go.RowKit
set_option linter.unusedVariables false
set_option maxRecDepth 20000
/-- The table at block b has the numbers M of so many words (lv), of which there were never more than most. -/
structure TabOf (most : Nat) (w : World) (b : Nat) (post : List Value) (V : Value) (M : ByteArray → Option Int) (lv us n : Nat) (ss : List Slot) : Prop where
  mem : TabS w b post ss V lv us
  ti : TI hashB ss M
  live : lives ss = lv
  full : fulls ss = us
  len : ss.length = n
  half : 2 * us ≤ n
  some_ : n = 0 ∨ 8 ≤ n
  few : n ≤ max 8 (8 * most)
  most_ : lv ≤ most
def Tab (most : Nat) (w : World) (b : Nat) (post : List Value) (V : Value) (M : ByteArray → Option Int) (lv us n : Nat) : Prop := ∃ ss, TabOf most w b post V M lv us n ss
section
variable {most : Nat} {w w' : World} {b : Nat} {post : List Value} {V : Value} {M : ByteArray → Option Int} {lv us n : Nat}
theorem Tab.below (h : Tab most w b post V M lv us n) (hb : Below w.heap.size w w') : Tab most w' b post V M lv us n := by
  obtain ⟨ss, h⟩ := h
  exact ⟨ss, h.mem.below hb, h.ti, h.live, h.full, h.len, h.half, h.some_, h.few, h.most_⟩
theorem Tab.lt (h : Tab most w b post V M lv us n) : b < w.heap.size := by obtain ⟨ss, h⟩ := h; exact h.mem.own.lt
theorem Tab.own (h : Tab most w b post V M lv us n) : Cs w b (V :: .int .i64 lv :: .int .i64 us :: post) := by obtain ⟨ss, h⟩ := h; exact h.mem.own
theorem Tab.half (h : Tab most w b post V M lv us n) : 2 * us ≤ n := by obtain ⟨ss, h⟩ := h; exact h.half
theorem Tab.lu (h : Tab most w b post V M lv us n) : lv ≤ us := by obtain ⟨ss, h⟩ := h; rw [← h.live, ← h.full]; exact lives_le ss
theorem Tab.some_ (h : Tab most w b post V M lv us n) : n = 0 ∨ 8 ≤ n := by obtain ⟨ss, h⟩ := h; exact h.some_
theorem Tab.few (h : Tab most w b post V M lv us n) : n ≤ max 8 (8 * most) := by obtain ⟨ss, h⟩ := h; exact h.few
theorem Tab.most_ (h : Tab most w b post V M lv us n) : lv ≤ most := by obtain ⟨ss, h⟩ := h; exact h.most_
theorem Tab.slice (h : Tab most w b post V M lv us n) : ∃ A, V = .slice A n n := by
  obtain ⟨ss, h⟩ := h
  rcases h.mem.slots with ⟨h1, h2⟩ | ⟨g, e1, _⟩
  · have := h.len; rw [h1] at this; simp at this; subst this; exact ⟨none, h2⟩
  · rw [h.len] at e1; exact ⟨_, e1⟩
theorem Tab.more (h : Tab most w b post V M lv us n) {most' : Nat} (hm : most ≤ most') : Tab most' w b post V M lv us n := by
  obtain ⟨ss, h⟩ := h
  exact ⟨ss, h.mem, h.ti, h.live, h.full, h.len, h.half, h.some_, by have := h.few; omega, by have := h.most_; omega⟩
/-- The table's blocks are apart from this one. -/
theorem Tab.only {S : Nat → Prop} (h : Tab most w b post V M lv us n) (ho : Only S w w') (h1 : ¬ S b) (h2 : ∀ q, V.ownBlock = some q → ¬ S q) : Tab most w' b post V M lv us n := by
  obtain ⟨ss, h⟩ := h
  refine ⟨ss, ⟨ho.cs h.mem.own h1, ?_⟩, h.ti, h.live, h.full, h.len, h.half, h.some_, h.few, h.most_⟩
  rcases h.mem.slots with h3 | ⟨g, e1, e2, e3, e4⟩
  · exact .inl h3
  · exact .inr ⟨g, e1, e2, ho.cs e3 (h2 g (by rw [e1]; rfl)), e4⟩
theorem Tab.own_lt (h : Tab most w b post V M lv us n) : ∀ q, V.ownBlock = some q → q < w.heap.size := by
  obtain ⟨ss, h⟩ := h
  intro q hq
  rcases h.mem.slots with ⟨_, e⟩ | ⟨g, e1, e2, e3, e4⟩
  · rw [e] at hq; cases hq
  · rw [e1] at hq; injection hq with hq; subst hq; exact e3.lt
/-- A new table. -/
theorem Tab.new (w : World) (b : Nat) (post : List Value) (hC : Cs w b (.slice none 0 0 :: .int .i64 0 :: .int .i64 0 :: post)) : Tab 0 w b post (.slice none 0 0) (fun _ => none) 0 0 0 :=
  ⟨[], ⟨by simpa using hC, .inl ⟨rfl, rfl⟩⟩, TI.empty hashB 0, rfl, rfl, rfl, by omega, .inl rfl, by omega, by omega⟩
/-- Get. -/
theorem get_tab (h : Tab most w b post V M lv us n) (hm : most ≤ 68719476736) (k : ByteArray) (hk : k.size ≤ maxLen) :
    Calls Try.prog 11 #[.pointer (some ⟨b, 0, none⟩), .string k] w fun e w' => e = .returned (.tuple #[.int .i64 ((M k).getD 0), .bool (M k).isSome]) ∧ Below w.heap.size w w' := by
  obtain ⟨ss, h⟩ := h
  have hn := h.len
  rcases h.mem.slots with ⟨h1, h2⟩ | ⟨g, e1, e2, e3, e4⟩
  · have hM : M k = none := by
      refine h.ti.lost (fun i hl => ?_)
      have := hl.1; rw [h1] at this; simp at this
    rw [hM]
    have hC := h.mem.own
    rw [h2] at hC
    exact get_nil b lv us post w k hC
  · have hC := h.mem.own
    rw [e1, hn] at hC
    have hf := h.few
    have hh := h.half
    have hfu := h.full
    obtain ⟨j, bb, he, hno⟩ := ends_ex h.ti.ok (empty_ex ss (by omega)) k
    cases bb with
    | true =>
      have hv := h.ti.found he
      rw [hn] at hv
      rw [hv]
      exact get_yes b g n lv us post ss w k j hC e3 hn (by omega) hk he
    | false =>
      rw [h.ti.lost (hno rfl)]
      exact get_no b g n lv us post ss w k j hC e3 hn (by omega) hk he
/-- What Put leaves. -/
def PutR (most : Nat) (w : World) (b : Nat) (post : List Value) (V : Value) (M : ByteArray → Option Int) (lv : Nat) (k : ByteArray) (v : Int) (e : Ending) (w' : World) : Prop :=
  e = .returned (.bool (M k).isNone) ∧ ∃ V' us' n', Tab (max most (if (M k).isSome then lv else lv + 1)) w' b post V' (upd M k (some v)) (if (M k).isSome then lv else lv + 1) us' n' ∧ 8 ≤ n' ∧ Only (fun q => q = b ∨ V.ownBlock = some q) w w' ∧ (V'.ownBlock = V.ownBlock ∨ ∃ g, V'.ownBlock = some g ∧ w.heap.size ≤ g)
theorem put_new_tab {k : ByteArray} {v : Int} {e : Ending} (hm : M k = none) (h : PutN w b post M lv k v e w') : PutR most w b post V M lv k v e w' := by
  obtain ⟨rfl, g, m, ss', a1, a2, a3, a4, a5, a6, a7, a8, a9, a10, a11, a12⟩ := h
  have e1 : (if (M k).isSome then lv else lv + 1) = lv + 1 := by rw [hm]; rfl
  unfold PutR
  rw [e1]
  refine ⟨by rw [hm]; rfl, .slice (some ⟨g, 0, none⟩) m m, lv + 1, m, ⟨ss', ⟨a1, .inr ⟨g, by rw [a3], a11, a2, by omega⟩⟩, a4, a5, a6, a3, by omega, .inr a9, by omega, by omega⟩, a9, a12.mono (fun q _ e => .inl e), .inr ⟨g, rfl, a10⟩⟩
theorem put_tab (h : Tab most w b post V M lv us n) (hm : most ≤ 68719476735) (k : ByteArray) (v : Int) (hk : k.size ≤ maxLen) :
    Calls Try.prog 9 #[.pointer (some ⟨b, 0, none⟩), .string k, .int .i64 v] w (PutR most w b post V M lv k v) := by
  obtain ⟨ss, h⟩ := h
  have hn := h.len
  have hmo := h.most_
  have hfu := h.full
  rcases h.mem.slots with ⟨h1, h2⟩ | ⟨g, e1, e2, e3, e4⟩
  · have hM : M k = none := by
      refine h.ti.lost (fun i hl => ?_)
      have := hl.1; rw [h1] at this; simp at this
    have hC := h.mem.own
    have hI := h.ti
    have hl0 : lv = 0 := by rw [← h.live, h1]; rfl
    have hu0 : us = 0 := by rw [← h.full, h1]; rfl
    subst hl0 hu0
    rw [h2] at hC
    rw [h1] at hI
    exact (put_nil b post w k v M hC hk hI).mono fun e w' hp => put_new_tab hM hp
  · have hC := h.mem.own
    rw [e1, hn] at hC
    have hf := h.few
    have hh := h.half
    have hls := lives_le ss
    have hlv := h.live
    obtain ⟨j, bb, he, hno⟩ := ends_ex h.ti.ok (empty_ex ss (by omega)) k
    have hi : (hashB k + j) % n < ss.length := by have := mod_in (h := hashB k) he.lt; rw [hn] at this; omega
    cases bb with
    | true =>
      have hv := h.ti.found he
      refine (put_old b g n lv us post ss w k v j hC e3 hn (by omega) hk e2.symm he).mono ?_
      rintro e w' ⟨rfl, c1, c2, c3⟩
      have hy := he.yes rfl
      have t1 := h.ti.put_old he v hk
      rw [hn] at t1 hy
      have t2 := lives_set ss _ ⟨1, k, v⟩ hi
      have t3 := fulls_set ss _ ⟨1, k, v⟩ hi
      rw [hy.1] at t2 t3
      simp at t2 t3
      have e1' : (if (M k).isSome then lv else lv + 1) = lv := by rw [hv]; rfl
      unfold PutR
      rw [e1']
      refine ⟨by rw [hv]; rfl, .slice (some ⟨g, 0, none⟩) n n, us, n, ⟨_, ⟨c1, .inr ⟨g, by simp [hn], e2, c2, by simp; omega⟩⟩, t1, by omega, by omega, by simpa using hn, hh, h.some_, by omega, by omega⟩, by have := h.some_; omega, c3.mono (fun q _ e => ?_), .inl (by rw [e1]; rfl)⟩
      rcases e with e | e
      · exact .inl e
      · subst e; rw [e1]; exact .inr rfl
    | false =>
      have hM := h.ti.lost (hno rfl)
      by_cases hr : 2 * (us + 1) ≤ n
      · refine (put_room b g n lv us post ss w k v j hC e3 hn (by omega) hk e2.symm (by omega) hr he).mono ?_
        rintro e w' ⟨rfl, c1, c2, c3⟩
        have hy := he.no rfl
        have t1 := h.ti.put_new he hM v hk
        rw [hn] at t1 hy
        have t2 := lives_set ss _ ⟨1, k, v⟩ hi
        have t3 := fulls_set ss _ ⟨1, k, v⟩ hi
        rw [hy] at t2 t3
        simp at t2 t3
        have e1' : (if (M k).isSome then lv else lv + 1) = lv + 1 := by rw [hM]; rfl
        unfold PutR
        rw [e1']
        refine ⟨by rw [hM]; rfl, .slice (some ⟨g, 0, none⟩) n n, us + 1, n, ⟨_, ⟨c1, .inr ⟨g, by simp [hn], e2, c2, by simp; omega⟩⟩, t1, by omega, by omega, by simpa using hn, hr, h.some_, by omega, by omega⟩, by have := h.some_; omega, c3.mono (fun q _ e => ?_), .inl (by rw [e1]; rfl)⟩
        rcases e with e | e
        · exact .inl e
        · subst e; rw [e1]; exact .inr rfl
      · exact (put_full b g n lv us post ss w k v j M hC e3 hn (by omega) hk e2 (by omega) (by omega) (by omega) h.ti h.live hM he).mono fun e w' hp => put_new_tab hM hp
/-- What Del leaves. -/
def DelR (most : Nat) (w : World) (b : Nat) (post : List Value) (V : Value) (M : ByteArray → Option Int) (lv us n : Nat) (k : ByteArray) (e : Ending) (w' : World) : Prop :=
  e = .returned (.bool (M k).isSome) ∧ Tab most w' b post V (upd M k none) (if (M k).isSome then lv - 1 else lv) us n ∧ Only (fun q => q = b ∨ V.ownBlock = some q) w w'
theorem upd_none {M : ByteArray → Option Int} {k : ByteArray} (h : M k = none) : upd M k none = M := by
  funext q; unfold upd; split
  · rename_i e; rw [e, h]
  · rfl
theorem del_tab (h : Tab most w b post V M lv us n) (hm : most ≤ 68719476735) (k : ByteArray) (hk : k.size ≤ maxLen) :
    Calls Try.prog 10 #[.pointer (some ⟨b, 0, none⟩), .string k] w (DelR most w b post V M lv us n k) := by
  have h0 := h
  obtain ⟨ss, h⟩ := h
  have hn := h.len
  have hmo := h.most_
  have hfu := h.full
  have same : M k = none → ∀ e w', e = .returned (.bool false) ∧ Below w.heap.size w w' → DelR most w b post V M lv us n k e w' := by
    rintro hM e w' ⟨rfl, hb⟩
    unfold DelR
    rw [upd_none hM, hM]
    exact ⟨rfl, h0.below hb, Only.of_below _ hb⟩
  rcases h.mem.slots with ⟨h1, h2⟩ | ⟨g, e1, e2, e3, e4⟩
  · have hM : M k = none := by
      refine h.ti.lost (fun i hl => ?_)
      have := hl.1; rw [h1] at this; simp at this
    have hC := h.mem.own
    rw [h2] at hC
    exact (del_nil b lv us post w k hC).mono (same hM)
  · have hC := h.mem.own
    rw [e1, hn] at hC
    have hf := h.few
    have hh := h.half
    have hls := lives_le ss
    have hlv := h.live
    obtain ⟨j, bb, he, hno⟩ := ends_ex h.ti.ok (empty_ex ss (by omega)) k
    have hi : (hashB k + j) % n < ss.length := by have := mod_in (h := hashB k) he.lt; rw [hn] at this; omega
    cases bb with
    | true =>
      have hv := h.ti.found he
      have hy := he.yes rfl
      have t1 := h.ti.del he
      rw [hn] at t1 hy
      have t2 := lives_set ss _ ⟨2, ⟨#[]⟩, 0⟩ hi
      have t3 := fulls_set ss _ ⟨2, ⟨#[]⟩, 0⟩ hi
      rw [hy.1] at t2 t3
      simp at t2 t3
      refine (del_yes b g n lv us post ss w k j hC e3 hn (by omega) hk e2.symm (by omega) (by omega) he).mono ?_
      rintro e w' ⟨rfl, c1, c2, c3⟩
      have e1' : (if (M k).isSome then lv - 1 else lv) = lv - 1 := by rw [hv]; rfl
      unfold DelR
      rw [e1']
      refine ⟨by rw [hv]; rfl, ⟨_, ⟨by rw [e1, hn]; exact c1, .inr ⟨g, by rw [e1]; simp, e2, c2, by simp; omega⟩⟩, t1, by omega, by omega, by simpa using hn, hh, h.some_, by omega, by omega⟩, c3.mono (fun q _ e => ?_)⟩
      rcases e with e | e
      · exact .inl e
      · subst e; rw [e1]; exact .inr rfl
    | false => exact (del_no b g n lv us post ss w k j hC e3 hn (by omega) hk he).mono (same (h.ti.lost (hno rfl)))
/-- Slots. -/
theorem slots_tab (h : Tab most w b post V M lv us n) :
    Calls Try.prog 13 #[.pointer (some ⟨b, 0, none⟩)] w fun e w' => e = .returned (.tuple #[.int .i64 n, .int .i64 us]) ∧ Below w.heap.size w w' := by
  obtain ⟨A, rfl⟩ := h.slice
  have c0 := h.own.get 0 _
  have c2 := h.own.get 2 _
  have g1 := h.lt
  clear h
  go_enter Try.func13, Try.ntmps13
  go_wp2_with fail
  go_quiet (fail)
  go_wp2_with fail
  refine bodyPost_ret (v := .tuple #[.int .i64 n, .int .i64 us]) (by simp [results, Try.results13, go_sem]) rfl ?_
  exact ⟨rfl, below_drewN (Below.refl _ _) _⟩
theorem len_of (h : Tab most w b post V M lv us n) :
    Calls Try.prog 12 #[.pointer (some ⟨b, 0, none⟩)] w fun e w' => e = .returned (.int .i64 lv) ∧ w = w' := len_tab w b V lv us post h.own
end
end Go.Proofs.Ytikbekchddinfaa
