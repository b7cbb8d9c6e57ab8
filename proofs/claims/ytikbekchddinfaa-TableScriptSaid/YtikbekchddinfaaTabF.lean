/- find: where the search for a word ends. -/
import Derived.Test.YtikbekchddinfaaGot
import Derived.Test.YtikbekchddinfaaTabP
import Derived.Test.YtikbekchddinfaaTabA
import Derived.BigQuiet
import Derived.WalkMore
import Derived.Outline
namespace Go.Proofs.Ytikbekchddinfaa
open Go.RowKit
set_option linter.unusedVariables false
set_option maxRecDepth 20000
/-- A word's number. -/
def hashB (k : ByteArray) : Nat := hashL k.data.toList
theorem mod_next (a n : Nat) (hn : 0 < n) : ((((a % n : Nat) : Int) + 1) % (n : Int)) = (((a + 1) % n : Nat) : Int) := by
  have : (((a % n + 1 : Nat) : Int) % (n : Int)) = (((a % n + 1) % n : Nat) : Int) := by simp
  rw [show (((a % n : Nat) : Int) + 1) = ((a % n + 1 : Nat) : Int) by simp, this]
  congr 1
  rw [Nat.add_mod, Nat.mod_mod, ← Nat.add_mod]
/-- At the label: i steps are done. -/
def FindJ (W : World) (b : Nat) (k : ByteArray) (n j : Nat) (m : Nat) (a : Act) (w : World) : Prop :=
  ∃ (i q : Nat) (u2 u3 u4 u5 u7 u8 u9 u10 u11 u12 u13 u14 u15 u16 u17 u18 u19 u20 u21 u22 u23 u24 u25 u26 u27 u28 u29 u30 u31 u32 u33 u34 u35 u36 u37 u38 u39 u40 u41 u42 u43 : Value), i ≤ j ∧ m = j - i ∧ q = (hashB k + i) % n ∧ Below W.heap.size W w ∧ a = { tmps := #[.pointer (some ⟨b, 0, none⟩), .string k, u2, u3, u4, u5, .int .i64 q, u7, u8, u9, u10, u11, u12, u13, u14, u15, u16, u17, u18, u19, u20, u21, u22, u23, u24, u25, u26, u27, u28, u29, u30, u31, u32, u33, u34, u35, u36, u37, u38, u39, u40, u41, u42, u43], defers := [] }
set_option maxHeartbeats 800000 in
/-- The search as it goes. -/
theorem find_any (b g n cap : Nat) (lv us : Int) (post : List Value) (ss : List Slot) (w : World) (k : ByteArray) (j : Nat) (bb : Bool) (hC : Cs w b (.slice (some ⟨g, 0, none⟩) n cap :: .int .i64 lv :: .int .i64 us :: post)) (hS : Cs w g (slotsC ss)) (hn : ss.length = n) (hn2 : n ≤ 4611686018427387904) (hk : k.size ≤ maxLen) (hcap : n ≤ cap)
    (he : Ends hashB ss k j bb) :
    Calls Try.prog 15 #[.pointer (some ⟨b, 0, none⟩), .string k] w fun e w' => e = .returned (.tuple #[.int .i64 (((hashB k + j) % n : Nat) : Int), .bool bb]) ∧ Below w.heap.size w w' := by
  have hn0 : 0 < n := by have := he.lt; omega
  have hN : slotsN n = n := by simp only [slotsN]; omega
  obtain ⟨q, hqq⟩ : ∃ q, q = (hashB k + 0) % n := ⟨_, rfl⟩
  have HH := Lib.hid (fun w => hash_any k n w (by omega) hk)
  rw [hN, show hashL k.data.toList % n = q by rw [hqq]; rfl] at HH
  have hcx : ∀ wx, Below w.heap.size w wx → Cs wx b (.slice (some ⟨g, 0, none⟩) n cap :: .int .i64 lv :: .int .i64 us :: post) ∧ Cs wx g (slotsC ss) := fun wx hb => ⟨hC.below hb, hS.below hb⟩
  have HC := Lib.hid hcx
  have HE := Lib.hid he
  have HN := Lib.hid hn
  have hq : q < n := by rw [hqq]; exact Nat.mod_lt _ hn0
  have HQ := Lib.hid hqq
  clear hcx hC hS hN he hn hqq
  go_enter Try.func15, Try.ntmps15
  go_wp2
  refine wp_scope_count 0 (FindJ w b k n j) rfl ?_ ?_
  · obtain ⟨hC, hS⟩ := HC.out w (Below.refl _ _)
    have c0 := hC.get 0 _
    have g1 := hC.lt
    have g2 := hS.lt
    clear hC hS
    go_wp2_with fail
    refine (HH.out _).mono ?_
    rintro e w1 ⟨rfl, rfl⟩
    go_wp2_with fail
    go_step3
    obtain ⟨wr, hwr⟩ : ∃ wr, wr = w := ⟨_, rfl⟩
    have HB : Hid (Below w.heap.size w wr) := Lib.hid (by rw [hwr]; exact Below.refl _ _)
    have hsz : w.heap.size ≤ wr.heap.size := HB.out.size
    have HW := Lib.hid hwr
    rw [← hwr]
    clear hwr c0 g1 g2
    obtain ⟨i, hi0⟩ : ∃ i, i = 0 := ⟨_, rfl⟩
    have hij : i ≤ j := by omega
    rw [← hi0] at HQ
    clear hi0 HH
    obtain ⟨hC, hS⟩ := HC.out wr HB.out
    obtain ⟨⟨st, key, val⟩, hsl⟩ : ∃ s, sl ss q = s := ⟨_, rfl⟩
    have hqn : q < ss.length := by rw [HN.out]; exact hq
    have hcell : ∀ f, f < 3 → wr.cell? ⟨g, q * 3 + f, none⟩ = (slotC ⟨st, key, val⟩)[f]? := by
      intro f hf
      have h1 := slotsC_get ss q f hqn hf
      rw [← sl_get hqn, hsl] at h1
      have hlt : q * 3 + f < (slotsC ss).length := by rw [slotsC_len]; omega
      rw [← h1, List.getElem?_eq_getElem hlt]
      exact (hS.2 _ hlt).1
    have d0 : wr.cell? ⟨g, q * 3, none⟩ = some (.int .i64 st) := hcell 0 (by decide)
    have d1 : wr.cell? ⟨g, q * 3 + 1, none⟩ = some (.string key) := hcell 1 (by decide)
    have d2 : wr.cell? ⟨g, q * 3 + 2, none⟩ = some (.int .i64 val) := hcell 2 (by decide)
    have c0 := hC.get 0 _
    have g1 := hC.lt
    have g2 := hS.lt
    have q0 : ¬ (q : Int) < 0 := by omega
    have q1 : (q : Int) < n := by omega
    have HAH : Hid (i < j → st ≠ 0 ∧ ¬ (st = 1 ∧ key = k)) := Lib.hid (fun h => by have := HE.out.ahead i h; rw [HN.out] at this; rw [← HQ.out, hsl] at this; exact this)
    have HY : Hid (i = j → bb = true → st = 1 ∧ key = k) := Lib.hid (fun h e => by subst h; have := HE.out.yes e; rw [HN.out] at this; rw [← HQ.out, hsl] at this; exact this)
    have HNO : Hid (i = j → bb = false → st = 0) := Lib.hid (fun h e => by subst h; have := HE.out.no e; rw [HN.out] at this; rw [← HQ.out, hsl] at this; exact this)
    clear hcell hqn hC hS hsl
    by_cases hlt : i < j
    · obtain ⟨hs0, hsk⟩ := HAH.out hlt
      have HST : Hid ((((q : Nat) : Int) + 1) % (n : Int) = (((hashB k + (i + 1)) % n : Nat) : Int)) := Lib.hid (by rw [HQ.out]; exact mod_next _ n hn0)
      have g0 : ((st : Int) == 0) = false := by rw [beq_eq_false_iff_ne]; omega
      have g0' : ((st : Int) != 0) = true := by rw [bne_iff_ne]; omega
      have hnz : ¬ (n : Int) = 0 := by omega
      clear HAH HY HNO
      by_cases h1 : st = 1
      · subst h1
        have hkk : (key.toList == k.toList) = false := str_other _ _ (fun e => hsk ⟨rfl, ByteArray.ext (Array.ext' e)⟩)
        clear hsk
        go_wp2_with fail
        go_step3
        exact ⟨rfl, _, i + 1, _, _, _, _, _, _, _, _, _, _, _, _, _, _, _, _, _, _, _, _, _, _, _, _, _, _, _, _, _, _, _, _, _, _, _, _, _, _, _, _, _, _, by omega, rfl, rfl, HB.out.alloc HB.out.size _, by rw [HST.out]⟩
      · have g1 : ((st : Int) == 1) = false := by rw [beq_eq_false_iff_ne]; omega
        clear hsk
        go_wp2_with fail
        go_step3
        exact ⟨rfl, _, i + 1, _, _, _, _, _, _, _, _, _, _, _, _, _, _, _, _, _, _, _, _, _, _, _, _, _, _, _, _, _, _, _, _, _, _, _, _, _, _, _, _, _, _, by omega, rfl, rfl, HB.out.alloc HB.out.size _, by rw [HST.out]⟩
    · obtain rfl : i = j := by omega
      cases bb with
      | true =>
        obtain ⟨h1, h2⟩ := HY.out rfl rfl
        subst h1 h2
        have hkk : (key.toList == key.toList) = true := str_same _ _ rfl
        clear HAH HY HNO
        go_wp2_with fail
        rw [jump_back]
        refine bodyPost_ret (v := .tuple #[.int .i64 q, .bool true]) (by simp [results, Try.results15, go_sem]) rfl ?_
        exact ⟨by rw [HQ.out], HB.out.alloc HB.out.size _⟩
      | false =>
        have h1 := HNO.out rfl rfl
        subst h1
        clear HAH HY HNO
        go_wp2_with fail
        rw [jump_back]
        refine bodyPost_ret (v := .tuple #[.int .i64 q, .bool false]) (by simp [results, Try.results15, go_sem]) rfl ?_
        exact ⟨by rw [HQ.out], HB.out.alloc HB.out.size _⟩
  · rintro m a wr ⟨i, q, u2, u3, u4, u5, u7, u8, u9, u10, u11, u12, u13, u14, u15, u16, u17, u18, u19, u20, u21, u22, u23, u24, u25, u26, u27, u28, u29, u30, u31, u32, u33, u34, u35, u36, u37, u38, u39, u40, u41, u42, u43, hij, rfl, hqq, hb, rfl⟩
    have HB := Lib.hid hb
    have hsz : w.heap.size ≤ wr.heap.size := hb.size
    have hq : q < n := by rw [hqq]; exact Nat.mod_lt _ hn0
    clear HH HQ
    have HQ := Lib.hid hqq
    clear hqq hb
    obtain ⟨hC, hS⟩ := HC.out wr HB.out
    obtain ⟨⟨st, key, val⟩, hsl⟩ : ∃ s, sl ss q = s := ⟨_, rfl⟩
    have hqn : q < ss.length := by rw [HN.out]; exact hq
    have hcell : ∀ f, f < 3 → wr.cell? ⟨g, q * 3 + f, none⟩ = (slotC ⟨st, key, val⟩)[f]? := by
      intro f hf
      have h1 := slotsC_get ss q f hqn hf
      rw [← sl_get hqn, hsl] at h1
      have hlt : q * 3 + f < (slotsC ss).length := by rw [slotsC_len]; omega
      rw [← h1, List.getElem?_eq_getElem hlt]
      exact (hS.2 _ hlt).1
    have d0 : wr.cell? ⟨g, q * 3, none⟩ = some (.int .i64 st) := hcell 0 (by decide)
    have d1 : wr.cell? ⟨g, q * 3 + 1, none⟩ = some (.string key) := hcell 1 (by decide)
    have d2 : wr.cell? ⟨g, q * 3 + 2, none⟩ = some (.int .i64 val) := hcell 2 (by decide)
    have c0 := hC.get 0 _
    have g1 := hC.lt
    have g2 := hS.lt
    have q0 : ¬ (q : Int) < 0 := by omega
    have q1 : (q : Int) < n := by omega
    have HAH : Hid (i < j → st ≠ 0 ∧ ¬ (st = 1 ∧ key = k)) := Lib.hid (fun h => by have := HE.out.ahead i h; rw [HN.out] at this; rw [← HQ.out, hsl] at this; exact this)
    have HY : Hid (i = j → bb = true → st = 1 ∧ key = k) := Lib.hid (fun h e => by subst h; have := HE.out.yes e; rw [HN.out] at this; rw [← HQ.out, hsl] at this; exact this)
    have HNO : Hid (i = j → bb = false → st = 0) := Lib.hid (fun h e => by subst h; have := HE.out.no e; rw [HN.out] at this; rw [← HQ.out, hsl] at this; exact this)
    clear hcell hqn hC hS hsl
    by_cases hlt : i < j
    · obtain ⟨hs0, hsk⟩ := HAH.out hlt
      have HST : Hid ((((q : Nat) : Int) + 1) % (n : Int) = (((hashB k + (i + 1)) % n : Nat) : Int)) := Lib.hid (by rw [HQ.out]; exact mod_next _ n hn0)
      have g0 : ((st : Int) == 0) = false := by rw [beq_eq_false_iff_ne]; omega
      have g0' : ((st : Int) != 0) = true := by rw [bne_iff_ne]; omega
      have hnz : ¬ (n : Int) = 0 := by omega
      clear HAH HY HNO
      by_cases h1 : st = 1
      · subst h1
        have hkk : (key.toList == k.toList) = false := str_other _ _ (fun e => hsk ⟨rfl, ByteArray.ext (Array.ext' e)⟩)
        clear hsk
        go_wp2_with fail
        go_step3
        exact ⟨rfl, _, by omega, i + 1, _, _, _, _, _, _, _, _, _, _, _, _, _, _, _, _, _, _, _, _, _, _, _, _, _, _, _, _, _, _, _, _, _, _, _, _, _, _, _, _, _, _, by omega, rfl, rfl, HB.out.alloc HB.out.size _, by rw [HST.out]⟩
      · have g1 : ((st : Int) == 1) = false := by rw [beq_eq_false_iff_ne]; omega
        clear hsk
        go_wp2_with fail
        go_step3
        exact ⟨rfl, _, by omega, i + 1, _, _, _, _, _, _, _, _, _, _, _, _, _, _, _, _, _, _, _, _, _, _, _, _, _, _, _, _, _, _, _, _, _, _, _, _, _, _, _, _, _, _, by omega, rfl, rfl, HB.out.alloc HB.out.size _, by rw [HST.out]⟩
    · obtain rfl : i = j := by omega
      cases bb with
      | true =>
        obtain ⟨h1, h2⟩ := HY.out rfl rfl
        subst h1 h2
        have hkk : (key.toList == key.toList) = true := str_same _ _ rfl
        clear HAH HY HNO
        go_wp2_with fail
        rw [jump_back]
        refine bodyPost_ret (v := .tuple #[.int .i64 q, .bool true]) (by simp [results, Try.results15, go_sem]) rfl ?_
        exact ⟨by rw [HQ.out], HB.out.alloc HB.out.size _⟩
      | false =>
        have h1 := HNO.out rfl rfl
        subst h1
        clear HAH HY HNO
        go_wp2_with fail
        rw [jump_back]
        refine bodyPost_ret (v := .tuple #[.int .i64 q, .bool false]) (by simp [results, Try.results15, go_sem]) rfl ?_
        exact ⟨by rw [HQ.out], HB.out.alloc HB.out.size _⟩
end Go.Proofs.Ytikbekchddinfaa
