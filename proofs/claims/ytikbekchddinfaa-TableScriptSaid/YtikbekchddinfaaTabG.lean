/- lay, Get, Del of a table in general. -/
import Derived.Test.YtikbekchddinfaaTabF
import Derived.Test.YtikbekchddinfaaOnly
namespace Go.Proofs.Ytikbekchddinfaa
open Go.RowKit
set_option linter.unusedVariables false
set_option maxRecDepth 20000
/-- A slot's cells in a row of slots. -/
theorem slot_cells {w : World} {g : Nat} {ss : List Slot} (hS : Cs w g (slotsC ss)) {q : Nat} (hq : q < ss.length) :
    w.cell? ⟨g, q * 3, none⟩ = some (.int .i64 (sl ss q).st) ∧ w.cell? ⟨g, q * 3 + 1, none⟩ = some (.string (sl ss q).key) ∧ w.cell? ⟨g, q * 3 + 2, none⟩ = some (.int .i64 (sl ss q).val) ∧
    w.frozen? ⟨g, q * 3, none⟩ = false ∧ w.frozen? ⟨g, q * 3 + 1, none⟩ = false ∧ w.frozen? ⟨g, q * 3 + 2, none⟩ = false := by
  have hl := slotsC_len ss
  have key : ∀ f, f < 3 → w.cell? ⟨g, q * 3 + f, none⟩ = (slotC (sl ss q))[f]? := by
    intro f hf
    have h1 := slotsC_get ss q f hq hf
    rw [← sl_get hq] at h1
    have hlt : q * 3 + f < (slotsC ss).length := by omega
    rw [← h1, List.getElem?_eq_getElem hlt]
    exact (hS.2 _ hlt).1
  exact ⟨key 0 (by decide), key 1 (by decide), key 2 (by decide), (hS.2 (q * 3) (by omega)).2, (hS.2 (q * 3 + 1) (by omega)).2, (hS.2 (q * 3 + 2) (by omega)).2⟩
/-- A slot is written. -/
theorem slot_write {w : World} {g : Nat} {ss : List Slot} (hS : Cs w g (slotsC ss)) {q : Nat} (hq : q < ss.length) (s : Slot) :
    Cs (((w.setCell ⟨g, q * 3, none⟩ (.int .i64 s.st)).setCell ⟨g, q * 3 + 1, none⟩ (.string s.key)).setCell ⟨g, q * 3 + 2, none⟩ (.int .i64 s.val)) g (slotsC (ss.set q s)) := by
  have hl := slotsC_len ss
  rw [← slotsC_set ss q s hq]
  exact ((hS.set' (q * 3) _ (by omega)).set' (q * 3 + 1) _ (by simp; omega)).set' (q * 3 + 2) _ (by simp; omega)
theorem slot_write1 {w : World} {g : Nat} {ss : List Slot} (hS : Cs w g (slotsC ss)) {q : Nat} (hq : q < ss.length) (v : Int) :
    Cs (w.setCell ⟨g, q * 3 + 2, none⟩ (.int .i64 v)) g (slotsC (ss.set q ⟨(sl ss q).st, (sl ss q).key, v⟩)) := by
  have hl := slotsC_len ss
  have h0 := slotsC_get ss q 0 hq (by decide)
  have h1 := slotsC_get ss q 1 hq (by decide)
  rw [← sl_get hq] at h0 h1
  rw [← slotsC_set ss q _ hq]
  have e0 : (slotsC ss).set (q * 3) (.int .i64 (sl ss q).st) = slotsC ss := by
    have hlt : q * 3 < (slotsC ss).length := by omega
    have : (slotsC ss)[q * 3] = .int .i64 (sl ss q).st := by
      have h2 : (slotsC ss)[q * 3]? = some (.int .i64 (sl ss q).st) := h0
      rw [List.getElem?_eq_getElem hlt] at h2; exact Option.some.inj h2
    rw [← this]; exact List.set_getElem_self hlt
  have e1 : (slotsC ss).set (q * 3 + 1) (.string (sl ss q).key) = slotsC ss := by
    have hlt : q * 3 + 1 < (slotsC ss).length := by omega
    have : (slotsC ss)[q * 3 + 1] = .string (sl ss q).key := by
      have h2 : (slotsC ss)[q * 3 + 1]? = some (.string (sl ss q).key) := h1
      rw [List.getElem?_eq_getElem hlt] at h2; exact Option.some.inj h2
    rw [← this]; exact List.set_getElem_self hlt
  simp only [e0, e1]
  exact hS.set' (q * 3 + 2) _ (by omega)
/-- lay: a word into the empty slot in which its search ends. -/
theorem lay_any (b g n : Nat) (lv us : Nat) (post : List Value) (ss : List Slot) (w : World) (k : ByteArray) (v : Int) (j : Nat) (hC : Cs w b (.slice (some ⟨g, 0, none⟩) n n :: .int .i64 lv :: .int .i64 us :: post)) (hS : Cs w g (slotsC ss)) (hn : ss.length = n) (hn2 : n ≤ 4611686018427387904) (hk : k.size ≤ maxLen)
    (hbg : b ≠ g) (hlv : lv ≤ 4611686018427387904) (hus : us ≤ 4611686018427387904) (he : Ends hashB ss k j false) :
    Calls Try.prog 17 #[.pointer (some ⟨b, 0, none⟩), .string k, .int .i64 v] w fun e w' => e = .returned (.tuple #[]) ∧
      Cs w' b (.slice (some ⟨g, 0, none⟩) n n :: .int .i64 (lv + 1 : Nat) :: .int .i64 (us + 1 : Nat) :: post) ∧ Cs w' g (slotsC (ss.set ((hashB k + j) % n) ⟨1, k, v⟩)) ∧ Only (fun q => q = b ∨ q = g) w w' := by
  have hF := Lib.hid (find_any b g n n lv us post ss w k j false hC hS hn hn2 hk (Nat.le_refl _) he)
  obtain ⟨q, hqq⟩ : ∃ q, (hashB k + j) % n = q := ⟨_, rfl⟩
  rw [hqq] at hF ⊢
  have hqn : q < n := by rw [← hqq]; exact Nat.mod_lt _ (by have := he.lt; omega)
  clear he hqq
  have HCC := Lib.hid hC
  have HSS := Lib.hid hS
  have HN := Lib.hid hn
  clear hC hS hn
  go_enter Try.func17, Try.ntmps17
  go_wp2_with fail
  refine hF.out.mono ?_
  rintro e w1 ⟨rfl, hb⟩
  have hC1 := HCC.out.below hb
  have hS1 := HSS.out.below hb
  have HB := Lib.hid hb
  obtain ⟨d0, d1, d2, t0, t1, t2⟩ := slot_cells hS1 (q := q) (by rw [HN.out]; exact hqn)
  have c0 := hC1.get 0 _
  have c1 := hC1.get 1 _
  have c2 := hC1.get 2 _
  have f0 := hC1.froz 0 (by simp)
  have f1 := hC1.froz 1 (by simp)
  have f2 := hC1.froz 2 (by simp)
  have g1 := hC1.lt
  have g2 := hS1.lt
  have q0 : ¬ (q : Int) < 0 := by omega
  have q1 : (q : Int) < n := by omega
  have hgb := hbg.symm
  have H1 := Lib.hid hC1
  have H2 := Lib.hid hS1
  clear hC1 hS1 hb hF
  go_wp2
  go_end0
  refine ⟨rfl, ?_, ?_, ?_⟩
  · have h := ((((H1.out.other g (q * 3) (.int .i64 1) hgb).other g (q * 3 + 1) (.string k) hgb).other g (q * 3 + 2) (.int .i64 v) hgb).set' 1 (.int .i64 ((lv : Int) + 1)) (by simp)).set' 2 (.int .i64 ((us : Int) + 1)) (by simp)
    simpa using h
  · have h := slot_write H2.out (q := q) (by rw [HN.out]; exact hqn) ⟨1, k, v⟩
    exact (h.other b 1 _ hbg).other b 2 _ hbg
  · refine (((((Only.of_below _ HB.out).setCell ⟨g, q * 3, none⟩ _ (fun _ => .inr rfl)).setCell ⟨g, q * 3 + 1, none⟩ _ (fun _ => .inr rfl)).setCell ⟨g, q * 3 + 2, none⟩ _ (fun _ => .inr rfl)).setCell ⟨b, 1, none⟩ _ (fun _ => .inl rfl)).setCell ⟨b, 2, none⟩ _ (fun _ => .inl rfl)
/-- The table at block b. -/
structure TabS (w : World) (b : Nat) (post : List Value) (ss : List Slot) (V : Value) (lv us : Nat) : Prop where
  own : Cs w b (V :: .int .i64 lv :: .int .i64 us :: post)
  slots : (ss = [] ∧ V = .slice none 0 0) ∨ ∃ g, V = .slice (some ⟨g, 0, none⟩) ss.length ss.length ∧ g ≠ b ∧ Cs w g (slotsC ss) ∧ 0 < ss.length
theorem TabS.below {w w' : World} {b : Nat} {post : List Value} {ss : List Slot} {V : Value} {lv us : Nat} (h : TabS w b post ss V lv us) (hb : Below w.heap.size w w') : TabS w' b post ss V lv us :=
  ⟨h.own.below hb, by
    rcases h.slots with h1 | ⟨g, e1, e2, e3, e4⟩
    · exact .inl h1
    · exact .inr ⟨g, e1, e2, e3.below hb, e4⟩⟩
/-- Len. -/
theorem len_tab (w : World) (b : Nat) (V : Value) (lv us : Nat) (post : List Value) (hC : Cs w b (V :: .int .i64 lv :: .int .i64 us :: post)) :
    Calls Try.prog 12 #[.pointer (some ⟨b, 0, none⟩)] w fun e w' => e = .returned (.int .i64 lv) ∧ w = w' := by
  have c1 := hC.get 1 _
  have g1 := hC.lt
  go_enter Try.func12, Try.ntmps12
  go_wp2
  go_ret
  exact ⟨rfl, rfl⟩
/-- Get: where the search ends. -/
theorem get_yes (b g n : Nat) (lv us : Int) (post : List Value) (ss : List Slot) (w : World) (k : ByteArray) (j : Nat) (hC : Cs w b (.slice (some ⟨g, 0, none⟩) n n :: .int .i64 lv :: .int .i64 us :: post)) (hS : Cs w g (slotsC ss)) (hn : ss.length = n) (hn2 : n ≤ 4611686018427387904) (hk : k.size ≤ maxLen)
    (he : Ends hashB ss k j true) :
    Calls Try.prog 11 #[.pointer (some ⟨b, 0, none⟩), .string k] w fun e w' => e = .returned (.tuple #[.int .i64 (sl ss ((hashB k + j) % n)).val, .bool true]) ∧ Below w.heap.size w w' := by
  have hF := Lib.hid (find_any b g n n lv us post ss w k j true hC hS hn hn2 hk (Nat.le_refl _) he)
  have hn0 : 0 < n := by have := he.lt; omega
  obtain ⟨q, hqq⟩ : ∃ q, (hashB k + j) % n = q := ⟨_, rfl⟩
  rw [hqq] at hF ⊢
  have hqn : q < n := by rw [← hqq]; exact Nat.mod_lt _ hn0
  clear he hqq
  have HCC := Lib.hid hC
  have HSS := Lib.hid hS
  have HN := Lib.hid hn
  have c0 := hC.get 0 _
  have g1 := hC.lt
  have hnz : ((n : Int) == 0) = false := by rw [beq_eq_false_iff_ne]; omega
  obtain ⟨V, hV⟩ : ∃ V, (sl ss q).val = V := ⟨_, rfl⟩
  rw [hV]
  have HV := Lib.hid hV
  clear hV
  clear hC hS hn
  go_enter Try.func11, Try.ntmps11
  go_wp2_with fail
  refine hF.out.mono ?_
  rintro e w1 ⟨rfl, hb⟩
  have hC1 := HCC.out.below hb
  have hS1 := HSS.out.below hb
  have HB := Lib.hid hb
  obtain ⟨d0, d1, d2, t0, t1, t2⟩ := slot_cells hS1 (q := q) (by rw [HN.out]; exact hqn)
  have c0 := hC1.get 0 _
  have g1 := hC1.lt
  have g2 := hS1.lt
  have q0 : ¬ (q : Int) < 0 := by omega
  have q1 : (q : Int) < n := by omega
  rw [HV.out] at d2
  clear hC1 hS1 hb hF d0 d1 t0 t1 t2
  go_wp2
  refine bodyPost_ret (v := .tuple #[.int .i64 V, .bool true]) (by simp [results, Try.results11, go_sem]) rfl ?_
  exact ⟨rfl, HB.out⟩
theorem get_no (b g n : Nat) (lv us : Int) (post : List Value) (ss : List Slot) (w : World) (k : ByteArray) (j : Nat) (hC : Cs w b (.slice (some ⟨g, 0, none⟩) n n :: .int .i64 lv :: .int .i64 us :: post)) (hS : Cs w g (slotsC ss)) (hn : ss.length = n) (hn2 : n ≤ 4611686018427387904) (hk : k.size ≤ maxLen)
    (he : Ends hashB ss k j false) :
    Calls Try.prog 11 #[.pointer (some ⟨b, 0, none⟩), .string k] w fun e w' => e = .returned (.tuple #[.int .i64 0, .bool false]) ∧ Below w.heap.size w w' := by
  have hF := Lib.hid (find_any b g n n lv us post ss w k j false hC hS hn hn2 hk (Nat.le_refl _) he)
  have hn0 : 0 < n := by have := he.lt; omega
  obtain ⟨q, hqq⟩ : ∃ q, (hashB k + j) % n = q := ⟨_, rfl⟩
  rw [hqq] at hF
  have c0 := hC.get 0 _
  have g1 := hC.lt
  have hnz : ((n : Int) == 0) = false := by rw [beq_eq_false_iff_ne]; omega
  clear hC hS hn hqq he
  go_enter Try.func11, Try.ntmps11
  go_wp2_with fail
  refine hF.out.mono ?_
  rintro e w1 ⟨rfl, hb⟩
  have HB := Lib.hid hb
  clear hb hF
  go_wp2
  refine bodyPost_ret (v := .tuple #[.int .i64 0, .bool false]) (by simp [results, Try.results11, go_sem]) rfl ?_
  exact ⟨rfl, HB.out⟩
theorem get_nil (b : Nat) (lv us : Int) (post : List Value) (w : World) (k : ByteArray) (hC : Cs w b (.slice none 0 0 :: .int .i64 lv :: .int .i64 us :: post)) :
    Calls Try.prog 11 #[.pointer (some ⟨b, 0, none⟩), .string k] w fun e w' => e = .returned (.tuple #[.int .i64 0, .bool false]) ∧ Below w.heap.size w w' := by
  have c0 := hC.get 0 _
  have g1 := hC.lt
  clear hC
  go_enter Try.func11, Try.ntmps11
  go_wp2_with fail
  refine bodyPost_ret (v := .tuple #[.int .i64 0, .bool false]) (by simp [results, Try.results11, go_sem]) rfl ?_
  exact ⟨rfl, Below.refl _ _⟩
/-- Del: of a word that is there; of one that is not. -/
theorem del_yes (b g n : Nat) (lv us : Nat) (post : List Value) (ss : List Slot) (w : World) (k : ByteArray) (j : Nat) (hC : Cs w b (.slice (some ⟨g, 0, none⟩) n n :: .int .i64 lv :: .int .i64 us :: post)) (hS : Cs w g (slotsC ss)) (hn : ss.length = n) (hn2 : n ≤ 4611686018427387904) (hk : k.size ≤ maxLen)
    (hbg : b ≠ g) (hlv : lv ≤ 4611686018427387904) (hlv1 : 1 ≤ lv) (he : Ends hashB ss k j true) :
    Calls Try.prog 10 #[.pointer (some ⟨b, 0, none⟩), .string k] w fun e w' => e = .returned (.bool true) ∧
      Cs w' b (.slice (some ⟨g, 0, none⟩) n n :: .int .i64 (lv - 1 : Nat) :: .int .i64 us :: post) ∧ Cs w' g (slotsC (ss.set ((hashB k + j) % n) ⟨2, ⟨#[]⟩, 0⟩)) ∧ Only (fun q => q = b ∨ q = g) w w' := by
  have hF := Lib.hid (find_any b g n n lv us post ss w k j true hC hS hn hn2 hk (Nat.le_refl _) he)
  have hn0 : 0 < n := by have := he.lt; omega
  obtain ⟨q, hqq⟩ : ∃ q, (hashB k + j) % n = q := ⟨_, rfl⟩
  rw [hqq] at hF ⊢
  have hqn : q < n := by rw [← hqq]; exact Nat.mod_lt _ hn0
  clear he hqq
  have HCC := Lib.hid hC
  have HSS := Lib.hid hS
  have HN := Lib.hid hn
  have c0 := hC.get 0 _
  have g1 := hC.lt
  have hnz : ((n : Int) == 0) = false := by rw [beq_eq_false_iff_ne]; omega
  clear hC hS hn
  go_enter Try.func10, Try.ntmps10
  go_wp2_with fail
  refine hF.out.mono ?_
  rintro e w1 ⟨rfl, hb⟩
  have hC1 := HCC.out.below hb
  have hS1 := HSS.out.below hb
  have HB := Lib.hid hb
  obtain ⟨d0, d1, d2, t0, t1, t2⟩ := slot_cells hS1 (q := q) (by rw [HN.out]; exact hqn)
  have c0 := hC1.get 0 _
  have c1 := hC1.get 1 _
  have f1 := hC1.froz 1 (by simp)
  have g1 := hC1.lt
  have g2 := hS1.lt
  have q0 : ¬ (q : Int) < 0 := by omega
  have q1 : (q : Int) < n := by omega
  have hgb := hbg.symm
  have H1 := Lib.hid hC1
  have H2 := Lib.hid hS1
  clear hC1 hS1 hb hF
  go_wp2
  go_ret
  refine ⟨rfl, ?_, ?_, ?_⟩
  · have h := (((H1.out.other g (q * 3) (.int .i64 2) hgb).other g (q * 3 + 1) (.string ⟨#[]⟩) hgb).other g (q * 3 + 2) (.int .i64 0) hgb).set' 1 (.int .i64 ((lv : Int) - 1)) (by simp)
    rw [show ((lv - 1 : Nat) : Int) = (lv : Int) - 1 by omega]
    simpa using h
  · have h := slot_write H2.out (q := q) (by rw [HN.out]; exact hqn) ⟨2, ⟨#[]⟩, 0⟩
    exact h.other b 1 _ hbg
  · exact ((((Only.of_below _ HB.out).setCell ⟨g, q * 3, none⟩ _ (fun _ => .inr rfl)).setCell ⟨g, q * 3 + 1, none⟩ _ (fun _ => .inr rfl)).setCell ⟨g, q * 3 + 2, none⟩ _ (fun _ => .inr rfl)).setCell ⟨b, 1, none⟩ _ (fun _ => .inl rfl)
theorem del_no (b g n : Nat) (lv us : Int) (post : List Value) (ss : List Slot) (w : World) (k : ByteArray) (j : Nat) (hC : Cs w b (.slice (some ⟨g, 0, none⟩) n n :: .int .i64 lv :: .int .i64 us :: post)) (hS : Cs w g (slotsC ss)) (hn : ss.length = n) (hn2 : n ≤ 4611686018427387904) (hk : k.size ≤ maxLen)
    (he : Ends hashB ss k j false) :
    Calls Try.prog 10 #[.pointer (some ⟨b, 0, none⟩), .string k] w fun e w' => e = .returned (.bool false) ∧ Below w.heap.size w w' := by
  have hF := Lib.hid (find_any b g n n lv us post ss w k j false hC hS hn hn2 hk (Nat.le_refl _) he)
  have hn0 : 0 < n := by have := he.lt; omega
  obtain ⟨q, hqq⟩ : ∃ q, (hashB k + j) % n = q := ⟨_, rfl⟩
  rw [hqq] at hF
  have c0 := hC.get 0 _
  have g1 := hC.lt
  have hnz : ((n : Int) == 0) = false := by rw [beq_eq_false_iff_ne]; omega
  clear hC hS hn hqq he
  go_enter Try.func10, Try.ntmps10
  go_wp2_with fail
  refine hF.out.mono ?_
  rintro e w1 ⟨rfl, hb⟩
  have HB := Lib.hid hb
  clear hb hF
  go_wp2
  go_ret
  exact ⟨rfl, HB.out⟩
theorem del_nil (b : Nat) (lv us : Int) (post : List Value) (w : World) (k : ByteArray) (hC : Cs w b (.slice none 0 0 :: .int .i64 lv :: .int .i64 us :: post)) :
    Calls Try.prog 10 #[.pointer (some ⟨b, 0, none⟩), .string k] w fun e w' => e = .returned (.bool false) ∧ Below w.heap.size w w' := by
  have c0 := hC.get 0 _
  have g1 := hC.lt
  clear hC
  go_enter Try.func10, Try.ntmps10
  go_wp2_with fail
  go_ret
  exact ⟨rfl, Below.refl _ _⟩
end Go.Proofs.Ytikbekchddinfaa
