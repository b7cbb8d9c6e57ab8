/- Put of a table in general; a table by its contents. -/
import Derived.Test.YtikbekchddinfaaTabR
import Derived.BigQuiet
namespace Go.Proofs.Ytikbekchddinfaa
open Go.RowKit
set_option linter.unusedVariables false
set_option maxRecDepth 20000
theorem put_old (b g n : Nat) (lv us : Int) (post : List Value) (ss : List Slot) (w : World) (k : ByteArray) (v : Int) (j : Nat) (hC : Cs w b (.slice (some ⟨g, 0, none⟩) n n :: .int .i64 lv :: .int .i64 us :: post)) (hS : Cs w g (slotsC ss)) (hn : ss.length = n) (hn2 : n ≤ 4398046511104) (hk : k.size ≤ maxLen)
    (hbg : b ≠ g) (he : Ends hashB ss k j true) :
    Calls Try.prog 9 #[.pointer (some ⟨b, 0, none⟩), .string k, .int .i64 v] w fun e w' => e = .returned (.bool false) ∧
      Cs w' b (.slice (some ⟨g, 0, none⟩) n n :: .int .i64 lv :: .int .i64 us :: post) ∧ Cs w' g (slotsC (ss.set ((hashB k + j) % n) ⟨1, k, v⟩)) ∧ Only (fun q => q = b ∨ q = g) w w' := by
  have hF := Lib.hid (find_any b g n n lv us post ss w k j true hC hS hn (by omega) hk (Nat.le_refl _) he)
  have hn0 : 0 < n := by have := he.lt; omega
  have HY := Lib.hid (he.yes rfl)
  rw [hn] at HY
  obtain ⟨q, hqq⟩ : ∃ q, (hashB k + j) % n = q := ⟨_, rfl⟩
  rw [hqq] at hF HY ⊢
  have hqn : q < n := by rw [← hqq]; exact Nat.mod_lt _ hn0
  clear he hqq
  have HCC := Lib.hid hC
  have HSS := Lib.hid hS
  have HN := Lib.hid hn
  have c0 := hC.get 0 _
  have g1 := hC.lt
  have hnz : (0 : Int) < n := by omega
  clear hC hS hn
  go_enter Try.func9, Try.ntmps9
  go_wp2_with fail
  refine hF.out.mono ?_
  rintro e w1 ⟨rfl, hb⟩
  have hC1 := HCC.out.below hb
  have hS1 := HSS.out.below hb
  have HB := Lib.hid hb
  obtain ⟨d0, d1, d2, t0, t1, t2⟩ := slot_cells hS1 (q := q) (by rw [HN.out]; exact hqn)
  have c0 := hC1.get 0 _
  have g1 := hC1.lt
  have g2 := hS1.lt
  have q0 : ¬ (q : Int) < 0 := by omega
  have q1 : (q : Int) < n := by omega
  have hgb := hbg.symm
  have H1 := Lib.hid hC1
  have H2 := Lib.hid hS1
  clear hC1 hS1 hb hF d0 d1 t0 t1
  go_wp2
  go_ret
  refine ⟨rfl, H1.out.other g (q * 3 + 2) _ hgb, ?_, (Only.of_below _ HB.out).setCell ⟨g, q * 3 + 2, none⟩ _ (fun _ => .inr rfl)⟩
  have h := slot_write1 H2.out (q := q) (by rw [HN.out]; exact hqn) v
  rw [HY.out.1, HY.out.2] at h
  exact h
theorem put_room (b g n : Nat) (lv us : Nat) (post : List Value) (ss : List Slot) (w : World) (k : ByteArray) (v : Int) (j : Nat) (hC : Cs w b (.slice (some ⟨g, 0, none⟩) n n :: .int .i64 lv :: .int .i64 us :: post)) (hS : Cs w g (slotsC ss)) (hn : ss.length = n) (hn2 : n ≤ 4398046511104) (hk : k.size ≤ maxLen)
    (hbg : b ≠ g) (hlv : lv ≤ 68719476736) (hus : 2 * (us + 1) ≤ n) (he : Ends hashB ss k j false) :
    Calls Try.prog 9 #[.pointer (some ⟨b, 0, none⟩), .string k, .int .i64 v] w fun e w' => e = .returned (.bool true) ∧
      Cs w' b (.slice (some ⟨g, 0, none⟩) n n :: .int .i64 (lv + 1 : Nat) :: .int .i64 (us + 1 : Nat) :: post) ∧ Cs w' g (slotsC (ss.set ((hashB k + j) % n) ⟨1, k, v⟩)) ∧ Only (fun q => q = b ∨ q = g) w w' := by
  have hF := Lib.hid (find_any b g n n lv us post ss w k j false hC hS hn (by omega) hk (Nat.le_refl _) he)
  have hn0 : 0 < n := by have := he.lt; omega
  have HL : Hid (∀ w1, Below w.heap.size w w1 → Calls Try.prog 17 #[.pointer (some ⟨b, 0, none⟩), .string k, .int .i64 v] w1 fun e w' => e = .returned (.tuple #[]) ∧
      Cs w' b (.slice (some ⟨g, 0, none⟩) n n :: .int .i64 (lv + 1 : Nat) :: .int .i64 (us + 1 : Nat) :: post) ∧ Cs w' g (slotsC (ss.set ((hashB k + j) % n) ⟨1, k, v⟩)) ∧ Only (fun q => q = b ∨ q = g) w1 w') :=
    Lib.hid (fun w1 hb => lay_any b g n lv us post ss w1 k v j (hC.below hb) (hS.below hb) hn (by omega) hk hbg (by omega) (by omega) he)
  obtain ⟨q, hqq⟩ : ∃ q, (hashB k + j) % n = q := ⟨_, rfl⟩
  rw [hqq] at hF HL ⊢
  clear he hqq
  have HCC := Lib.hid hC
  have c0 := hC.get 0 _
  have g1 := hC.lt
  have hnz : (0 : Int) < n := by omega
  clear hC hS hn
  go_enter Try.func9, Try.ntmps9
  go_wp2_with fail
  refine hF.out.mono ?_
  rintro e w1 ⟨rfl, hb⟩
  have hC1 := HCC.out.below hb
  have HB := Lib.hid hb
  have c0 := hC1.get 0 _
  have c2 := hC1.get 2 _
  have g1 := hC1.lt
  have hi1 : IntKind.i64.wrap ((us : Int) + 1) = (us : Int) + 1 := IntWalk.i64_in _ (by omega)
  have hi2 : IntKind.i64.wrap (2 * ((us : Int) + 1)) = 2 * ((us : Int) + 1) := IntWalk.i64_in _ (by omega)
  have hgt : decide ((n : Int) < 2 * ((us : Int) + 1)) = false := by simp; omega
  clear hC1 hb hF
  go_wp2_with fail
  go_quiet (fail)
  generalize hwd : w1.drewN _ = wd
  have HBd : Hid (Below w.heap.size w wd) := Lib.hid (by rw [← hwd]; exact below_drewN HB.out _)
  clear hwd
  go_wp2_with fail
  refine (HL.out _ HBd.out).mono ?_
  rintro e w3 ⟨rfl, a1, a2, a3⟩
  have A1 := Lib.hid a1
  have A2 := Lib.hid a2
  have A3 := Lib.hid a3
  clear a1 a2 a3
  go_wp2
  go_ret
  exact ⟨rfl, A1.out, A2.out, (Only.of_below (fun q => q = b ∨ q = g) HBd.out).trans A3.out (fun _ _ e => e)⟩
/-- What a Put behind a renewal leaves. -/
def PutN (w : World) (b : Nat) (post : List Value) (M : ByteArray → Option Int) (lv : Nat) (k : ByteArray) (v : Int) (e : Ending) (w' : World) : Prop :=
  e = .returned (.bool true) ∧ ∃ (g m : Nat) (ss' : List Slot), Cs w' b (.slice (some ⟨g, 0, none⟩) m m :: .int .i64 (lv + 1 : Nat) :: .int .i64 (lv + 1 : Nat) :: post) ∧ Cs w' g (slotsC ss') ∧ ss'.length = m ∧ TI hashB ss' (upd M k (some v)) ∧ lives ss' = lv + 1 ∧ fulls ss' = lv + 1 ∧
    4 * (lv + 1) ≤ m ∧ (m = 8 ∨ m < 8 * (lv + 1)) ∧ 8 ≤ m ∧ w.heap.size ≤ g ∧ g ≠ b ∧ Only (fun q => q = b) w w'
/-- lay behind renew. -/
theorem lay_renewed {w w1 : World} {b lv : Nat} {post : List Value} {M : ByteArray → Option Int} {e : Ending} (h : RenewR w b post M lv e w1) (hb : b < w.heap.size) (k : ByteArray) (v : Int) (hk : k.size ≤ maxLen) (hm : M k = none) (hlv : lv ≤ 68719476736) :
    Calls Try.prog 17 #[.pointer (some ⟨b, 0, none⟩), .string k, .int .i64 v] w1 fun e w' => e = .returned (.tuple #[]) ∧ PutN w b post M lv k v (.returned (.bool true)) w' := by
  obtain ⟨-, g, m, ss, a1, a2, a3, a4, a5, a6, a7, a8, a9, a10, a11⟩ := h
  obtain ⟨j, bb, he, hno⟩ := ends_ex a4.ok (empty_ex ss (by rw [a6, a3]; omega)) k
  cases bb with
  | true => have := a4.found he; rw [hm] at this; cases this
  | false =>
    have hbg : b ≠ g := by omega
    refine (lay_any b g m lv lv post ss w1 k v j a1 a2 a3 (by omega) hk hbg (by omega) (by omega) he).mono ?_
    rintro e w' ⟨rfl, c1, c2, c3⟩
    have hi : (hashB k + j) % ss.length < ss.length := mod_in he.lt
    have hno' := he.no rfl
    have t1 := a4.put_new he hm v hk
    rw [a3] at hi hno' t1
    have t2 := lives_set ss _ ⟨1, k, v⟩ (by rw [a3]; exact hi)
    have t3 := fulls_set ss _ ⟨1, k, v⟩ (by rw [a3]; exact hi)
    rw [hno'] at t2 t3
    simp at t2 t3
    refine ⟨rfl, rfl, g, m, _, c1, c2, by simpa using a3, t1, by omega, by omega, a7, a8, a9, a10, hbg.symm, ?_⟩
    exact a11.trans c3 (fun q hq e => by
      rcases e with e | e
      · exact e
      · subst e; omega)
theorem put_full (b g n : Nat) (lv us : Nat) (post : List Value) (ss : List Slot) (w : World) (k : ByteArray) (v : Int) (j : Nat) (M : ByteArray → Option Int) (hC : Cs w b (.slice (some ⟨g, 0, none⟩) n n :: .int .i64 lv :: .int .i64 us :: post)) (hS : Cs w g (slotsC ss)) (hn : ss.length = n) (hn2 : n ≤ 4398046511104) (hk : k.size ≤ maxLen)
    (hbg : g ≠ b) (hlv : lv ≤ 68719476736) (hus : n < 2 * (us + 1)) (hus2 : us ≤ n) (hI : TI hashB ss M) (hl : lives ss = lv) (hm : M k = none) (he : Ends hashB ss k j false) :
    Calls Try.prog 9 #[.pointer (some ⟨b, 0, none⟩), .string k, .int .i64 v] w (PutN w b post M lv k v) := by
  have hF := Lib.hid (find_any b g n n lv us post ss w k j false hC hS hn (by omega) hk (Nat.le_refl _) he)
  have hn0 : 0 < n := by have := he.lt; omega
  have HL : Hid (∀ w1, Below w.heap.size w w1 → Calls Try.prog 16 #[.pointer (some ⟨b, 0, none⟩)] w1 (RenewR w1 b post M lv)) :=
    Lib.hid (fun w1 hb => renew_any w1 b post ss (.slice (some ⟨g, 0, none⟩) n n) lv us n M ⟨hC.below hb, .inr ⟨g, by rw [hn], hbg, hS.below hb, by omega⟩⟩ hI hl hlv hn hn2)
  obtain ⟨q, hqq⟩ : ∃ q, (hashB k + j) % n = q := ⟨_, rfl⟩
  rw [hqq] at hF
  clear he hqq
  have HCC := Lib.hid hC
  have c0 := hC.get 0 _
  have g1 := hC.lt
  have hnz : (0 : Int) < n := by omega
  have HM := Lib.hid hm
  have HK := Lib.hid hk
  clear hC hS hn hI hl hm
  go_enter Try.func9, Try.ntmps9
  go_wp2_with fail
  refine hF.out.mono ?_
  rintro e w1 ⟨rfl, hb⟩
  have hC1 := HCC.out.below hb
  have HB := Lib.hid hb
  have c0 := hC1.get 0 _
  have c2 := hC1.get 2 _
  have g2 := hC1.lt
  have hi1 : IntKind.i64.wrap ((us : Int) + 1) = (us : Int) + 1 := IntWalk.i64_in _ (by omega)
  have hi2 : IntKind.i64.wrap (2 * ((us : Int) + 1)) = 2 * ((us : Int) + 1) := IntWalk.i64_in _ (by omega)
  have hgt : decide ((n : Int) < 2 * ((us : Int) + 1)) = true := by simp; omega
  clear hC1 hb hF
  go_wp2_with fail
  go_quiet (fail)
  generalize hwd : w1.drewN _ = wd
  have HBd : Hid (Below w.heap.size w wd) := Lib.hid (by rw [← hwd]; exact below_drewN HB.out _)
  clear hwd
  go_wp2_with fail
  refine (HL.out _ HBd.out).mono ?_
  intro e w3 hR
  obtain rfl := hR.1
  have HL2 := Lib.hid (lay_renewed hR (Nat.lt_of_lt_of_le g1 HBd.out.size) k v HK.out HM.out hlv)
  clear hR
  go_wp2_with fail
  refine HL2.out.mono ?_
  rintro e w4 ⟨rfl, hP⟩
  have HP := Lib.hid hP
  clear hP
  go_wp2
  go_ret
  obtain ⟨-, g', m, ss', a1, a2, a3, a4, a5, a6, a7, a8, a9, a10, a11, a12⟩ := HP.out
  exact ⟨rfl, g', m, ss', a1, a2, a3, a4, a5, a6, a7, a8, a9, Nat.le_trans HBd.out.size a10, a11, (Only.of_below (fun q => q = b) HBd.out).trans a12 (fun _ _ e => e)⟩
theorem put_nil (b : Nat) (post : List Value) (w : World) (k : ByteArray) (v : Int) (M : ByteArray → Option Int) (hC : Cs w b (.slice none 0 0 :: .int .i64 (0 : Nat) :: .int .i64 (0 : Nat) :: post)) (hk : k.size ≤ maxLen)
    (hI : TI hashB [] M) :
    Calls Try.prog 9 #[.pointer (some ⟨b, 0, none⟩), .string k, .int .i64 v] w (PutN w b post M 0 k v) := by
  have HL : Hid (∀ w1, Below w.heap.size w w1 → Calls Try.prog 16 #[.pointer (some ⟨b, 0, none⟩)] w1 (RenewR w1 b post M 0)) :=
    Lib.hid (fun w1 hb => renew_any w1 b post [] (.slice none 0 0) 0 0 0 M ⟨hC.below hb, .inl ⟨rfl, rfl⟩⟩ hI rfl (by omega) rfl (by omega))
  have HM : Hid (M k = none) := Lib.hid (by
    cases h : M k with
    | none => rfl
    | some x => obtain ⟨i, ⟨hi, _⟩, _⟩ := (hI.rep k x).1 h; simp at hi)
  have c0 := hC.get 0 _
  have c2 := hC.get 2 _
  have g1 := hC.lt
  have HK := Lib.hid hk
  clear hC hI hk
  go_enter Try.func9, Try.ntmps9
  go_wp2_with fail
  go_quiet (fail)
  generalize hwd : w.drewN _ = wd
  have HBd : Hid (Below w.heap.size w wd) := Lib.hid (by rw [← hwd]; exact below_drewN (Below.refl _ _) _)
  clear hwd
  go_wp2_with fail
  refine (HL.out _ HBd.out).mono ?_
  intro e w3 hR
  obtain rfl := hR.1
  have HL2 := Lib.hid (lay_renewed hR (Nat.lt_of_lt_of_le g1 HBd.out.size) k v HK.out HM.out (by omega))
  clear hR
  go_wp2_with fail
  refine HL2.out.mono ?_
  rintro e w4 ⟨rfl, hP⟩
  have HP := Lib.hid hP
  clear hP
  go_wp2
  go_ret
  obtain ⟨-, g', m, ss', a1, a2, a3, a4, a5, a6, a7, a8, a9, a10, a11, a12⟩ := HP.out
  exact ⟨rfl, g', m, ss', a1, a2, a3, a4, a5, a6, a7, a8, a9, Nat.le_trans HBd.out.size a10, a11, (Only.of_below (fun q => q = b) HBd.out).trans a12 (fun _ _ e => e)⟩
end Go.Proofs.Ytikbekchddinfaa
