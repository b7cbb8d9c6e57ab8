/- The contracts of layer 13: kinds, named. -/
import Derived.Test.YtkdknfedieeenaaGreatDoorOwnF
import Derived.Test.YtkdknfedieeenaaGreatDoorSm
namespace Go.Proofs.YtkdknfedieeenaaGreatDoor
open Go.RowKit
set_option linter.unusedVariables false
set_option maxRecDepth 20000

def kindL : List (ByteArray × Value) := [(⟨#[114, 112, 122, 45, 99, 108, 105, 101, 110, 116, 45, 105, 112]⟩, .int .i64 0), (⟨#[114, 112, 122, 45, 105, 112]⟩, .int .i64 3), (⟨#[114, 112, 122, 45, 110, 115, 105, 112]⟩, .int .i64 6), (⟨#[114, 112, 122, 45, 110, 115, 100, 110, 97, 109, 101]⟩, .int .i64 4)]
theorem kinds_any (w : World) : Calls Tryz.prog 79 #[] w fun e w' => ∃ b, e = .returned (.map (some b)) ∧ SM w' b kindL ∧ Below w.heap.size w w' := by
  have hmk : (Instr.makeMap 157 none).run Tryz.prog w = .ok (.map (some w.heap.size)) (w.alloc (.map #[] 0)) := rfl
  have ut := Tryz.underlying157
  have uk := Tryz.underlying9
  have h0 := SM.new w
  have b0 := (Below.refl w.heap.size w).alloc (Nat.le_refl _) (.map #[] 0)
  obtain ⟨w1, e1, h1, g1⟩ := h0.insert ut uk ⟨#[114, 112, 122, 45, 99, 108, 105, 101, 110, 116, 45, 105, 112]⟩ (.int .i64 0) (by decide)
  have b1 := below_grown b0 g1 b0.size (Nat.le_refl _)
  obtain ⟨w2, e2, h2, g2⟩ := h1.insert ut uk ⟨#[114, 112, 122, 45, 105, 112]⟩ (.int .i64 3) (by decide)
  have b2 := below_grown b1 g2 b1.size (Nat.le_refl _)
  obtain ⟨w3, e3, h3, g3⟩ := h2.insert ut uk ⟨#[114, 112, 122, 45, 110, 115, 105, 112]⟩ (.int .i64 6) (by decide)
  have b3 := below_grown b2 g3 b2.size (Nat.le_refl _)
  obtain ⟨w4, e4, h4, g4⟩ := h3.insert ut uk ⟨#[114, 112, 122, 45, 110, 115, 100, 110, 97, 109, 101]⟩ (.int .i64 4) (by decide)
  have b4 := below_grown b3 g4 b3.size (Nat.le_refl _)
  clear ut uk h0 h1 h2 h3 g1 g2 g3 g4 b0 b1 b2 b3
  go_enter Tryz.func79, Tryz.ntmps79
  go_wp2_with fail
  go_ret
  exact ⟨_, rfl, h4, b4⟩
theorem kindL_get (l : List UInt8) : smHas kindL (baL l) = (kindOf l).isSome ∧ (smGet kindL (baL l)).getD (.int .i64 0) = .int .i64 ((kindOf l).getD 0) := by
  have hd : (baL l).data.toList = l := by simp [baL]
  have c1 : ∀ (x : List UInt8), (l == x) = decide (l = x) := fun x => by rw [Bool.eq_iff_iff]; simp
  unfold smHas smGet kindL kindOf
  simp only [List.any_cons, List.any_nil, List.find?_cons, List.find?_nil, hd, c1]
  by_cases h1 : l = cClient
  · subst h1; exact ⟨rfl, rfl⟩
  · by_cases h2 : l = cAnswer
    · subst h2; exact ⟨rfl, rfl⟩
    · by_cases h3 : l = cNsip
      · subst h3; exact ⟨rfl, rfl⟩
      · by_cases h4 : l = cNsname
        · subst h4; exact ⟨rfl, rfl⟩
        · have e1 : decide (l = [114, 112, 122, 45, 99, 108, 105, 101, 110, 116, 45, 105, 112]) = false := decide_eq_false h1
          have e2 : decide (l = [114, 112, 122, 45, 105, 112]) = false := decide_eq_false h2
          have e3 : decide (l = [114, 112, 122, 45, 110, 115, 105, 112]) = false := decide_eq_false h3
          have e4 : decide (l = [114, 112, 122, 45, 110, 115, 100, 110, 97, 109, 101]) = false := decide_eq_false h4
          rw [if_neg h1, if_neg h2, if_neg h3, if_neg h4]
          simp only [e1, e2, e3, e4]
          exact ⟨rfl, rfl⟩

def trigC (t : Trig) : List Value := [.int .i64 t.kind, sv t.name, sv t.addr, .int .i64 t.bits]
def noTrig : Trig := ⟨0, [], [], 0⟩
def trigV (o : Option Trig) : Value := .tuple #[.agg (trigC (o.getD noTrig)).toArray, .bool o.isSome]
theorem Cs.all4 {w : World} {P : Nat} {a b c d a' b' c' d' : Value} (h : Cs w P [a, b, c, d]) : Cs ((((w.setCell ⟨P, 0, none⟩ a').setCell ⟨P, 1, none⟩ b').setCell ⟨P, 2, none⟩ c').setCell ⟨P, 3, none⟩ d') P [a', b', c', d'] :=
  (((h.set' 0 a' (by simp)).set' 1 b' (by simp)).set' 2 c' (by simp)).set' 3 d' (by simp)
theorem below_all4 {w W : World} {P B : Nat} {a' b' c' d' : Value} (h : Below B W w) (hP : B ≤ P) : Below B W ((((w.setCell ⟨P, 0, none⟩ a').setCell ⟨P, 1, none⟩ b').setCell ⟨P, 2, none⟩ c').setCell ⟨P, 3, none⟩ d') :=
  (((h.setCell (p := ⟨P, 0, none⟩) hP a').setCell (p := ⟨P, 1, none⟩) hP b').setCell (p := ⟨P, 2, none⟩) hP c').setCell (p := ⟨P, 3, none⟩) hP d'

theorem makeX_any (A : Option Addr) (n c : Nat) (X : List (List UInt8)) (w : World) (hA : Sl w w.heap.size 1 A n (X.map sv)) (hsz : ∀ x ∈ X, x.length ≤ maxLen) (hn : n ≤ maxLen) :
    Calls Tryz.prog 39 #[.slice A n c] w fun e w' => e = .returned (.tuple #[sv ((makeL X).getD []), .bool (makeL X).isSome]) ∧ Below w.heap.size w w' := by
  have h := make_any A n c (X.map baL) w (by rw [baL_strings]; exact hA) (by intro t ht; obtain ⟨x, hx, rfl⟩ := List.mem_map.1 ht; rw [show (baL x).size = x.length by simp [baL, ByteArray.size]]; exact hsz x hx) hn
  unfold nameOf makeOf at h
  rw [bytesOf_baL] at h
  exact h

set_option maxHeartbeats 8000000 in
theorem named_any (A : Option Addr) (n c : Nat) (X : List (List UInt8)) (ke kw : Int) (w : World) (hA : Sl w w.heap.size 1 A n (X.map sv)) (hnc : n ≤ c) (hsz : ∀ x ∈ X, x.length ≤ maxLen) (hn : n ≤ maxLen) :
    Calls Tryz.prog 80 #[.slice A n c, .int .i64 ke, .int .i64 kw] w fun e w' => e = .returned (trigV (namedR X ke kw)) ∧ Below w.heap.size w w' := by
  have hX := hA.strs_len
  have hn' := hn
  unfold maxLen at hn
  cases X with
  | nil =>
    obtain rfl : n = 0 := by simpa using hX.symm
    rw [show namedR [] ke kw = none from rfl]
    go_enter Tryz.func80, Tryz.ntmps80
    go_wp2_with fail
    exact bodyPost_ret (v := .tuple #[.agg #[.int .i64 0, .string ⟨#[]⟩, .string ⟨#[]⟩, .int .i64 0], .bool false]) (by simp [results, Tryz.results80, go_sem]) rfl ⟨rfl, (Below.refl _ _).alloc (Nat.le_refl _) _⟩
  | cons l r =>
    have hn1 : 0 < n := by simp at hX; omega
    obtain ⟨b, off, rfl, hb, hc⟩ := hA.2 hn1
    have h0 := hc 0 (sv l) rfl
    obtain ⟨S, hS⟩ : ∃ S, S = baL l := ⟨_, rfl⟩
    have hcell : (w.alloc (.cells #[.int .i64 0, .string ⟨#[]⟩, .string ⟨#[]⟩, .int .i64 0] 46)).cell? ⟨b, off, none⟩ = some (.string S) := by
      rw [World.cell?_alloc_lt w _ _ hb, hS]; exact h0
    have hcs := Cs.new w #[.int .i64 0, .string ⟨#[]⟩, .string ⟨#[]⟩, .int .i64 0] 46 [.int .i64 0, .string ⟨#[]⟩, .string ⟨#[]⟩, .int .i64 0]
    have hbel0 : Below w.heap.size w (w.alloc (.cells #[.int .i64 0, .string ⟨#[]⟩, .string ⟨#[]⟩, .int .i64 0] 46)) := (Below.refl _ _).alloc (Nat.le_refl _) _
    have hA0 := (hA.below hbel0).more hbel0.size
    have htl : ∀ A', (A' = some ⟨b, off + 1, none⟩ ∨ n = 1) → Sl (w.alloc (.cells #[.int .i64 0, .string ⟨#[]⟩, .string ⟨#[]⟩, .int .i64 0] 46)) (w.alloc (.cells #[.int .i64 0, .string ⟨#[]⟩, .string ⟨#[]⟩, .int .i64 0] 46)).heap.size 1 A' (n - 1) (r.map sv) := by
      intro A' h
      rcases h with rfl | h1
      · have := Sl.dropO (k := 1) (n := n - 1) (by rw [show 1 + (n - 1) = n by omega]; exact hA0)
        simpa using this
      · have hr : r = [] := by
          have : r.length = 0 := by simp at hX; omega
          exact List.eq_nil_of_length_eq_zero this
        rw [hr, h1]
        exact Sl.nil _ _ _ _
    have hszr : ∀ x ∈ r, x.length ≤ maxLen := fun x hx => hsz x (by simp [hx])
    by_cases hst : l = star
    · have heq : (S.toList == [42]) = true := by rw [str_is, hS, hst]; rfl
      have hres : namedR (l :: r) ke kw = some ⟨kw, (makeL r).getD [], [], 0⟩ := by simp only [namedR, if_pos hst]
      rw [hres]
      obtain ⟨M, hM⟩ : ∃ M, M = baL ((makeL r).getD []) := ⟨_, rfl⟩
      have hmk := fun q A' h => makeX_any A' (n - 1) (c - 1) r ((w.alloc (.cells #[.int .i64 0, .string ⟨#[]⟩, .string ⟨#[]⟩, .int .i64 0] 46)).drewN q) ((htl A' h).drewN q) hszr (by omega)
      rw [show sv ((makeL r).getD []) = .string M by rw [hM]; rfl] at hmk
      have hgoal : trigV (some ⟨kw, (makeL r).getD [], [], 0⟩) = .tuple #[.agg #[.int .i64 kw, .string M, .string ⟨#[]⟩, .int .i64 0], .bool true] := by rw [hM]; rfl
      rw [hgoal]
      have hcond : (if c = 1 then some (⟨b, off, none⟩ : Addr) else some ⟨b, off + 1, none⟩) = some ⟨b, off + 1, none⟩ ∨ n = 1 := by
        by_cases h : c = 1
        · right; omega
        · left; rw [if_neg h]
      have HMK := Lib.hid hmk
      have HCS := Lib.hid hcs
      have HB0 := Lib.hid hbel0
      have HCO := Lib.hid hcond
      clear hmk hgoal hM hres hst hszr htl hA0 hA hc h0 hX hsz hS hcs hbel0 hcond
      have q1 : (1 : Int) ≤ n := by omega
      go_enter Tryz.func80, Tryz.ntmps80
      go_upto_region 5 with fail
      go_quiet (fail)
      have HCO2 := HCO.out
      generalize (if c = 1 then some (⟨b, off, none⟩ : Addr) else some ⟨b, off + 1, none⟩) = A' at HCO2 ⊢
      have HM2 := Lib.hid (HMK.out nq A' HCO2)
      have HCS2 := Lib.hid (HCS.out.drewN nq)
      have HB2 := Lib.hid (HB0.out.trans ((drewN_below _ nq).mono HB0.out.size))
      generalize (w.alloc (.cells #[.int .i64 0, .string ⟨#[]⟩, .string ⟨#[]⟩, .int .i64 0] 46)).drewN nq = W at HM2 HCS2 HB2 ⊢
      clear HMK HCO HCO2 HCS HB0
      go_wp2_with (go_at_call 39; refine HM2.out.mono ?_; rintro e w1 ⟨rfl, hb1⟩; refine Hid.out ?_)
      refine Lib.hid ?_
      have hC1 := HCS2.out.below hb1
      have k0 := hC1.get 0 (.int .i64 0)
      have k1 := hC1.get 1 (.string ⟨#[]⟩)
      have k2 := hC1.get 2 (.string ⟨#[]⟩)
      have k3 := hC1.get 3 (.int .i64 0)
      have z0 := hC1.froz 0
      have z1 := hC1.froz 1
      have z2 := hC1.froz 2
      have z3 := hC1.froz 3
      have HC1 := Lib.hid hC1
      have HB1 := Lib.hid (HB2.out.trans (hb1.mono HB2.out.size))
      clear hC1 hb1 HCS2 HB2
      go_wp2_with fail
      refine bodyPost_ret (v := .tuple #[.agg #[.int .i64 kw, .string M, .string ⟨#[]⟩, .int .i64 0], .bool true]) ?_ rfl ⟨rfl, below_all4 HB1.out (Nat.le_refl _)⟩
      have hfin := HC1.out.all4 (a' := .int .i64 kw) (b' := .string M) (c' := .string ⟨#[]⟩) (d' := .int .i64 0)
      have g0 := hfin.get 0 (.int .i64 kw)
      have g1 := hfin.get 1 (.string M)
      have g2 := hfin.get 2 (.string ⟨#[]⟩)
      have g3 := hfin.get 3 (.int .i64 0)
      generalize (((w1.setCell ⟨w.heap.size, 0, none⟩ (.int .i64 kw)).setCell ⟨w.heap.size, 1, none⟩ (.string M)).setCell ⟨w.heap.size, 2, none⟩ (.string ⟨#[]⟩)).setCell ⟨w.heap.size, 3, none⟩ (.int .i64 0) = WF at g0 g1 g2 g3 ⊢
      simp [results, Tryz.results80, go_sem, g0, g1, g2, g3]
    · have heq : (S.toList == [42]) = false := by rw [str_is, hS, beq_eq_false_iff_ne]; exact fun h => hst (by simpa [baL, star] using h)
      have hres : namedR (l :: r) ke kw = some ⟨ke, (makeL (l :: r)).getD [], [], 0⟩ := by simp only [namedR, if_neg hst]
      rw [hres]
      obtain ⟨M, hM⟩ : ∃ M, M = baL ((makeL (l :: r)).getD []) := ⟨_, rfl⟩
      have hmk := makeX_any (some ⟨b, off, none⟩) n c (l :: r) (w.alloc (.cells #[.int .i64 0, .string ⟨#[]⟩, .string ⟨#[]⟩, .int .i64 0] 46)) hA0 hsz hn'
      rw [show sv ((makeL (l :: r)).getD []) = .string M by rw [hM]; rfl] at hmk
      have hgoal : trigV (some ⟨ke, (makeL (l :: r)).getD [], [], 0⟩) = .tuple #[.agg #[.int .i64 ke, .string M, .string ⟨#[]⟩, .int .i64 0], .bool true] := by rw [hM]; rfl
      rw [hgoal]
      have HM2 := Lib.hid hmk
      have HCS2 := Lib.hid hcs
      have HB2 := Lib.hid hbel0
      clear hmk hgoal hM hres hst hszr htl hA0 hA hc h0 hX hsz hS hcs hbel0
      have q1 : (1 : Int) ≤ n := by omega
      go_enter Tryz.func80, Tryz.ntmps80
      go_wp2_with (go_at_call 39; refine HM2.out.mono ?_; rintro e w1 ⟨rfl, hb1⟩; refine Hid.out ?_)
      refine Lib.hid ?_
      have hC1 := HCS2.out.below hb1
      have k0 := hC1.get 0 (.int .i64 0)
      have k1 := hC1.get 1 (.string ⟨#[]⟩)
      have k2 := hC1.get 2 (.string ⟨#[]⟩)
      have k3 := hC1.get 3 (.int .i64 0)
      have z0 := hC1.froz 0
      have z1 := hC1.froz 1
      have z2 := hC1.froz 2
      have z3 := hC1.froz 3
      have HC1 := Lib.hid hC1
      have HB1 := Lib.hid (HB2.out.trans (hb1.mono HB2.out.size))
      clear hC1 hb1 HCS2 HB2
      go_wp2_with fail
      refine bodyPost_ret (v := .tuple #[.agg #[.int .i64 ke, .string M, .string ⟨#[]⟩, .int .i64 0], .bool true]) ?_ rfl ⟨rfl, below_all4 HB1.out (Nat.le_refl _)⟩
      have hfin := HC1.out.all4 (a' := .int .i64 ke) (b' := .string M) (c' := .string ⟨#[]⟩) (d' := .int .i64 0)
      have g0 := hfin.get 0 (.int .i64 ke)
      have g1 := hfin.get 1 (.string M)
      have g2 := hfin.get 2 (.string ⟨#[]⟩)
      have g3 := hfin.get 3 (.int .i64 0)
      generalize (((w1.setCell ⟨w.heap.size, 0, none⟩ (.int .i64 ke)).setCell ⟨w.heap.size, 1, none⟩ (.string M)).setCell ⟨w.heap.size, 2, none⟩ (.string ⟨#[]⟩)).setCell ⟨w.heap.size, 3, none⟩ (.int .i64 0) = WF at g0 g1 g2 g3 ⊢
      simp [results, Tryz.results80, go_sem, g0, g1, g2, g3]
end Go.Proofs.YtkdknfedieeenaaGreatDoor
