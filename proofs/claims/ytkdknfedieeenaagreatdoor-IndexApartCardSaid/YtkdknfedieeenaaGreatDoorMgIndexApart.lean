/- Texts that walks stand on, one behind the other. -/
import Derived.Test.YtkdknfedieeenaaGreatDoorMgSE
import Derived.Test.YtkdknfedieeenaaGreatDoorMgSD
import Derived.Test.YtkdknfedieeenaaGreatDoorMgSB
import Derived.Test.YtkdknfedieeenaaGreatDoorView
namespace Go.Proofs.YtkdknfedieeenaaGreatDoor
open Go.RowKit
set_option linter.unusedVariables false
set_option linter.unusedSimpArgs false
set_option maxRecDepth 20000
abbrev m5 : ByteArray → Option Int := upd (fun _ => none) (wordT 2 ⟨#[]⟩) (some 5)
theorem m5_other {k : Int} {n : ByteArray} (hk : 0 ≤ k ∧ k < 256) (h : k ≠ 2 ∨ n ≠ ⟨#[]⟩) : m5 (wordT k n) = none := by
  unfold m5
  rw [upd_other]
  intro e
  obtain ⟨e1, e2⟩ := wordT_inj hk (by omega) e
  rcases h with h | h
  · exact h e1
  · exact h e2
theorem wild_root : ∀ (ls : List (List UInt8)) (f : Nat), OkLs ls → (wire ls).length + 1 ≤ f → wildO m5 2 f (some (wire ls)) = some (5, [])
  | [], 0, _, h => by omega
  | [], f + 1, _, _ => by
    unfold wildO
    have : m5 (wordT 2 (baL (wire []))) = some 5 := upd_same _ _ _
    rw [this]; rfl
  | l :: ls, 0, _, h => by omega
  | l :: ls, f + 1, hok, h => by
    have hl := hok.labels
    have hw : wire (l :: ls) ≠ [] := by simp [wire]
    unfold wildO
    rw [m5_other (by omega) (.inr (fun e => hw (by have := congrArg (fun b : ByteArray => b.data.toList) e; simpa [baL] using this)))]
    have hp : parentOf (baL (wire (l :: ls))) = some (wire ls) := by
      have hlb : labelsOf (baL (wire (l :: ls))) = some (l :: ls) := hl
      unfold parentOf
      rw [hlb]
    rw [hp]
    refine wild_root ls f hok.tail ?_
    have : (wire ls).length < (wire (l :: ls)).length := by simp [wire]; omega
    omega
theorem name_root {X : List (List UInt8)} (hX : OkLs X) (hne : X ≠ []) : nameV m5 1 2 (baL (wire X)) = (5, 2, ⟨#[]⟩, true) := by
  unfold nameV
  rw [m5_other (by omega) (.inl (by omega))]
  obtain ⟨l, ls, rfl⟩ : ∃ l ls, X = l :: ls := by
    cases X with
    | nil => exact absurd rfl hne
    | cons l ls => exact ⟨l, ls, rfl⟩
  have hp : parentOf (baL (wire (l :: ls))) = some (wire ls) := by
    have hlb : labelsOf (baL (wire (l :: ls))) = some (l :: ls) := hX.labels
    unfold parentOf
    rw [hlb]
  rw [hp]
  have hw := wild_root ls ((baL (wire (l :: ls))).size + 1) hX.tail (by
    rw [baL_sz]
    have : (wire ls).length ≤ (wire (l :: ls)).length := by simp [wire]; omega
    omega)
  rw [hw]; rfl
theorem name_none : nameV m5 1 2 ⟨#[]⟩ = (0, 0, ⟨#[]⟩, false) := by decide +kernel
theorem enc_root : ∃ z, encR (toT 2 ⟨#[]⟩ ⟨#[]⟩ 0) = some z := by
  have h := (good_name (k := 2) (X := []) ⟨by simp, by decide⟩ (.inr (.inl rfl)) (by intro h; omega)).enc
  exact ⟨_, h⟩
theorem enc_pfx0 {a : List UInt8} (h : isAddr a.length = true) : ∃ z, encR (toT 3 ⟨#[]⟩ (baL (cutL a 0)) 0) = some z := by
  have hm : mayP (cutL a 0) 0 = true := by
    unfold mayP
    rw [Bool.and_eq_true]
    refine ⟨?_, ?_⟩
    · unfold isCut
      rw [cutL_length, h]
      simp
      omega
    · show (cutL (cutL a 0) 0 == cutL a 0) = true
      rw [cutL_cutL a 0 (by omega)]; simp
  exact ⟨_, (good_pfx hm (.inr (.inl rfl))).enc⟩
noncomputable def s5 : IxS := putI emptyI (toT 2 ⟨#[]⟩ ⟨#[]⟩ 0) 5
noncomputable def s6 (a : List UInt8) : IxS := putI s5 (toT 3 ⟨#[]⟩ (baL (cutL a 0)) 0) 6
theorem s5_is : s5 = { emptyI with M := m5, lv := 1 } := by
  obtain ⟨z, h⟩ := enc_root
  unfold s5
  rw [putI_nam h rfl]; rfl
theorem put5 : putB emptyI (toT 2 ⟨#[]⟩ ⟨#[]⟩ 0) = true := by
  obtain ⟨z, h⟩ := enc_root
  rw [putB_nam h rfl]; rfl
theorem pfx0_not {a : List UInt8} (h : isAddr a.length = true) : namB (toT 3 ⟨#[]⟩ (baL (cutL a 0)) 0) = false := by
  rw [Bool.eq_false_iff]
  intro e
  have h1 := ((namB_iff _).1 e).1
  have h2 : (cutL a 0).length = 0 := by
    have := congrArg List.length h1
    simpa [toT, baL] using this
  rw [cutL_length] at h2
  have := isAddr_pos h
  omega
theorem key0 (a : List UInt8) : keyP (toT 3 ⟨#[]⟩ (baL (cutL a 0)) 0) = [] := by unfold keyP toT; simp [signs]
theorem fam0 (a : List UInt8) : famP (toT 3 ⟨#[]⟩ (baL (cutL a 0)) 0) = (3, (a.length : Int)) := by
  have : (baL (cutL a 0)).data.toList.length = a.length := by rw [show (baL (cutL a 0)).data.toList = cutL a 0 from rfl, cutL_length]
  unfold famP toT
  rw [this]
theorem put6 {a : List UInt8} (h : isAddr a.length = true) : putB s5 (toT 3 ⟨#[]⟩ (baL (cutL a 0)) 0) = true := by
  obtain ⟨z, he⟩ := enc_pfx0 h
  rw [putB_some he]
  unfold IxS.val
  rw [pfx0_not h, if_neg (by simp), s5_is]
  show (getR (emptyI.G (famP (toT 3 ⟨#[]⟩ (baL (cutL a 0)) 0))) (keyP (toT 3 ⟨#[]⟩ (baL (cutL a 0)) 0))).isNone = true
  rw [emptyI_get]; rfl
theorem s6_is {a : List UInt8} (h : isAddr a.length = true) : (s6 a).M = m5 ∧ (s6 a).G = fun f => if f = (3, (a.length : Int)) then leafR [] 6 else .nil := by
  obtain ⟨z, he⟩ := enc_pfx0 h
  unfold s6
  rw [putI_some he]
  unfold IxS.put
  rw [pfx0_not h, if_neg (by simp), s5_is, key0, fam0]
  exact ⟨rfl, rfl⟩
theorem addr_zero {a : List UInt8} (h : isAddr a.length = true) : adrV (s6 a).G 3 (baL a) = (6, 3, baL (cutL a 0), 0, true) := by
  have hs : (baL a).size = a.length := baL_sz a
  unfold adrV
  rw [(s6_is h).2, hs]
  simp only [if_true]
  have : longR (leafR [] 6) (signs (bitsL (baL a).data.toList)) none = some (0, 6) := by
    unfold leafR longR
    simp only [List.nil_prefix, if_true]
    split
    · rfl
    · rfl
  rw [this]
  rfl
theorem addr_other {a b : List UInt8} (h : isAddr a.length = true) (hb : b.length ≠ a.length) : adrV (s6 a).G 3 (baL b) = (0, 0, ⟨#[]⟩, 0, false) := by
  have hs : (baL b).size = b.length := baL_sz b
  unfold adrV
  rw [(s6_is h).2, hs]
  simp only
  rw [if_neg (by intro e; simp only [Prod.mk.injEq] at e; omega)]
  rfl
/-- A box beside an index is kept. -/
theorem IXn.keep1 {W w w' : World} {B b most g : Nat} {own : List Nat} {S : IxS} {cs : List Value} (h : IXn W B b own S most w w') (hc : Cs w g cs) (hg : g ∉ own) : ∃ own', IXs W B b own' S most w' ∧ Cs w' g cs ∧ g ∉ own' := by
  obtain ⟨own', h1, h2, h3⟩ := h
  refine ⟨own', h1, h2.cs hc hg, fun e => ?_⟩
  rcases h3 g e with h4 | h4
  · exact hg h4
  · have := hc.lt; omega
end Go.Proofs.YtkdknfedieeenaaGreatDoor
namespace Go.Proofs.YtkdknfedieeenaaGreatDoor
open Go.RowKit
set_option linter.unusedVariables false
set_option linter.unusedSimpArgs false
set_option maxRecDepth 20000
def trigT (t : Trig) : Value := .agg #[.int .i64 t.kind, .string (baL t.name), .string (baL t.addr), .int .i64 t.bits]
set_option maxHeartbeats 8000000 in
theorem acttrig_any (op kd : Int) (hkd : 0 ≤ kd ∧ kd ≤ 255) (A : Option Addr) (n c : Nat) (zs : List Int) (six : Bool) (bt : Int) (hbt : 0 ≤ bt ∧ bt ≤ 255) (val : Int) (w : World) (hA : Sl w w.heap.size 1 A n (zs.map (Value.int .u8))) (hz : ∀ z ∈ zs, 0 ≤ z ∧ z < 256) (hn : n ≤ 140737488355328) :
    Calls Tryz.prog 26 #[.agg #[.int .u8 op, .int .u8 kd, .slice A n c, .bool six, .int .u8 bt, .int .i64 val]] w fun e w' => e = .returned (trigT (trigD kd zs six bt)) ∧ TrigOk kd (trigD kd zs six bt) ∧ Below w.heap.size w w' := by
  obtain ⟨W1, hW1⟩ : ∃ W1, W1 = w.alloc (.cells #[.int .u8 op, .int .u8 kd, .slice A n c, .bool six, .int .u8 bt, .int .i64 val] 76) := ⟨_, rfl⟩
  obtain ⟨W0, hW0⟩ : ∃ W0, W0 = W1.alloc (.cells #[.int .i64 0, .string ⟨#[]⟩, .string ⟨#[]⟩, .int .i64 0] 46) := ⟨_, rfl⟩
  have e1 : W1.heap.size = w.heap.size + 1 := by rw [hW1]; simp
  have hq0 : Cs W0 w.heap.size [.int .u8 op, .int .u8 kd, .slice A n c, .bool six, .int .u8 bt, .int .i64 val] := by rw [hW0, hW1]; exact (Cs.new w _ _ _).alloc _
  have hr0 : Cs W0 (w.heap.size + 1) [.int .i64 0, .string ⟨#[]⟩, .string ⟨#[]⟩, .int .i64 0] := by rw [hW0]; exact (Cs.new W1 _ _ _).at_ _ e1
  have hbel : Below w.heap.size w W0 := by
    rw [hW0, hW1]
    exact ((Below.refl w.heap.size w).alloc (Nat.le_refl _) _).alloc (by simp) _
  rw [hW1] at hW0
  have htr := trigD_any kd hkd A n c zs six bt hbt W0 ((hA.below hbel).more hbel.size) hz hn
  obtain ⟨T, hT⟩ : ∃ T, T = trigD kd zs six bt := ⟨_, rfl⟩
  rw [← hT] at htr ⊢
  have htr : Calls Tryz.prog 30 #[.int .u8 kd, .slice A n c, .bool six, .int .u8 bt] W0 fun e w' => e = .returned (.agg #[.int .i64 T.kind, .string (baL T.name), .string (baL T.addr), .int .i64 T.bits]) ∧ TrigOk kd T ∧ Below W0.heap.size W0 w' := by
    refine htr.mono ?_
    rintro e w' ⟨t, rfl, ht, hb⟩
    have h1 := ht.eq
    subst h1
    exact ⟨rfl, ht.ok, hb⟩
  unfold trigT
  generalize T.kind = tk at *
  obtain ⟨TN, hTN⟩ : ∃ TN, TN = baL T.name := ⟨_, rfl⟩
  obtain ⟨TA, hTA⟩ : ∃ TA, TA = baL T.addr := ⟨_, rfl⟩
  generalize T.bits = tb at *
  rw [← hTN, ← hTA] at htr ⊢
  have y1 := hq0.get 1 (.int .u8 kd)
  have y2 := hq0.get 2 (.slice A n c)
  have y3 := hq0.get 3 (.bool six)
  have y4 := hq0.get 4 (.int .u8 bt)
  have HTR := Lib.hid htr
  have HR0 := Lib.hid hr0
  have HBEL := Lib.hid hbel
  have HW0 := Lib.hid hW0
  clear htr hr0 hbel hq0 hA hz hn hW1 e1 hTN hTA hT hkd hbt hW0
  go_enter Tryz.func26, Tryz.ntmps26
  go_upto_region 1 with fail
  rw [← HW0.out]
  go_wp2_with (go_at_call 30; refine HTR.out.mono ?_; rintro e w2 ⟨rfl, hok, hb2⟩; refine Hid.out ?_)
  refine Lib.hid ?_
  have hr2 := HR0.out.below hb2
  have HB2 := Lib.hid (HBEL.out.trans (hb2.mono HBEL.out.size))
  have HOK := Lib.hid hok
  have HR2 := Lib.hid hr2
  have m0 := hr2.get 0 (.int .i64 0)
  have m1 := hr2.get 1 (.string ⟨#[]⟩)
  have m2 := hr2.get 2 (.string ⟨#[]⟩)
  have m3 := hr2.get 3 (.int .i64 0)
  have f0 := hr2.froz 0 (by simp)
  have f1 := hr2.froz 1 (by simp)
  have f2 := hr2.froz 2 (by simp)
  have f3 := hr2.froz 3 (by simp)
  have HFIN := Lib.hid (four_set hr2 (.int .i64 tk) (.string TN) (.string TA) (.int .i64 tb))
  have HBF := Lib.hid (four_below HB2.out (Nat.le_succ _) (.int .i64 tk) (.string TN) (.string TA) (.int .i64 tb))
  clear hr2 hb2 hok HTR HR0 HBEL HW0 HR2 y1 y2 y3 y4 HB2
  go_wp2_with fail
  refine bodyPost_ret (v := .agg #[.int .i64 tk, .string TN, .string TA, .int .i64 tb]) ?_ rfl ⟨rfl, HOK.out, HBF.out⟩
  have t0 := HFIN.out.get 0 (.int .i64 tk)
  have t1 := HFIN.out.get 1 (.string TN)
  have t2 := HFIN.out.get 2 (.string TA)
  have t3 := HFIN.out.get 3 (.int .i64 tb)
  clear HFIN HBF m0 m1 m2 m3 f0 f1 f2 f3
  simp [results, Tryz.results26, go_sem, t0, t1, t2, t3]
/-- Two triggers that have names, in words. -/
theorem apart_words {s t : Trig} {y z : List UInt8} (hs : encR s = some y) (ht : encR t = some z) (u v : Int) : putB emptyI s = true ∧ putB (putI emptyI s u) t = !(decide (s = t)) ∧
    ((putI (putI emptyI s u) t v).val s = some (if s = t then v else u)) ∧ (putI (putI emptyI s u) t v).val t = some v ∧ (putI (putI emptyI s u) t v).len = (if s = t then 1 else 2) ∧ (putI (putI emptyI s u) t v).Ok := by
  rw [putI_some hs, putI_some ht, putB_some hs, putB_some ht]
  have o1 := IxS.put_ok u emptyI_ok hs
  have o2 := IxS.put_ok v o1 ht
  have v1 : (emptyI.put s u).val s = some u := by rw [IxS.val_put u emptyI_ok hs hs, if_pos rfl]
  have v2 : (emptyI.put s u).val t = if t = s then some u else none := by rw [IxS.val_put u emptyI_ok hs ht, emptyI_val]
  have l1 : (emptyI.put s u).len = 1 := by rw [IxS.put_len, emptyI_val, if_neg (show ¬ (none : Option Int).isSome = true by simp)]; rfl
  refine ⟨by rw [emptyI_val]; rfl, ?_, ?_, by rw [IxS.val_put v o1 ht ht, if_pos rfl], ?_, o2⟩
  · rw [v2]
    by_cases e : s = t
    · rw [if_pos e.symm]; simp [e]
    · rw [if_neg (fun h => e h.symm)]; simp [e]
  · rw [IxS.val_put v o1 ht hs, v1]
    by_cases e : s = t
    · rw [if_pos e, if_pos e]
    · rw [if_neg e, if_neg e]
  · rw [IxS.put_len, v2, l1]
    by_cases e : s = t
    · subst e; simp
    · have e2 : ¬ t = s := fun h => e h.symm
      simp [e, e2]
end Go.Proofs.YtkdknfedieeenaaGreatDoor
namespace Go.Proofs.YtkdknfedieeenaaGreatDoor
open Go.RowKit
set_option linter.unusedVariables false
/-- Operations K1 and K2 turn the world, K1 first. -/
def Seq2 (K1 K2 : Nat) (P0 P1 P2 : World → Prop) : (Nat → Bool) → (Nat → Value) → World → Prop := fun d _ w =>
  (d K1 = false ∧ d K2 = false ∧ P0 w) ∨ (d K1 = true ∧ d K2 = false ∧ P1 w) ∨ (d K1 = true ∧ d K2 = true ∧ P2 w)
section
variable {K1 K2 : Nat} {P0 P1 P2 C : World → Prop} {d : Nat → Bool} {x x' : Nat → Value} {w w' : World}
theorem Seq2.start (h : P0 w) : Seq2 K1 K2 P0 P1 P2 (fun _ => false) x w := .inl ⟨rfl, rfl, h⟩
theorem Seq2.plain (h : Seq2 K1 K2 P0 P1 P2 d x w) {i : Nat} (h1 : i ≠ K1) (h2 : i ≠ K2) : Seq2 K1 K2 P0 P1 P2 (setD d i) x' w := by
  unfold Seq2 at *
  rw [setD_ne d (Ne.symm h1), setD_ne d (Ne.symm h2)]
  exact h
theorem Seq2.goes (h : Seq2 K1 K2 P0 P1 P2 d x w) {i : Nat} (h1 : i ≠ K1) (h2 : i ≠ K2) (k0 : P0 w → P0 w') (k1 : P1 w → P1 w') (k2 : P2 w → P2 w') : Seq2 K1 K2 P0 P1 P2 (setD d i) x' w' := by
  unfold Seq2 at *
  rw [setD_ne d (Ne.symm h1), setD_ne d (Ne.symm h2)]
  rcases h with ⟨a, b, c⟩ | ⟨a, b, c⟩ | ⟨a, b, c⟩
  · exact .inl ⟨a, b, k0 c⟩
  · exact .inr (.inl ⟨a, b, k1 c⟩)
  · exact .inr (.inr ⟨a, b, k2 c⟩)
theorem Seq2.has (h : Seq2 K1 K2 P0 P1 P2 d x w) (k0 : P0 w → C w) (k1 : P1 w → C w) (k2 : P2 w → C w) : C w := by
  rcases h with ⟨a, b, c⟩ | ⟨a, b, c⟩ | ⟨a, b, c⟩
  · exact k0 c
  · exact k1 c
  · exact k2 c
theorem Seq2.at1 (h : Seq2 K1 K2 P0 P1 P2 d x w) (hd : d K1 = false) : d K2 = false ∧ P0 w := by
  rcases h with ⟨a, b, c⟩ | ⟨a, b, c⟩ | ⟨a, b, c⟩
  · exact ⟨b, c⟩
  · rw [hd] at a; cases a
  · rw [hd] at a; cases a
theorem Seq2.at2 (h : Seq2 K1 K2 P0 P1 P2 d x w) (hd : d K2 = false) (hk : d K1 = true) : P1 w := by
  rcases h with ⟨a, b, c⟩ | ⟨a, b, c⟩ | ⟨a, b, c⟩
  · rw [hk] at a; cases a
  · exact c
  · rw [hd] at b; cases b
theorem Seq2.call1 (h : Seq2 K1 K2 P0 P1 P2 d x w) (hd : d K1 = false) (hne : K1 ≠ K2) (hp : P1 w') : Seq2 K1 K2 P0 P1 P2 (setD d K1) x' w' := by
  refine .inr (.inl ⟨setD_self d K1, ?_, hp⟩)
  rw [setD_ne d (Ne.symm hne)]
  exact (h.at1 hd).1
theorem Seq2.call2 (hk : d K1 = true) (hp : P2 w') : Seq2 K1 K2 P0 P1 P2 (setD d K2) x' w' := .inr (.inr ⟨setD_le d K2 K1 hk, setD_self d K2, hp⟩)
theorem Seq2.fin (h : Seq2 K1 K2 P0 P1 P2 d x w) (h2 : d K2 = true) : P2 w := by
  rcases h with ⟨a, b, c⟩ | ⟨a, b, c⟩ | ⟨a, b, c⟩
  · rw [h2] at b; cases b
  · rw [h2] at b; cases b
  · exact c
end
theorem keep_isX (d : Nat → Bool) (K : Nat) (x : Nat → Value) (w w' : World) : ∀ (us : List Value) (k : Nat), KeepX d K x w w' k (us.map isX)
  | [], _ => trivial
  | _ :: us, k => ⟨fun _ _ h => h, keep_isX d K x w w' us (k + 1)⟩
end Go.Proofs.YtkdknfedieeenaaGreatDoor
namespace Go.Proofs.YtkdknfedieeenaaGreatDoor
open Go.RowKit
set_option linter.unusedVariables false
set_option linter.unusedSimpArgs false
set_option maxRecDepth 20000
attribute [local simp] putsF isV wordOf Deps Region.binds Region.wanted Act.put wantedX isB
theorem unskip' {p : Prop} {b : Bool} (hb : b = false) : b = true → p := fun h => by rw [hb] at h; cases h
def tW (v0 : Value) (p : Prop) : Value → World → Prop := fun v _ => v = v0 ∧ p
theorem tW_stays (v0 : Value) (p : Prop) : ∀ v w w', tW v0 p v w → Goes w w' → tW v0 p v w' := fun _ _ _ h _ => h
/-- An index and two boxes beside it. -/
def IXb (W : World) (b : Nat) (S : IxS) (most g h : Nat) (cs ds : List Value) (wx : World) : Prop := ∃ own, IXs W W.heap.size b own S most wx ∧ (Cs wx g cs ∧ g ∉ own) ∧ Cs wx h ds ∧ h ∉ own
theorem IXb.below {W wx wy : World} {b most g h : Nat} {S : IxS} {cs ds : List Value} (k : IXb W b S most g h cs ds wx) (hb : Below wx.heap.size wx wy) : IXb W b S most g h cs ds wy := by
  obtain ⟨own, k1, ⟨k2, k3⟩, k4, k5⟩ := k
  exact ⟨own, k1.below hb, ⟨k2.below hb, k3⟩, k4.below hb, k5⟩
theorem IXb.next {W wx wy : World} {b most' g h : Nat} {S' : IxS} {cs ds : List Value} {own : List Nat} (k : IXn W W.heap.size b own S' most' wx wy) (k2 : Cs wx g cs ∧ g ∉ own) (k3 : Cs wx h ds ∧ h ∉ own) : IXb W b S' most' g h cs ds wy := by
  obtain ⟨own', h1, h2, h3⟩ := k
  refine ⟨own', h1, ⟨h2.cs k2.1 k2.2, fun e => ?_⟩, h2.cs k3.1 k3.2, fun e => ?_⟩
  · rcases h3 g e with h4 | h4
    · exact k2.2 h4
    · have := k2.1.lt; omega
  · rcases h3 h e with h4 | h4
    · exact k3.2 h4
    · have := k3.1.lt; omega
theorem IxS.del_none_len {S : IxS} {t : Trig} (h : S.val t = none) : (S.del t).len = S.len := by
  unfold IxS.del IxS.val IxS.len at *
  cases hn : namB t with
  | true =>
    rw [hn] at h
    simp only [if_true] at h ⊢
    rw [h]
    simp
  | false =>
    rw [hn] at h
    simp only [Bool.false_eq_true, if_false] at h ⊢
    rw [h]
    simp
set_option maxHeartbeats 4000000 in
theorem store4 {Q : Exit → Act → World → Prop} {G : Act → World → Prop} (o : Oper) (i j : Nat) (ho : o.op = .store 46 (.tmp i) (.tmp j)) (hd : o.dst = none) (a : Act) (w : World) (g : Nat) (k x : Int) (n aa : ByteArray)
    (hc : Cs w g [.int .i64 0, .string ⟨#[]⟩, .string ⟨#[]⟩, .int .i64 0]) (hp : a.tmps[i]? = some (.pointer (some ⟨g, 0, none⟩))) (hx : a.tmps[j]? = some (.agg #[.int .i64 k, .string n, .string aa, .int .i64 x]))
    (h : ∀ w6, Cs w6 g [.int .i64 k, .string n, .string aa, .int .i64 x] → w6.heap.size = w.heap.size → (∀ k, k ≠ g → w6.heap[k]? = w.heap[k]?) → (∀ B W, B ≤ g → Below B W w → Below B W w6) → G a w6) :
    Oper.wp Tryz.prog o a w (fun a' w' => ∃ u, a' = a.put o.dst u ∧ G a' w') Q := by
  have hfin := h _ (four_set hc (.int .i64 k) (.string n) (.string aa) (.int .i64 x)) (by simp) (fun q hq => by rw [Below.heap_setCell _ _ _ q hq, Below.heap_setCell _ _ _ q hq, Below.heap_setCell _ _ _ q hq, Below.heap_setCell _ _ _ q hq]) (fun B W hB hW => four_below hW hB _ _ _ _)
  have m0 := hc.get 0 (.int .i64 0)
  have m1 := hc.get 1 (.string ⟨#[]⟩)
  have m2 := hc.get 2 (.string ⟨#[]⟩)
  have m3 := hc.get 3 (.int .i64 0)
  have f0 := hc.froz 0 (by simp)
  have f1 := hc.froz 1 (by simp)
  have f2 := hc.froz 2 (by simp)
  have f3 := hc.froz 3 (by simp)
  obtain ⟨dst, op, ty, pos, after, guard⟩ := o
  simp only at ho hd
  subst ho hd
  have HFIN := Lib.hid hfin
  clear hfin h hc
  go_simp
  exact HFIN.out
set_option maxHeartbeats 32000000 in
theorem indexApart_walk (w : World) (hL : LaidT w) (op1 : Int) (hop1 : (Lit.int .u8 op1).wf = true) (kd1 : Int) (hkd1 : (Lit.int .u8 kd1).wf = true) (A1 : Option Addr) (n1 c1 : Nat) (zs1 : List Int) (S1 : SlView w A1 n1 c1 (zs1.map (Value.int .u8))) (hl1 : zs1.length = n1) (hz1 : ∀ z ∈ zs1, (Lit.int .u8 z).wf = true) (hc1 : c1 ≤ 140737488351232) (six1 : Bool) (bt1 : Int) (hbt1 : (Lit.int .u8 bt1).wf = true) (va1 : Int) (hva1 : (Lit.int .i64 va1).wf = true)
    (op2 : Int) (hop2 : (Lit.int .u8 op2).wf = true) (kd2 : Int) (hkd2 : (Lit.int .u8 kd2).wf = true) (A2 : Option Addr) (n2 c2 : Nat) (zs2 : List Int) (S2 : SlView w A2 n2 c2 (zs2.map (Value.int .u8))) (hl2 : zs2.length = n2) (hz2 : ∀ z ∈ zs2, (Lit.int .u8 z).wf = true) (hc2 : c2 ≤ 140737488351232) (six2 : Bool) (bt2 : Int) (hbt2 : (Lit.int .u8 bt2).wf = true) (va2 : Int) (hva2 : (Lit.int .i64 va2).wf = true) :
    Calls Tryz.prog 8 #[.agg #[.int .u8 op1, .int .u8 kd1, .slice A1 n1 c1, .bool six1, .int .u8 bt1, .int .i64 va1], .agg #[.int .u8 op2, .int .u8 kd2, .slice A2 n2 c2, .bool six2, .int .u8 bt2, .int .i64 va2]] w fun e w' => e = .returned (.bool true) ∧ Below w.heap.size w w' := by
  obtain ⟨W1, hW1⟩ : ∃ W1, W1 = w.alloc (.cells #[.int .u8 op1, .int .u8 kd1, .slice A1 n1 c1, .bool six1, .int .u8 bt1, .int .i64 va1] 76) := ⟨_, rfl⟩
  obtain ⟨W0, hW0⟩ : ∃ W0, W0 = W1.alloc (.cells #[.int .u8 op2, .int .u8 kd2, .slice A2 n2 c2, .bool six2, .int .u8 bt2, .int .i64 va2] 76) := ⟨_, rfl⟩
  have e1 : W1.heap.size = w.heap.size + 1 := by rw [hW1]; simp
  have hq0 : Cs W0 w.heap.size [.int .u8 op1, .int .u8 kd1, .slice A1 n1 c1, .bool six1, .int .u8 bt1, .int .i64 va1] := by rw [hW0, hW1]; exact (Cs.new w _ _ _).alloc _
  have hr0 : Cs W0 (w.heap.size + 1) [.int .u8 op2, .int .u8 kd2, .slice A2 n2 c2, .bool six2, .int .u8 bt2, .int .i64 va2] := by rw [hW0]; exact (Cs.new W1 _ _ _).at_ _ e1
  have hb0 : Below w.heap.size w W0 := by
    rw [hW0, hW1]
    exact ((Below.refl w.heap.size w).alloc (Nat.le_refl _) _).alloc (by simp) _
  rw [hW1] at hW0
  have haw := awake17_any W0 (hL.below hb0 (Nat.le_refl _))
  have b1 := bounds_u8 hkd1
  have b2 := bounds_u8 hbt1
  have b3 := bounds_u8 hkd2
  have b4 := bounds_u8 hbt2
  obtain ⟨s, hs⟩ : ∃ s, s = trigD kd1 zs1 six1 bt1 := ⟨_, rfl⟩
  obtain ⟨t, ht⟩ : ∃ t, t = trigD kd2 zs2 six2 bt2 := ⟨_, rfl⟩
  obtain ⟨sk, hsk⟩ : ∃ x, x = s.kind := ⟨_, rfl⟩
  obtain ⟨sn, hsn⟩ : ∃ x, x = baL s.name := ⟨_, rfl⟩
  obtain ⟨sa, hsa⟩ : ∃ x, x = baL s.addr := ⟨_, rfl⟩
  obtain ⟨sx, hsx⟩ : ∃ x, x = s.bits := ⟨_, rfl⟩
  obtain ⟨tk, htk⟩ : ∃ x, x = t.kind := ⟨_, rfl⟩
  obtain ⟨tn, htn⟩ : ∃ x, x = baL t.name := ⟨_, rfl⟩
  obtain ⟨ta, hta⟩ : ∃ x, x = baL t.addr := ⟨_, rfl⟩
  obtain ⟨tx, htx⟩ : ∃ x, x = t.bits := ⟨_, rfl⟩
  have hs1 : toT sk sn sa sx = s := by rw [hsk, hsn, hsa, hsx]; exact (toT_surj s).symm
  have ht1 : toT tk tn ta tx = t := by rw [htk, htn, hta, htx]; exact (toT_surj t).symm
  have htr1 : ∀ wx, Below w.heap.size w wx → Calls Tryz.prog 26 #[.agg #[.int .u8 op1, .int .u8 kd1, .slice A1 n1 c1, .bool six1, .int .u8 bt1, .int .i64 va1]] wx fun e w' => e = .returned (.agg #[.int .i64 sk, .string sn, .string sa, .int .i64 sx]) ∧ TrigOk kd1 s ∧ Below wx.heap.size wx w' := by
    intro wx hb
    have := acttrig_any op1 kd1 (by omega) A1 n1 c1 zs1 six1 bt1 (by omega) va1 wx ((S1.sl.below hb).more hb.size) (fun z h => by have := bounds_u8 (hz1 z h); omega) (by have := S1.le; omega)
    rw [← hs] at this
    unfold trigT at this
    rw [← hsk, ← hsn, ← hsa, ← hsx] at this
    exact this
  have htr2 : ∀ wx, Below w.heap.size w wx → Calls Tryz.prog 26 #[.agg #[.int .u8 op2, .int .u8 kd2, .slice A2 n2 c2, .bool six2, .int .u8 bt2, .int .i64 va2]] wx fun e w' => e = .returned (.agg #[.int .i64 tk, .string tn, .string ta, .int .i64 tx]) ∧ TrigOk kd2 t ∧ Below wx.heap.size wx w' := by
    intro wx hb
    have := acttrig_any op2 kd2 (by omega) A2 n2 c2 zs2 six2 bt2 (by omega) va2 wx ((S2.sl.below hb).more hb.size) (fun z h => by have := bounds_u8 (hz2 z h); omega) (by have := S2.le; omega)
    rw [← ht] at this
    unfold trigT at this
    rw [← htk, ← htn, ← hta, ← htx] at this
    exact this
  have hne := fun w => trig_neq sk tk sn tn sa ta sx tx w
  have heq := fun w => trig_eql sk tk sn tn sa ta sx tx w
  simp only [trigEq_iff, hs1, ht1] at hne heq
  have HAW := Lib.hid haw
  have HTR1 := Lib.hid htr1
  have HTR2 := Lib.hid htr2
  have HQ := Lib.hid (And.intro hne heq)
  have HS1 := Lib.hid hs1
  have HT1 := Lib.hid ht1
  have HSS := Lib.hid (And.intro hsn (And.intro hsa (And.intro htn hta)))
  have HB0 := Lib.hid hb0
  have HQ0 := Lib.hid hq0
  have HR0 := Lib.hid hr0
  have HW0 := Lib.hid hW0
  have HL := Lib.hid hL
  clear haw htr1 htr2 hne heq hs1 ht1 hb0 hq0 hr0 hW0 hW1 e1 hL hs ht hsk hsn hsa hsx htk htn hta htx S1 S2 hl1 hl2 hz1 hz2 hc1 hc2 hop1 hop2 hkd1 hkd2 hbt1 hbt2 hva1 hva2 b1 b2 b3 b4
  go_enter Tryz.func8, Tryz.ntmps8
  go_wp2_with (go_at_call 24; rw [← HW0.out]; refine HAW.out.mono ?_; rintro e w1 ⟨rfl, hb1⟩; refine Hid.out ?_)
  refine Lib.hid ?_
  have HB1 := Lib.hid (HB0.out.trans (hb1.mono HB0.out.size))
  have HQ1 := Lib.hid (HQ0.out.below hb1)
  have HR1 := Lib.hid (HR0.out.below hb1)
  have HL1 := Lib.hid (HL.out.below HB1.out (Nat.le_refl _))
  clear hb1 HB0 HQ0 HR0 HAW HW0 HL
  have hI2 : IXs w1 w1.heap.size w1.heap.size [w1.heap.size] emptyI 0 (w1.alloc (.cells #[.slice none 0 0, .int .i64 0, .int .i64 0, .map none] 129)) := IXs.start (Below.refl _ _) (Nat.le_refl _)
  obtain ⟨b, hb⟩ : ∃ b, b = w1.heap.size := ⟨_, rfl⟩
  have hof := index_of w1
  obtain ⟨W2, hW2⟩ : ∃ W2, W2 = w1.alloc (.cells #[.slice none 0 0, .int .i64 0, .int .i64 0, .map none] 129) := ⟨_, rfl⟩
  rw [← hW2, ← hb] at hof
  have HI2 : Hid (IXs w1 w1.heap.size b [b] emptyI 0 W2) := Lib.hid (by rw [hb, hW2]; exact hI2)
  have HOF := Lib.hid hof
  clear hI2 hof hW2 hb
  go_wp2_with (go_at_call 25; refine HOF.out.mono ?_; rintro e w2 ⟨rfl, rfl⟩; refine Hid.out ?_)
  refine Lib.hid ?_
  have HBW : Hid (∀ wx : World, Below w1.heap.size w1 wx → Below w.heap.size w wx) := Lib.hid (fun wx h => HB1.out.trans (h.mono HB1.out.size))
  have HQ2 := Lib.hid (HQ1.out.below HI2.out.bel)
  have HR2 := Lib.hid (HR1.out.below HI2.out.bel)
  clear HOF HQ1 HR1
  go_upto_region 4 with fail
  refine wp_region_tail ad_follows (fun x => by simp [putsF, Act.put]; rfl) (fun v => Below w2.heap.size w2 v)
    [isV (.agg #[.int .u8 op1, .int .u8 kd1, .slice A1 n1 c1, .bool six1, .int .u8 bt1, .int .i64 va1]), tW (.agg #[.int .i64 sk, .string sn, .string sa, .int .i64 sx]) (TrigOk kd1 s), isV (.agg #[.int .u8 op2, .int .u8 kd2, .slice A2 n2 c2, .bool six2, .int .u8 bt2, .int .i64 va2]), tW (.agg #[.int .i64 tk, .string tn, .string ta, .int .i64 tx]) (TrigOk kd2 t), boxI w2.heap.size [.int .i64 0, .string ⟨#[]⟩, .string ⟨#[]⟩, .int .i64 0], boxI w2.heap.size [.int .i64 0, .string ⟨#[]⟩, .string ⟨#[]⟩, .int .i64 0]]
    6 [4, 5] (by kernel_rfl) (by kernel_rfl) (by kernel_rfl) rfl (by kernel_rfl) (by kernel_rfl) ?_ (Below.refl _ _).drew ?_ ?_
  · repeat (first | exact trivial | refine ⟨by first | exact isV_stays _ | exact boxI_stays _ _ | exact tW_stays _ _, ?_⟩)
  · refine ⟨?_, ?_, ?_, ?_, ?_, ?_, skipped rfl, skipped rfl, trivial⟩
    all_goals
      intro _ xx wx hR hd
      refine ⟨fun _ => ?_, fun hX => by simp at hX⟩
      simp at hd ⊢
    · have lq0 := (HQ2.out.below hR).get 0 (.int .u8 op1)
      have lq1 := (HQ2.out.below hR).get 1 (.int .u8 kd1)
      have lq2 := (HQ2.out.below hR).get 2 (.slice A1 n1 c1)
      have lq3 := (HQ2.out.below hR).get 3 (.bool six1)
      have lq4 := (HQ2.out.below hR).get 4 (.int .u8 bt1)
      have lq5 := (HQ2.out.below hR).get 5 (.int .i64 va1)
      go_simp; exact nextL _ rfl rfl hR (Below.refl _ _)
    · go_simp
      go_at_call 26
      refine (HTR1.out wx (HBW.out _ (HI2.out.bel.trans (hR.mono HI2.out.bel.size)))).mono ?_
      rintro e wy ⟨rfl, hok, hby⟩
      exact nextL _ rfl ⟨rfl, hok⟩ (hR.trans (hby.mono hR.size)) hby
    · have lq0 := (HR2.out.below hR).get 0 (.int .u8 op2)
      have lq1 := (HR2.out.below hR).get 1 (.int .u8 kd2)
      have lq2 := (HR2.out.below hR).get 2 (.slice A2 n2 c2)
      have lq3 := (HR2.out.below hR).get 3 (.bool six2)
      have lq4 := (HR2.out.below hR).get 4 (.int .u8 bt2)
      have lq5 := (HR2.out.below hR).get 5 (.int .i64 va2)
      go_simp; exact nextL _ rfl rfl hR (Below.refl _ _)
    · go_simp
      go_at_call 26
      refine (HTR2.out wx (HBW.out _ (HI2.out.bel.trans (hR.mono HI2.out.bel.size)))).mono ?_
      rintro e wy ⟨rfl, hok, hby⟩
      exact nextL _ rfl ⟨rfl, hok⟩ (hR.trans (hby.mono hR.size)) hby
    · go_simp; exact nextL_new _ rfl ⟨_, rfl, hR.size, Cs.new _ _ _ _⟩ (hR.alloc hR.size _)
    · go_simp; exact nextL_new _ rfl ⟨_, rfl, hR.size, Cs.new _ _ _ _⟩ (hR.alloc hR.size _)
  intro X w5 hR5 hx hap
  obtain ⟨-, x1, -, x3, x4, x5, -⟩ := hx
  obtain ⟨x1, hoks⟩ : X 1 = .agg #[.int .i64 sk, .string sn, .string sa, .int .i64 sx] ∧ TrigOk kd1 s := x1
  obtain ⟨x3, hokt⟩ : X 3 = .agg #[.int .i64 tk, .string tn, .string ta, .int .i64 tx] ∧ TrigOk kd2 t := x3
  obtain ⟨g, x4, hgB, hcg⟩ : boxI w2.heap.size [.int .i64 0, .string ⟨#[]⟩, .string ⟨#[]⟩, .int .i64 0] (X 4) w5 := x4
  obtain ⟨h, x5, hhB, hch⟩ : boxI w2.heap.size [.int .i64 0, .string ⟨#[]⟩, .string ⟨#[]⟩, .int .i64 0] (X 5) w5 := x5
  have hgh : g ≠ h := by
    intro e
    have := hap 4 (by simp) 5 (by simp) (by decide)
    rw [x4, x5, e] at this
    exact this rfl
  change tailWp _ _ [_, _] _ _
  rw [adtail_cons, x1, x3, x4, x5]
  refine store4 _ 6 12 rfl rfl _ w5 g sk sx sn sa hcg rfl rfl ?_
  intro w6 hc6 hs6 hh6 hb6
  rw [adtail_cons]
  refine store4 _ 7 14 rfl rfl _ w6 h tk tx tn ta (hch.block (hh6 h (Ne.symm hgh)) (Nat.le_of_eq hs6.symm)) rfl rfl ?_
  intro w7 hd7 hs7 hh7 hb7
  rw [adtail_nil]
  have hbel7 : Below w2.heap.size w2 w7 := hb7 _ _ hhB (hb6 _ _ hgB hR5)
  have hlt := HI2.out.lt b (by simp)
  have HB7 : Hid (IXb w1 b emptyI 0 g h [.int .i64 sk, .string sn, .string sa, .int .i64 sx] [.int .i64 tk, .string tn, .string ta, .int .i64 tx] w7) := Lib.hid ⟨[b], HI2.out.below hbel7, ⟨hc6.block (hh7 g hgh) (Nat.le_of_eq hs7.symm), by simp; omega⟩, hd7, by simp; omega⟩
  obtain ⟨y, hy⟩ : ∃ y, encR s = some y := ⟨_, hoks.good.enc⟩
  obtain ⟨z, hz⟩ : ∃ z, encR t = some z := ⟨_, hokt.good.enc⟩
  obtain ⟨p1, p2, p3, p4, p5, p6⟩ := apart_words hy hz 1 2
  have hsz1 : sn.size ≤ 140737488355328 ∧ sa.size ≤ 140737488355328 := by
    have := hoks.small
    rw [HSS.out.1, HSS.out.2.1, baL_sz, baL_sz]
    omega
  have hsz2 : tn.size ≤ 140737488355328 ∧ ta.size ≤ 140737488355328 := by
    have := hokt.small
    rw [HSS.out.2.2.1, HSS.out.2.2.2, baL_sz, baL_sz]
    omega
  obtain ⟨q, hq⟩ : ∃ q, q = decide (s = t) := ⟨_, rfl⟩
  obtain ⟨S1, hS1⟩ : ∃ S1, S1 = putI emptyI s 1 := ⟨_, rfl⟩
  obtain ⟨S2, hS2⟩ : ∃ S2, S2 = putI S1 t 2 := ⟨_, rfl⟩
  rw [← hS1] at p2 p3 p4 p5 p6
  rw [← hS2] at p3 p4 p5 p6
  rw [← hq] at p2
  have hl : ∀ wx S m, IXb w1 b S m g h [.int .i64 sk, .string sn, .string sa, .int .i64 sx] [.int .i64 tk, .string tn, .string ta, .int .i64 tx] wx → LaidT wx := fun wx S m ⟨own, k, _⟩ => HL1.out.below k.bel (Nat.le_refl _)
  have hp1 : ∀ wx, IXb w1 b emptyI 0 g h [.int .i64 sk, .string sn, .string sa, .int .i64 sx] [.int .i64 tk, .string tn, .string ta, .int .i64 tx] wx → Calls Tryz.prog 28 #[.pointer (some ⟨b, 0, none⟩), .agg #[.int .i64 sk, .string sn, .string sa, .int .i64 sx], .int .i64 1] wx fun e w' => e = .returned (.bool true) ∧ IXb w1 b S1 1 g h [.int .i64 sk, .string sn, .string sa, .int .i64 sx] [.int .i64 tk, .string tn, .string ta, .int .i64 tx] w' := by
    intro wx hk
    have hlx := hl _ _ _ hk
    obtain ⟨own, k1, k2, k3⟩ := hk
    refine (put_index k1 (by omega) sk sn sa sx 1 hsz1.1 hsz1.2 hlx).mono ?_
    rintro e w' ⟨rfl, hn⟩
    rw [HS1.out, p1]
    rw [HS1.out, ← hS1] at hn
    exact ⟨rfl, IXb.next hn k2 k3⟩
  have hp2 : ∀ wx, IXb w1 b S1 1 g h [.int .i64 sk, .string sn, .string sa, .int .i64 sx] [.int .i64 tk, .string tn, .string ta, .int .i64 tx] wx → Calls Tryz.prog 28 #[.pointer (some ⟨b, 0, none⟩), .agg #[.int .i64 tk, .string tn, .string ta, .int .i64 tx], .int .i64 2] wx fun e w' => e = .returned (.bool (!q)) ∧ IXb w1 b S2 2 g h [.int .i64 sk, .string sn, .string sa, .int .i64 sx] [.int .i64 tk, .string tn, .string ta, .int .i64 tx] w' := by
    intro wx hk
    have hlx := hl _ _ _ hk
    obtain ⟨own, k1, k2, k3⟩ := hk
    refine (put_index k1 (by omega) tk tn ta tx 2 hsz2.1 hsz2.2 hlx).mono ?_
    rintro e w' ⟨rfl, hn⟩
    rw [HT1.out, p2]
    rw [HT1.out, ← hS2] at hn
    exact ⟨rfl, IXb.next hn k2 k3⟩
  have hds : ∀ wx S, IXb w1 b S 2 g h [.int .i64 sk, .string sn, .string sa, .int .i64 sx] [.int .i64 tk, .string tn, .string ta, .int .i64 tx] wx → Calls Tryz.prog 27 #[.pointer (some ⟨b, 0, none⟩), .agg #[.int .i64 sk, .string sn, .string sa, .int .i64 sx]] wx fun e w' => e = .returned (.bool (S.val s).isSome) ∧ ((S.val s).isSome = true → (S.del s).len + 1 = S.len) ∧ IXb w1 b (S.del s) 2 g h [.int .i64 sk, .string sn, .string sa, .int .i64 sx] [.int .i64 tk, .string tn, .string ta, .int .i64 tx] w' := by
    intro wx S hk
    have hlx := hl _ _ _ hk
    obtain ⟨own, k1, k2, k3⟩ := hk
    refine (del_index k1 (by omega) sk sn sa sx hsz1.1 hsz1.2 hlx).mono ?_
    rintro e w' ⟨rfl, hn⟩
    rw [HS1.out, delB_some hy]
    rw [HS1.out, delI_some hy] at hn
    exact ⟨rfl, fun hv => k1.del_len hv, IXb.next hn k2 k3⟩
  have hdt : ∀ wx S, IXb w1 b S 2 g h [.int .i64 sk, .string sn, .string sa, .int .i64 sx] [.int .i64 tk, .string tn, .string ta, .int .i64 tx] wx → Calls Tryz.prog 27 #[.pointer (some ⟨b, 0, none⟩), .agg #[.int .i64 tk, .string tn, .string ta, .int .i64 tx]] wx fun e w' => e = .returned (.bool (S.val t).isSome) ∧ IXb w1 b (S.del t) 2 g h [.int .i64 sk, .string sn, .string sa, .int .i64 sx] [.int .i64 tk, .string tn, .string ta, .int .i64 tx] w' := by
    intro wx S hk
    have hlx := hl _ _ _ hk
    obtain ⟨own, k1, k2, k3⟩ := hk
    refine (del_index k1 (by omega) tk tn ta tx hsz2.1 hsz2.2 hlx).mono ?_
    rintro e w' ⟨rfl, hn⟩
    rw [HT1.out, delB_some hz]
    rw [HT1.out, delI_some hz] at hn
    exact ⟨rfl, IXb.next hn k2 k3⟩
  have hln : ∀ wx S, IXb w1 b S 2 g h [.int .i64 sk, .string sn, .string sa, .int .i64 sx] [.int .i64 tk, .string tn, .string ta, .int .i64 tx] wx → Calls Tryz.prog 29 #[.pointer (some ⟨b, 0, none⟩)] wx fun e w' => e = .returned (.int .i64 (S.len : Nat)) ∧ Below wx.heap.size wx w' := by
    intro wx S ⟨own, k1, _⟩
    exact len_index k1 (by omega)
  have hv3 : s ≠ t → (S2.del s).val s = none ∧ ((S2.del s).del s).val t = some 2 := fun hst => by
    have o3 := IxS.del_ok p6 hy
    refine ⟨by rw [IxS.val_del p6 hy hy, if_pos rfl], ?_⟩
    rw [IxS.val_del o3 hy hz, if_neg (fun e => hst e.symm), IxS.val_del p6 hy hz, if_neg (fun e => hst e.symm), p4]
  have HP1 := Lib.hid hp1
  have HP2 := Lib.hid hp2
  have HDS := Lib.hid hds
  have HDT := Lib.hid hdt
  have HLN := Lib.hid hln
  have HV3 := Lib.hid hv3
  have HV := Lib.hid (And.intro p3 p5)
  have HQQ := Lib.hid hq
  have hne := HQ.out.1
  have heq := HQ.out.2
  rw [← hq] at hne heq
  have HNE := Lib.hid hne
  have HEQ := Lib.hid heq
  clear hp1 hp2 hds hdt hln hv3 p1 p2 p3 p4 p5 p6 hl hq hS1 hS2 hne heq hy hz hsz1 hsz2 hoks hokt hbel7 hlt hd7 hs7 hh7 hb7 hc6 hs6 hh6 hb6 hgh hcg hch hgB hhB x1 x3 x4 x5 hap hR5 HI2 HQ2 HR2 HTR1 HTR2 HQ HSS
  go_upto_region 5 with fail
  refine wp_region_expR ad_follows (fun x => by simp [putsF, Act.put]; rfl) (Seq2 2 7 (IXb w1 b emptyI 0 g h [.int .i64 sk, .string sn, .string sa, .int .i64 sx] [.int .i64 tk, .string tn, .string ta, .int .i64 tx]) (IXb w1 b S1 1 g h [.int .i64 sk, .string sn, .string sa, .int .i64 sx] [.int .i64 tk, .string tn, .string ta, .int .i64 tx]) (IXb w1 b S2 2 g h [.int .i64 sk, .string sn, .string sa, .int .i64 sx] [.int .i64 tk, .string tn, .string ta, .int .i64 tx]))
    [isX (.pointer (some ⟨b, 0, none⟩)), isX (.agg #[.int .i64 sk, .string sn, .string sa, .int .i64 sx]), isX (.bool true), isX (.bool false), isX (.bool false), isX (.pointer (some ⟨b, 0, none⟩)), isX (.agg #[.int .i64 tk, .string tn, .string ta, .int .i64 tx]), isX (.bool (!q)), isX (.agg #[.int .i64 sk, .string sn, .string sa, .int .i64 sx]), isX (.agg #[.int .i64 tk, .string tn, .string ta, .int .i64 tx]), isX (.bool (!q)), isX (.bool false), isX (.bool false)]
    [2, 7] (by kernel_rfl) (by kernel_rfl) (by kernel_rfl) rfl ?_ ?_ ?_ ?_ ?_
  · repeat (first | exact trivial | refine ⟨isX_stays _, ?_⟩)
  · exact Seq2.start (HB7.out.below (Below.refl _ _).drew)
  · refine ⟨?_, ?_, skipped rfl, ?_, ?_, ?_, ?_, skipped rfl, ?_, ?_, ?_, ?_, ?_, trivial⟩
    all_goals
      intro _ d X wx hR hdi hsrc hd
      simp [wordX, isX] at hd
      refine ⟨fun _ => ?_, fun hX => by first | (simp at hX; done) | (simp [hd] at hX; done)⟩
      obtain ⟨hcs, hct⟩ := hR.has (C := fun v => Cs v g [.int .i64 sk, .string sn, .string sa, .int .i64 sx] ∧ Cs v h [.int .i64 tk, .string tn, .string ta, .int .i64 tx]) (fun ⟨_, _, k, k', _⟩ => ⟨k.1, k'⟩) (fun ⟨_, _, k, k', _⟩ => ⟨k.1, k'⟩) (fun ⟨_, _, k, k', _⟩ => ⟨k.1, k'⟩)
      try simp [hd]
    · go_simp
      exact nextXR _ rfl rfl (hR.plain (by decide) (by decide)) (Below.refl _ _)
    · have y0 := hcs.get 0 (.int .i64 sk)
      have y1 := hcs.get 1 (.string sn)
      have y2 := hcs.get 2 (.string sa)
      have y3 := hcs.get 3 (.int .i64 sx)
      go_simp
      exact nextXR _ rfl rfl (hR.plain (by decide) (by decide)) (Below.refl _ _)
    · go_simp
      exact nextXR _ rfl rfl (hR.plain (by decide) (by decide)) (Below.refl _ _)
    · go_simp
      exact nextXR _ rfl rfl (hR.plain (by decide) (by decide)) (Below.refl _ _)
    · go_simp
      exact nextXR _ rfl rfl (hR.plain (by decide) (by decide)) (Below.refl _ _)
    · have y0 := hct.get 0 (.int .i64 tk)
      have y1 := hct.get 1 (.string tn)
      have y2 := hct.get 2 (.string ta)
      have y3 := hct.get 3 (.int .i64 tx)
      go_simp
      exact nextXR _ rfl rfl (hR.plain (by decide) (by decide)) (Below.refl _ _)
    · have y0 := hcs.get 0 (.int .i64 sk)
      have y1 := hcs.get 1 (.string sn)
      have y2 := hcs.get 2 (.string sa)
      have y3 := hcs.get 3 (.int .i64 sx)
      go_simp
      exact nextXR _ rfl rfl (hR.plain (by decide) (by decide)) (Below.refl _ _)
    · have y0 := hct.get 0 (.int .i64 tk)
      have y1 := hct.get 1 (.string tn)
      have y2 := hct.get 2 (.string ta)
      have y3 := hct.get 3 (.int .i64 tx)
      go_simp
      exact nextXR _ rfl rfl (hR.plain (by decide) (by decide)) (Below.refl _ _)
    · have hne := HNE.out
      go_simp
      exact nextXR _ rfl rfl (hR.plain (by decide) (by decide)) (Below.refl _ _)
    · go_simp
      exact nextXR _ rfl rfl (hR.plain (by decide) (by decide)) (Below.refl _ _)
    · go_simp
      exact nextXR _ rfl rfl (hR.plain (by decide) (by decide)) (Below.refl _ _)
  · refine ⟨unskip' rfl, unskip' rfl, ?_, unskip' rfl, unskip' rfl, unskip' rfl, unskip' rfl, ?_, unskip' rfl, unskip' rfl, unskip' rfl, unskip' rfl, unskip' rfl, trivial⟩
    · intro _ d X wx hR hdi hcl hsrc hd
      refine ⟨fun _ => ?_, fun hX => by simp at hX⟩
      simp only [DoneX, isX] at hd
      obtain ⟨h0, h1, -⟩ := hd
      have h0 := h0 (hsrc ⟨0, .data⟩ (by simp) rfl)
      have h1 := h1 (hsrc ⟨1, .data⟩ (by simp) rfl)
      simp only [show (0 + 1 : Nat) = 1 from rfl] at h1
      have hI := (hR.at1 hdi).2
      dsimp only
      rw [h0, h1]
      go_simp
      go_at_call 28
      refine (HP1.out _ hI).mono ?_
      rintro e wy ⟨rfl, hpy⟩
      exact nextKR _ rfl rfl (hR.call1 hdi (by decide) hpy) (keep_isX _ _ _ _ _ [_, _, _, _, _, _, _, _, _, _, _, _, _] 0)
    · intro _ d X wx hR hdi hcl hsrc hd
      have hall : ∀ i, i < 7 → d i = true := fun i hi => by
        refine SrcX.reach (K := 7) hcl hsrc rfl 12 i (by omega) ?_
        revert i
        decide +kernel
      simp only [DoneX, isX] at hd
      obtain ⟨-, -, -, -, h4, h5, h6, -⟩ := hd
      have h4 := h4 (hall 4 (by decide))
      have h5 := h5 (hall 5 (by decide))
      have h6 := h6 (hall 6 (by decide))
      simp only [show (0 + 1 + 1 + 1 + 1 : Nat) = 4 from rfl, show (0 + 1 + 1 + 1 + 1 + 1 : Nat) = 5 from rfl, show (0 + 1 + 1 + 1 + 1 + 1 + 1 : Nat) = 6 from rfl] at h4 h5 h6
      refine ⟨fun _ => ?_, fun hX => by simp [h4] at hX⟩
      have hI := hR.at2 hdi (hall 2 (by decide))
      dsimp only
      rw [h5, h6]
      go_simp
      go_at_call 28
      refine (HP2.out _ hI).mono ?_
      rintro e wy ⟨rfl, hpy⟩
      exact nextKR _ rfl rfl (Seq2.call2 (hall 2 (by decide)) hpy) (keep_isX _ _ _ _ _ [_, _, _, _, _, _, _, _, _, _, _, _, _] 0)
  intro X w8 d hall hR hx
  have HB8 := Lib.hid (hR.fin (hall 7 (by decide)))
  obtain ⟨-, -, -, -, -, -, -, -, -, -, -, -, x12, -⟩ := hx
  have x12 : X 12 = .bool false := x12
  rw [x12]
  clear x12 hR hall HB7 HP1 HP2 HNE
  have hcc := HB8.out
  obtain ⟨own, k0, ⟨k1, -⟩, k2, -⟩ := hcc
  have y0 := k1.get 0 (.int .i64 sk)
  have y1 := k1.get 1 (.string sn)
  have y2 := k1.get 2 (.string sa)
  have y3 := k1.get 3 (.int .i64 sx)
  have z0 := k2.get 0 (.int .i64 tk)
  have z1 := k2.get 1 (.string tn)
  have z2 := k2.get 2 (.string ta)
  have z3 := k2.get 3 (.int .i64 tx)
  have heq := HEQ.out
  clear k0 k1 k2
  obtain ⟨hv1, hv5⟩ := HV.out
  cases q with
  | true =>
    have hst : s = t := of_decide_eq_true HQQ.out.symm
    rw [if_pos hst] at hv1 hv5
    have hl8 := HLN.out _ _ HB8.out
    rw [hv5] at hl8
    have HL8 := Lib.hid hl8
    have HD8 := Lib.hid hv1
    have HV5 := Lib.hid hv5
    clear hl8 hv1 hv5 hst
    go_wp2_with (go_at_call 29; refine HL8.out.mono ?_; rintro e w9 ⟨rfl, hb9⟩; refine Hid.out ?_)
    refine Lib.hid ?_
    have HB9 := Lib.hid (HB8.out.below hb9)
    clear hb9 HL8 HB8 y0 y1 y2 y3 z0 z1 z2 z3 heq
    obtain ⟨ownHB9, -, ⟨k1, -⟩, k2, -⟩ := HB9.out
    have y0 := k1.get 0 (.int .i64 sk)
    have y1 := k1.get 1 (.string sn)
    have y2 := k1.get 2 (.string sa)
    have y3 := k1.get 3 (.int .i64 sx)
    clear k1 k2
    have hd9 := HDS.out _ _ HB9.out
    rw [HD8.out] at hd9
    have HD9 := Lib.hid hd9
    clear hd9
    go_wp2_with (go_at_call 27; refine HD9.out.mono ?_; rintro e wa ⟨rfl, hle, hba⟩; refine Hid.out ?_)
    refine Lib.hid ?_
    have hle := hle rfl
    rw [HV5.out] at hle
    have hz0 : (S2.del s).len = 0 := by omega
    have hla := HLN.out _ _ hba
    rw [hz0] at hla
    have HLA := Lib.hid hla
    have HBA := Lib.hid hba
    clear hla hz0 hle hba HD9 HB9 y0 y1 y2 y3
    go_wp2_with (go_at_call 29; refine HLA.out.mono ?_; rintro e wb ⟨rfl, hbb⟩; refine Hid.out ?_)
    refine Lib.hid ?_
    have hkb := HBA.out.below hbb
    obtain ⟨ownb, kb, -⟩ := hkb
    have HBF := Lib.hid (HBW.out _ kb.bel)
    clear kb hbb HLA HBA
    go_wp2_with fail
    go_ret
    exact ⟨rfl, HBF.out⟩
  | false =>
    have hst : s ≠ t := of_decide_eq_false HQQ.out.symm
    rw [if_neg hst] at hv1 hv5
    obtain ⟨hn3, ht4⟩ := HV3.out hst
    have hl8 := HLN.out _ _ HB8.out
    rw [hv5] at hl8
    have HL8 := Lib.hid hl8
    have HD8 := Lib.hid hv1
    have HV5 := Lib.hid hv5
    have HN3 := Lib.hid hn3
    have HT4 := Lib.hid ht4
    clear hl8 hv1 hv5 hst hn3 ht4
    go_wp2_with (go_at_call 29; refine HL8.out.mono ?_; rintro e w9 ⟨rfl, hb9⟩; refine Hid.out ?_)
    refine Lib.hid ?_
    have HB9 := Lib.hid (HB8.out.below hb9)
    clear hb9 HL8 HB8 y0 y1 y2 y3 z0 z1 z2 z3 heq
    obtain ⟨ownHB9, -, ⟨k1, -⟩, k2, -⟩ := HB9.out
    have y0 := k1.get 0 (.int .i64 sk)
    have y1 := k1.get 1 (.string sn)
    have y2 := k1.get 2 (.string sa)
    have y3 := k1.get 3 (.int .i64 sx)
    clear k1 k2
    have hd9 := HDS.out _ _ HB9.out
    rw [HD8.out] at hd9
    have HD9 := Lib.hid hd9
    clear hd9
    go_wp2_with (go_at_call 27; refine HD9.out.mono ?_; rintro e wa ⟨rfl, hle, hba⟩; refine Hid.out ?_)
    refine Lib.hid ?_
    have hle := hle rfl
    rw [HV5.out] at hle
    have HZ1 : Hid ((S2.del s).len = 1) := Lib.hid (by omega)
    have HBA := Lib.hid hba
    clear hle hba HD9 HB9 y0 y1 y2 y3
    obtain ⟨ownHBA, -, ⟨k1, -⟩, k2, -⟩ := HBA.out
    have y0 := k1.get 0 (.int .i64 sk)
    have y1 := k1.get 1 (.string sn)
    have y2 := k1.get 2 (.string sa)
    have y3 := k1.get 3 (.int .i64 sx)
    clear k1 k2
    have hda := HDS.out _ _ HBA.out
    rw [HN3.out] at hda
    have HDA := Lib.hid hda
    clear hda
    go_wp2_with (go_at_call 27; refine HDA.out.mono ?_; rintro e wb ⟨rfl, -, hbb⟩; refine Hid.out ?_)
    refine Lib.hid ?_
    have hlb := HLN.out _ _ hbb
    rw [IxS.del_none_len HN3.out, HZ1.out] at hlb
    have HLB := Lib.hid hlb
    have HBB := Lib.hid hbb
    clear hlb hbb HDA HBA y0 y1 y2 y3
    go_wp2_with (go_at_call 29; refine HLB.out.mono ?_; rintro e wc ⟨rfl, hbc⟩; refine Hid.out ?_)
    refine Lib.hid ?_
    have HBC := Lib.hid (HBB.out.below hbc)
    clear hbc HLB HBB
    obtain ⟨ownHBC, -, ⟨k1, -⟩, k2, -⟩ := HBC.out
    have y0 := k2.get 0 (.int .i64 tk)
    have y1 := k2.get 1 (.string tn)
    have y2 := k2.get 2 (.string ta)
    have y3 := k2.get 3 (.int .i64 tx)
    clear k1 k2
    have hdc := HDT.out _ _ HBC.out
    rw [HT4.out] at hdc
    have HDC := Lib.hid hdc
    clear hdc
    go_wp2_with (go_at_call 27; refine HDC.out.mono ?_; rintro e we ⟨rfl, hbe⟩; refine Hid.out ?_)
    refine Lib.hid ?_
    obtain ⟨owne, ke, -⟩ := hbe
    have HBF := Lib.hid (HBW.out _ ke.bel)
    clear ke HDC HBC y0 y1 y2 y3
    go_wp2_with fail
    go_ret
    exact ⟨rfl, HBF.out⟩
end Go.Proofs.YtkdknfedieeenaaGreatDoor
