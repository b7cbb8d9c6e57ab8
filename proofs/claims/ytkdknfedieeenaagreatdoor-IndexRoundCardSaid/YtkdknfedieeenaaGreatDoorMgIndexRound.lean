/- Texts that walks stand on, one behind the other. -/
import Derived.Test.YtkdknfedieeenaaGreatDoorMgSE
import Derived.Test.YtkdknfedieeenaaGreatDoorMgSD
import Derived.Test.YtkdknfedieeenaaGreatDoorViewX
import Derived.Test.YtkdknfedieeenaaGreatDoorMgSC
namespace Go.Proofs.YtkdknfedieeenaaGreatDoor
open Go.RowKit
set_option linter.unusedVariables false
set_option linter.unusedSimpArgs false
set_option maxRecDepth 20000
abbrev m5 : ByteArray → Option Int := upd (fun _ => none) (wordT 2 ⟨#[]⟩) (some 5)
theorem m5_other {k : Int} {n : ByteArray} (hk : 0 ≤ k ∧ k < 256) (h : k ≠ 2 ∨ n ≠ ⟨#[]⟩) : m5 (wordT k n) = none := by
  unfold m5
  rw [upd_other]
  intro e
  obtain ⟨e1, e2⟩ := wordT_inj hk (by omega) e
  rcases h with h | h
  · exact h e1
  · exact h e2
theorem wild_root : ∀ (ls : List (List UInt8)) (f : Nat), OkLs ls → (wire ls).length + 1 ≤ f → wildO m5 2 f (some (wire ls)) = some (5, [])
  | [], 0, _, h => by omega
  | [], f + 1, _, _ => by
    unfold wildO
    have : m5 (wordT 2 (baL (wire []))) = some 5 := upd_same _ _ _
    rw [this]; rfl
  | l :: ls, 0, _, h => by omega
  | l :: ls, f + 1, hok, h => by
    have hl := hok.labels
    have hw : wire (l :: ls) ≠ [] := by simp [wire]
    unfold wildO
    rw [m5_other (by omega) (.inr (fun e => hw (by have := congrArg (fun b : ByteArray => b.data.toList) e; simpa [baL] using this)))]
    have hp : parentOf (baL (wire (l :: ls))) = some (wire ls) := by
      have hlb : labelsOf (baL (wire (l :: ls))) = some (l :: ls) := hl
      unfold parentOf
      rw [hlb]
    rw [hp]
    refine wild_root ls f hok.tail ?_
    have : (wire ls).length < (wire (l :: ls)).length := by simp [wire]; omega
    omega
theorem name_root {X : List (List UInt8)} (hX : OkLs X) (hne : X ≠ []) : nameV m5 1 2 (baL (wire X)) = (5, 2, ⟨#[]⟩, true) := by
  unfold nameV
  rw [m5_other (by omega) (.inl (by omega))]
  obtain ⟨l, ls, rfl⟩ : ∃ l ls, X = l :: ls := by
    cases X with
    | nil => exact absurd rfl hne
    | cons l ls => exact ⟨l, ls, rfl⟩
  have hp : parentOf (baL (wire (l :: ls))) = some (wire ls) := by
    have hlb : labelsOf (baL (wire (l :: ls))) = some (l :: ls) := hX.labels
    unfold parentOf
    rw [hlb]
  rw [hp]
  have hw := wild_root ls ((baL (wire (l :: ls))).size + 1) hX.tail (by
    rw [baL_sz]
    have : (wire ls).length ≤ (wire (l :: ls)).length := by simp [wire]; omega
    omega)
  rw [hw]; rfl
theorem name_none : nameV m5 1 2 ⟨#[]⟩ = (0, 0, ⟨#[]⟩, false) := by decide +kernel
theorem enc_root : ∃ z, encR (toT 2 ⟨#[]⟩ ⟨#[]⟩ 0) = some z := by
  have h := (good_name (k := 2) (X := []) ⟨by simp, by decide⟩ (.inr (.inl rfl)) (by intro h; omega)).enc
  exact ⟨_, h⟩
theorem enc_pfx0 {a : List UInt8} (h : isAddr a.length = true) : ∃ z, encR (toT 3 ⟨#[]⟩ (baL (cutL a 0)) 0) = some z := by
  have hm : mayP (cutL a 0) 0 = true := by
    unfold mayP
    rw [Bool.and_eq_true]
    refine ⟨?_, ?_⟩
    · unfold isCut
      rw [cutL_length, h]
      simp
      omega
    · show (cutL (cutL a 0) 0 == cutL a 0) = true
      rw [cutL_cutL a 0 (by omega)]; simp
  exact ⟨_, (good_pfx hm (.inr (.inl rfl))).enc⟩
noncomputable def s5 : IxS := putI emptyI (toT 2 ⟨#[]⟩ ⟨#[]⟩ 0) 5
noncomputable def s6 (a : List UInt8) : IxS := putI s5 (toT 3 ⟨#[]⟩ (baL (cutL a 0)) 0) 6
theorem s5_is : s5 = { emptyI with M := m5, lv := 1 } := by
  obtain ⟨z, h⟩ := enc_root
  unfold s5
  rw [putI_nam h rfl]; rfl
theorem put5 : putB emptyI (toT 2 ⟨#[]⟩ ⟨#[]⟩ 0) = true := by
  obtain ⟨z, h⟩ := enc_root
  rw [putB_nam h rfl]; rfl
theorem pfx0_not {a : List UInt8} (h : isAddr a.length = true) : namB (toT 3 ⟨#[]⟩ (baL (cutL a 0)) 0) = false := by
  rw [Bool.eq_false_iff]
  intro e
  have h1 := ((namB_iff _).1 e).1
  have h2 : (cutL a 0).length = 0 := by
    have := congrArg List.length h1
    simpa [toT, baL] using this
  rw [cutL_length] at h2
  have := isAddr_pos h
  omega
theorem key0 (a : List UInt8) : keyP (toT 3 ⟨#[]⟩ (baL (cutL a 0)) 0) = [] := by unfold keyP toT; simp [signs]
theorem fam0 (a : List UInt8) : famP (toT 3 ⟨#[]⟩ (baL (cutL a 0)) 0) = (3, (a.length : Int)) := by
  have : (baL (cutL a 0)).data.toList.length = a.length := by rw [show (baL (cutL a 0)).data.toList = cutL a 0 from rfl, cutL_length]
  unfold famP toT
  rw [this]
theorem put6 {a : List UInt8} (h : isAddr a.length = true) : putB s5 (toT 3 ⟨#[]⟩ (baL (cutL a 0)) 0) = true := by
  obtain ⟨z, he⟩ := enc_pfx0 h
  rw [putB_some he]
  unfold IxS.val
  rw [pfx0_not h, if_neg (by simp), s5_is]
  show (getR (emptyI.G (famP (toT 3 ⟨#[]⟩ (baL (cutL a 0)) 0))) (keyP (toT 3 ⟨#[]⟩ (baL (cutL a 0)) 0))).isNone = true
  rw [emptyI_get]; rfl
theorem s6_is {a : List UInt8} (h : isAddr a.length = true) : (s6 a).M = m5 ∧ (s6 a).G = fun f => if f = (3, (a.length : Int)) then leafR [] 6 else .nil := by
  obtain ⟨z, he⟩ := enc_pfx0 h
  unfold s6
  rw [putI_some he]
  unfold IxS.put
  rw [pfx0_not h, if_neg (by simp), s5_is, key0, fam0]
  exact ⟨rfl, rfl⟩
theorem addr_zero {a : List UInt8} (h : isAddr a.length = true) : adrV (s6 a).G 3 (baL a) = (6, 3, baL (cutL a 0), 0, true) := by
  have hs : (baL a).size = a.length := baL_sz a
  unfold adrV
  rw [(s6_is h).2, hs]
  simp only [if_true]
  have : longR (leafR [] 6) (signs (bitsL (baL a).data.toList)) none = some (0, 6) := by
    unfold leafR longR
    simp only [List.nil_prefix, if_true]
    split
    · rfl
    · rfl
  rw [this]
  rfl
theorem addr_other {a b : List UInt8} (h : isAddr a.length = true) (hb : b.length ≠ a.length) : adrV (s6 a).G 3 (baL b) = (0, 0, ⟨#[]⟩, 0, false) := by
  have hs : (baL b).size = b.length := baL_sz b
  unfold adrV
  rw [(s6_is h).2, hs]
  simp only
  rw [if_neg (by intro e; simp only [Prod.mk.injEq] at e; omega)]
  rfl
/-- A box beside an index is kept. -/
theorem IXn.keep1 {W w w' : World} {B b most g : Nat} {own : List Nat} {S : IxS} {cs : List Value} (h : IXn W B b own S most w w') (hc : Cs w g cs) (hg : g ∉ own) : ∃ own', IXs W B b own' S most w' ∧ Cs w' g cs ∧ g ∉ own' := by
  obtain ⟨own', h1, h2, h3⟩ := h
  refine ⟨own', h1, h2.cs hc hg, fun e => ?_⟩
  rcases h3 g e with h4 | h4
  · exact hg h4
  · have := hc.lt; omega
end Go.Proofs.YtkdknfedieeenaaGreatDoor
namespace Go.Proofs.YtkdknfedieeenaaGreatDoor
open Go.RowKit
set_option linter.unusedVariables false
set_option linter.unusedSimpArgs false
set_option maxRecDepth 20000
def trigT (t : Trig) : Value := .agg #[.int .i64 t.kind, .string (baL t.name), .string (baL t.addr), .int .i64 t.bits]
set_option maxHeartbeats 8000000 in
theorem acttrig_any (op kd : Int) (hkd : 0 ≤ kd ∧ kd ≤ 255) (A : Option Addr) (n c : Nat) (zs : List Int) (six : Bool) (bt : Int) (hbt : 0 ≤ bt ∧ bt ≤ 255) (val : Int) (w : World) (hA : Sl w w.heap.size 1 A n (zs.map (Value.int .u8))) (hz : ∀ z ∈ zs, 0 ≤ z ∧ z < 256) (hn : n ≤ 140737488355328) :
    Calls Tryz.prog 26 #[.agg #[.int .u8 op, .int .u8 kd, .slice A n c, .bool six, .int .u8 bt, .int .i64 val]] w fun e w' => e = .returned (trigT (trigD kd zs six bt)) ∧ TrigOk kd (trigD kd zs six bt) ∧ Below w.heap.size w w' := by
  obtain ⟨W1, hW1⟩ : ∃ W1, W1 = w.alloc (.cells #[.int .u8 op, .int .u8 kd, .slice A n c, .bool six, .int .u8 bt, .int .i64 val] 76) := ⟨_, rfl⟩
  obtain ⟨W0, hW0⟩ : ∃ W0, W0 = W1.alloc (.cells #[.int .i64 0, .string ⟨#[]⟩, .string ⟨#[]⟩, .int .i64 0] 46) := ⟨_, rfl⟩
  have e1 : W1.heap.size = w.heap.size + 1 := by rw [hW1]; simp
  have hq0 : Cs W0 w.heap.size [.int .u8 op, .int .u8 kd, .slice A n c, .bool six, .int .u8 bt, .int .i64 val] := by rw [hW0, hW1]; exact (Cs.new w _ _ _).alloc _
  have hr0 : Cs W0 (w.heap.size + 1) [.int .i64 0, .string ⟨#[]⟩, .string ⟨#[]⟩, .int .i64 0] := by rw [hW0]; exact (Cs.new W1 _ _ _).at_ _ e1
  have hbel : Below w.heap.size w W0 := by
    rw [hW0, hW1]
    exact ((Below.refl w.heap.size w).alloc (Nat.le_refl _) _).alloc (by simp) _
  rw [hW1] at hW0
  have htr := trigD_any kd hkd A n c zs six bt hbt W0 ((hA.below hbel).more hbel.size) hz hn
  obtain ⟨T, hT⟩ : ∃ T, T = trigD kd zs six bt := ⟨_, rfl⟩
  rw [← hT] at htr ⊢
  have htr : Calls Tryz.prog 30 #[.int .u8 kd, .slice A n c, .bool six, .int .u8 bt] W0 fun e w' => e = .returned (.agg #[.int .i64 T.kind, .string (baL T.name), .string (baL T.addr), .int .i64 T.bits]) ∧ TrigOk kd T ∧ Below W0.heap.size W0 w' := by
    refine htr.mono ?_
    rintro e w' ⟨t, rfl, ht, hb⟩
    have h1 := ht.eq
    subst h1
    exact ⟨rfl, ht.ok, hb⟩
  unfold trigT
  generalize T.kind = tk at *
  obtain ⟨TN, hTN⟩ : ∃ TN, TN = baL T.name := ⟨_, rfl⟩
  obtain ⟨TA, hTA⟩ : ∃ TA, TA = baL T.addr := ⟨_, rfl⟩
  generalize T.bits = tb at *
  rw [← hTN, ← hTA] at htr ⊢
  have y1 := hq0.get 1 (.int .u8 kd)
  have y2 := hq0.get 2 (.slice A n c)
  have y3 := hq0.get 3 (.bool six)
  have y4 := hq0.get 4 (.int .u8 bt)
  have HTR := Lib.hid htr
  have HR0 := Lib.hid hr0
  have HBEL := Lib.hid hbel
  have HW0 := Lib.hid hW0
  clear htr hr0 hbel hq0 hA hz hn hW1 e1 hTN hTA hT hkd hbt hW0
  go_enter Tryz.func26, Tryz.ntmps26
  go_upto_region 1 with fail
  rw [← HW0.out]
  go_wp2_with (go_at_call 30; refine HTR.out.mono ?_; rintro e w2 ⟨rfl, hok, hb2⟩; refine Hid.out ?_)
  refine Lib.hid ?_
  have hr2 := HR0.out.below hb2
  have HB2 := Lib.hid (HBEL.out.trans (hb2.mono HBEL.out.size))
  have HOK := Lib.hid hok
  have HR2 := Lib.hid hr2
  have m0 := hr2.get 0 (.int .i64 0)
  have m1 := hr2.get 1 (.string ⟨#[]⟩)
  have m2 := hr2.get 2 (.string ⟨#[]⟩)
  have m3 := hr2.get 3 (.int .i64 0)
  have f0 := hr2.froz 0 (by simp)
  have f1 := hr2.froz 1 (by simp)
  have f2 := hr2.froz 2 (by simp)
  have f3 := hr2.froz 3 (by simp)
  have HFIN := Lib.hid (four_set hr2 (.int .i64 tk) (.string TN) (.string TA) (.int .i64 tb))
  have HBF := Lib.hid (four_below HB2.out (Nat.le_succ _) (.int .i64 tk) (.string TN) (.string TA) (.int .i64 tb))
  clear hr2 hb2 hok HTR HR0 HBEL HW0 HR2 y1 y2 y3 y4 HB2
  go_wp2_with fail
  refine bodyPost_ret (v := .agg #[.int .i64 tk, .string TN, .string TA, .int .i64 tb]) ?_ rfl ⟨rfl, HOK.out, HBF.out⟩
  have t0 := HFIN.out.get 0 (.int .i64 tk)
  have t1 := HFIN.out.get 1 (.string TN)
  have t2 := HFIN.out.get 2 (.string TA)
  have t3 := HFIN.out.get 3 (.int .i64 tb)
  clear HFIN HBF m0 m1 m2 m3 f0 f1 f2 f3
  simp [results, Tryz.results26, go_sem, t0, t1, t2, t3]
/-- Two triggers that have names, in words. -/
theorem apart_words {s t : Trig} {y z : List UInt8} (hs : encR s = some y) (ht : encR t = some z) (u v : Int) : putB emptyI s = true ∧ putB (putI emptyI s u) t = !(decide (s = t)) ∧
    ((putI (putI emptyI s u) t v).val s = some (if s = t then v else u)) ∧ (putI (putI emptyI s u) t v).val t = some v ∧ (putI (putI emptyI s u) t v).len = (if s = t then 1 else 2) ∧ (putI (putI emptyI s u) t v).Ok := by
  rw [putI_some hs, putI_some ht, putB_some hs, putB_some ht]
  have o1 := IxS.put_ok u emptyI_ok hs
  have o2 := IxS.put_ok v o1 ht
  have v1 : (emptyI.put s u).val s = some u := by rw [IxS.val_put u emptyI_ok hs hs, if_pos rfl]
  have v2 : (emptyI.put s u).val t = if t = s then some u else none := by rw [IxS.val_put u emptyI_ok hs ht, emptyI_val]
  have l1 : (emptyI.put s u).len = 1 := by rw [IxS.put_len, emptyI_val, if_neg (show ¬ (none : Option Int).isSome = true by simp)]; rfl
  refine ⟨by rw [emptyI_val]; rfl, ?_, ?_, by rw [IxS.val_put v o1 ht ht, if_pos rfl], ?_, o2⟩
  · rw [v2]
    by_cases e : s = t
    · rw [if_pos e.symm]; simp [e]
    · rw [if_neg (fun h => e h.symm)]; simp [e]
  · rw [IxS.val_put v o1 ht hs, v1]
    by_cases e : s = t
    · rw [if_pos e, if_pos e]
    · rw [if_neg e, if_neg e]
  · rw [IxS.put_len, v2, l1]
    by_cases e : s = t
    · subst e; simp
    · have e2 : ¬ t = s := fun h => e h.symm
      simp [e, e2]
end Go.Proofs.YtkdknfedieeenaaGreatDoor
namespace Go.Proofs.YtkdknfedieeenaaGreatDoor
open Go.RowKit
set_option linter.unusedVariables false
set_option linter.unusedSimpArgs false
set_option maxRecDepth 20000
attribute [local simp] putsF isV wordOf Deps Region.binds Region.wanted Act.put wantedX isB
theorem IXs.putNameC {W w : World} {B b most : Nat} {own : List Nat} {S : IxS} (h : IXs W B b own S most w) (hm : most ≤ 34359738368) {m' : Nat} (hm' : most ≤ m') (K : ByteArray) (v : Int) (hK : K.size ≤ maxLen) (hcap : (if (S.M K).isSome then S.lv else S.lv + 1) ≤ m') :
    Calls Tryz.prog 60 #[.pointer (some ⟨b, 0, none⟩), .string K, .int .i64 v] w fun e w' => e = .returned (.bool (S.M K).isNone) ∧ IXn W B b own { S with M := upd S.M K (some v), lv := if (S.M K).isSome then S.lv else S.lv + 1 } m' w w' := by
  obtain ⟨V, us, n, mv, F, h1, rfl, h2, h3, h4, h5⟩ := h
  refine (put_tab h1.tab (by omega) K v hK).mono ?_
  rintro e w' ⟨rfl, V', us', n', t1, _, t2, t3⟩
  have hlv := h1.tab.most_
  have hlt := h1.tab.lt
  obtain ⟨g1, g2⟩ := h1.table (most' := m') hm' (t1.more (by
    by_cases e : (S.M K).isSome = true
    · rw [if_pos e] at hcap ⊢; omega
    · rw [if_neg e] at hcap ⊢; omega)) t2 t3
  refine ⟨rfl, _, ⟨V', us', n', mv, F, g1, rfl, h2, h3, h4, ?_⟩, t2.mono (fun q _ e => by
    rcases e with rfl | e
    · exact IxOf.b_mem
    · exact IxOf.V_mem e), g2⟩
  exact h5
section
variable {W w w' w2 : World} {B b most mb a : Nat} {own : List Nat} {S : IxS} {f : Int × Int} {F : List IxF}
theorem IXt.treeC (h : IXt W B b own S most f mb a w w') (q : List UInt8) (v : Int) (hm : mayL q = true) (hmo : most ≤ 34359738368) {m' : Nat} (hm' : most ≤ m') (hto : S.tot < 1152921504606846975) :
    Calls Tryz.prog 61 #[.pointer (some ⟨a, 0, none⟩), .string (sb q), .int .i64 v] w' fun e w2 => e = .returned (.bool (getR (S.G f) q).isNone) ∧
      IXn W B b own { S with G := fun g => if g = f then putR (S.G f) q v else S.G g, tot := if (getR (S.G f) q).isSome then S.tot else S.tot + 1 } m' w w2 := by
  obtain ⟨V, us, n, F1, x, F2, h1, h2, h3, h4, h5, h6, h7, h8, h9, h10⟩ := h
  subst h3
  have hx : x ∈ F1 ++ x :: F2 := by simp
  have hG : S.G f = x.t := by rw [h5, treeF_at h2 h4]
  have hfew := h1.few x hx
  have hok := h1.tries x hx
  refine (hok.put q v hm (by omega)).mono ?_
  rintro e w2 ⟨rfl, bs', t1, t2, t3⟩
  have hkp := keys_put (x := v) hok.ok hok.fit hm
  have hxt : x.t.keys.length ≤ S.tot := by
    rw [h6]
    unfold totF
    simp only [List.map_append, List.map_cons, List.sum_append, List.sum_cons]
    omega
  have hkl : (putR x.t q v).keys.length ≤ 1152921504606846975 := by
    rw [hkp]; split <;> omega
  obtain ⟨g1, g2⟩ := h1.trie (x' := ⟨x.f, x.a, bs', putR x.t q v⟩) (most' := m') hm' t1 rfl rfl hkl t2 t3
  have hmem : ∀ q, (q = x.a ∨ q ∈ x.bs) → q ∈ ownI b V (some mb) (F1 ++ x :: F2) := fun q e => IxOf.x_mem hx e
  rw [hG]
  refine ⟨rfl, _, ⟨V, us, n, some mb, F1 ++ ⟨x.f, x.a, bs', putR x.t q v⟩ :: F2, g1, rfl, ?_, ?_, ?_, ?_⟩, h9.trans t2 (fun p hp e => ?_), fun p hp => ?_⟩
  · show (fun g => if g = f then putR x.t q v else S.G g) = _
    have e := treeF_set (F1 := F1) (F2 := F2) (x := x) (x' := ⟨x.f, x.a, bs', putR x.t q v⟩) rfl (by rw [h2]; exact h4)
    rw [h5, ← h2]
    exact e.symm
  · have := totF_set F1 F2 x ⟨x.f, x.a, bs', putR x.t q v⟩
    simp only at this
    rw [hkp, ← h6] at this
    show (if (getR x.t q).isSome = true then S.tot else S.tot + 1) = _
    split at this <;> rename_i e <;> simp only [e] <;> simp <;> omega
  · intro y hy
    rcases List.mem_append.1 hy with e | e
    · exact h7 y (List.mem_append.2 (.inl e))
    · rcases List.mem_cons.1 e with rfl | e
      · exact h7 x hx
      · exact h7 y (List.mem_append.2 (.inr (List.mem_cons.2 (.inr e))))
  · show (if (getR x.t q).isSome = true then S.tot else S.tot + 1) ≤ 1152921504606846975
    split <;> omega
  · rcases h10 p (hmem p e) with e | e
    · exact e
    · omega
  · rcases g2 p hp with e | e
    · exact h10 p e
    · right; have := h9.size; omega
end
set_option maxHeartbeats 16000000 in
theorem put_index_cap {W w : World} {B b most : Nat} {own : List Nat} {S : IxS} (h : IXs W B b own S most w) (hm : most ≤ 34359738368) (k : Int) (n a : ByteArray) (x v : Int) (hn : n.size ≤ 140737488355328) (ha : a.size ≤ 140737488355328) (hL : LaidT w) {m' : Nat} (hm' : most ≤ m') (hcap : (putI S (toT k n a x) v).lv ≤ m') (hto : S.tot < 1152921504606846975) :
    Calls Tryz.prog 28 #[.pointer (some ⟨b, 0, none⟩), .agg #[.int .i64 k, .string n, .string a, .int .i64 x], .int .i64 v] w fun e w' => e = .returned (.bool (putB S (toT k n a x))) ∧ IXn W B b own (putI S (toT k n a x) v) m' w w' := by
  obtain ⟨W0, hW0⟩ : ∃ W0, W0 = w.alloc (.cells #[.int .i64 k, .string n, .string a, .int .i64 x] 46) := ⟨_, rfl⟩
  have hc0 : Cs W0 w.heap.size [.int .i64 k, .string n, .string a, .int .i64 x] := by rw [hW0]; exact Cs.new w _ _ _
  have hb0 : Below w.heap.size w W0 := by rw [hW0]; exact (Below.refl _ _).alloc (Nat.le_refl _) _
  have henc := encode_any k n a x W0 hn ha (hL.below hb0 (Nat.le_refl _))
  have HC0 := Lib.hid hc0
  have HB0 := Lib.hid hb0
  have HW0 := Lib.hid hW0
  cases he : encR (toT k n a x) with
  | none =>
    rw [he, show encV none = .tuple #[.string ⟨#[]⟩, .bool false] from rfl] at henc
    have HE := Lib.hid henc
    have HI := Lib.hid h
    have HP : Hid (putB S (toT k n a x) = false ∧ putI S (toT k n a x) v = S) := Lib.hid ⟨by unfold putB; rw [he]; rfl, by unfold putI; rw [he]; rfl⟩
    clear he henc hc0 hb0 hW0 h hL
    go_enter Tryz.func28, Tryz.ntmps28
    go_wp2_with (go_at_call 37; rw [← HW0.out]; refine HE.out.mono ?_; rintro e w1 ⟨rfl, hb1⟩; refine Hid.out ?_)
    refine Lib.hid ?_
    have HB1 := Lib.hid (HB0.out.trans (hb1.mono HB0.out.size))
    clear hb1
    go_wp2_with fail
    go_ret
    exact ⟨by rw [HP.out.1]; rfl, own, by rw [HP.out.2]; exact (HI.out.below HB1.out).more hm', Only.of_below _ HB1.out, fun q hq => .inl hq⟩
  | some z =>
    obtain ⟨Z, hZ⟩ : ∃ Z, encV (some z) = .tuple #[.string Z, .bool true] := ⟨_, rfl⟩
    rw [he, hZ] at henc
    have HE := Lib.hid henc
    clear hZ
    cases hnb : namB (toT k n a x) with
    | true =>
      obtain ⟨hq1, hq2⟩ := (namB_iff _).1 hnb
      have ha0 : a = ⟨#[]⟩ := by
        have h0 : a.data.toList = [] := hq1
        exact ByteArray.ext (Array.ext' (by rw [h0]))
      have hx0 : x = 0 := hq2
      subst ha0 hx0
      have hpq := fun w => pfx_eql ⟨#[]⟩ ⟨#[]⟩ 0 0 w
      rw [show ((⟨#[]⟩ : ByteArray).toList == (⟨#[]⟩ : ByteArray).toList && (0 : Int) == 0) = true by simp] at hpq
      have hwd := fun w => iword_any k n w hn
      have hwp : wordP (toT k n ⟨#[]⟩ 0) = wordT k n := by unfold wordP toT; rw [show baL n.data.toList = n from rfl]
      have HP : Hid (putB S (toT k n ⟨#[]⟩ 0) = (S.M (wordT k n)).isNone ∧ putI S (toT k n ⟨#[]⟩ 0) v = { S with M := upd S.M (wordT k n) (some v), lv := if (S.M (wordT k n)).isSome then S.lv else S.lv + 1 }) := Lib.hid (by
        unfold putB putI IxS.put IxS.val
        rw [he, hnb, hwp]
        simp)
      have hws := wordT_size k n
      obtain ⟨K, hK⟩ : ∃ K, K = wordT k n := ⟨_, rfl⟩
      rw [← hK] at hwd HP hws
      have HCAP : Hid ((if (S.M K).isSome then S.lv else S.lv + 1) ≤ m') := Lib.hid (by rw [HP.out.2] at hcap; exact hcap)
      clear hcap
      have HWD := Lib.hid hwd
      have HI := Lib.hid h
      have HKS : Hid (K.size ≤ maxLen) := Lib.hid (by rw [hws]; unfold maxLen; omega)
      clear hq1 hq2 hwd hwp hws hK he henc hc0 hb0 hW0 h hL hnb
      go_enter Tryz.func28, Tryz.ntmps28
      go_wp2_with (go_at_call 37; rw [← HW0.out]; refine HE.out.mono ?_; rintro e w1 ⟨rfl, hb1⟩; refine Hid.out ?_)
      refine Lib.hid ?_
      have HB1 := Lib.hid (HB0.out.trans (hb1.mono HB0.out.size))
      have HC1 := Lib.hid (HC0.out.below hb1)
      clear hb1 HB0 HC0 HE HW0
      have y2 := HC1.out.get 2 (.string ⟨#[]⟩)
      have y3 := HC1.out.get 3 (.int .i64 0)
      go_upto_region 5 with fail
      clear y2 y3
      refine wp_region_tail ad_follows (fun x => by simp [putsF, Act.put]; rfl) (fun v => Below w1.heap.size w1 v)
        [isV (.pointer (some ⟨b, 0, none⟩)), isV (.pointer (some ⟨b, 0, none⟩)), isV (.pointer (some ⟨b, 0, none⟩)), isV (.pointer (some ⟨w.heap.size, 0, none⟩)), isV (.int .i64 k), isV (.pointer (some ⟨w.heap.size, 1, none⟩)), isV (.string n), isV (.string K), isV (.int .i64 v)]
        9 [] (by kernel_rfl) (by kernel_rfl) (by kernel_rfl) rfl (by kernel_rfl) (by kernel_rfl) ?_ (Below.refl _ _).drew ?_ ?_
      · repeat (first | exact trivial | refine ⟨by first | exact isV_stays _, ?_⟩)
      · refine ⟨?_, ?_, ?_, ?_, ?_, ?_, ?_, ?_, ?_, skipped rfl, skipped rfl, trivial⟩
        all_goals
          intro _ x wx hR hd
          refine ⟨fun _ => ?_, fun hX => by simp at hX⟩
          simp at hd ⊢
        · try obtain ⟨hd1, hd2⟩ := hd
          go_simp; exact nextL _ rfl rfl hR (Below.refl _ _)
        · try obtain ⟨hd1, hd2⟩ := hd
          go_simp; exact nextL _ rfl rfl hR (Below.refl _ _)
        · try obtain ⟨hd1, hd2⟩ := hd
          go_simp; exact nextL _ rfl rfl hR (Below.refl _ _)
        · try obtain ⟨hd1, hd2⟩ := hd
          go_simp; exact nextL _ rfl rfl hR (Below.refl _ _)
        · have q := (HC1.out.below hR).get 0 (.int .i64 k)
          go_simp; exact nextL _ rfl rfl hR (Below.refl _ _)
        · try obtain ⟨hd1, hd2⟩ := hd
          go_simp; exact nextL _ rfl rfl hR (Below.refl _ _)
        · have q := (HC1.out.below hR).get 1 (.string n)
          go_simp; exact nextL _ rfl rfl hR (Below.refl _ _)
        · try obtain ⟨hd1, hd2⟩ := hd
          go_simp
          go_at_call 57
          refine (HWD.out wx).mono ?_
          rintro e wy ⟨rfl, hby⟩
          exact nextL _ rfl rfl (hR.trans (hby.mono hR.size)) hby
        · try obtain ⟨hd1, hd2⟩ := hd
          go_simp; exact nextL _ rfl rfl hR (Below.refl _ _)
      intro x w5 hR5 hx _
      obtain ⟨x0, x1, x2, -, -, -, -, x7, x8, -⟩ := hx
      have x2 : x 2 = .pointer (some ⟨b, 0, none⟩) := x2
      have x7 : x 7 = .string K := x7
      have x8 : x 8 = .int .i64 v := x8
      have HB5 := Lib.hid (HB1.out.trans (hR5.mono HB1.out.size))
      change tailWp _ _ [_, _] _ _
      rw [adtail_cons, x2, x7, x8]
      go_simp
      go_at_call 60
      refine ((HI.out.below HB5.out).putNameC hm hm' K v HKS.out HCAP.out).mono ?_
      rintro e w6 ⟨rfl, own', hI6, hO6, hM6⟩
      refine ⟨_, rfl, ?_⟩
      rw [adtail_nil]
      have HI6 := Lib.hid hI6
      have HO6 := Lib.hid (((Only.of_below (fun q => q ∈ own) HB5.out).trans hO6 (fun _ _ e => e)))
      have HM6 := Lib.hid (show ∀ q ∈ own', q ∈ own ∨ w.heap.size ≤ q from fun q hq => (hM6 q hq).imp id (fun e => Nat.le_trans HB5.out.size e))
      clear hI6 hO6 hM6 HI HB5 HB1 HC1 HWD hR5 x0 x1 x2 x7 x8
      go_simp
      go_wp2_with fail
      go_ret
      exact ⟨by rw [HP.out.1]; rfl, own', by rw [HP.out.2]; exact HI6.out, HO6.out, HM6.out⟩
    | false =>
      have htr : n = ⟨#[]⟩ ∧ mayP a.data.toList x = true ∧ (k = 0 ∨ k = 3 ∨ k = 6) := by
        rcases enc_shape he with ⟨q1, q2, _⟩ | ⟨q1, q2, q3⟩
        · rw [(namB_iff _).2 ⟨q1, q2⟩] at hnb; cases hnb
        · exact ⟨ByteArray.ext (Array.ext' (show n.data.toList = [] from q1)), q2, q3⟩
      obtain ⟨hn0, hmp, hkk⟩ := htr
      subst hn0
      have hpq := fun w => pfx_eql a ⟨#[]⟩ x 0 w
      rw [show (a.toList == (⟨#[]⟩ : ByteArray).toList && x == 0) = false by
        rw [Bool.eq_false_iff]
        intro e
        have hnb' : ¬ (a.data.toList = [] ∧ x = 0) := fun h => by rw [(namB_iff (toT k ⟨#[]⟩ a x)).2 h] at hnb; cases hnb
        simp only [Bool.and_eq_true, beq_iff_eq, ByteArray.toList_eq] at e
        exact hnb' e] at hpq
      have hke := fun w => key_any a x w hmp
      obtain ⟨q, hq⟩ : ∃ q, q = signs ((bitsL a.data.toList).take x.toNat) := ⟨_, rfl⟩
      have hqm : mayL q = true := by rw [hq]; exact keyP_may (t := toT k ⟨#[]⟩ a x) hmp
      obtain ⟨L, hLL⟩ : ∃ L : Nat, L = a.size := ⟨_, rfl⟩
      have hL4 : L = 4 ∨ L = 16 := by
        have := isAddr_pos (mayP_more hmp).1
        rw [show a.data.toList.length = a.size from Array.length_toList] at this
        omega
      have HP : Hid (putB S (toT k ⟨#[]⟩ a x) = (getR (S.G (k, (L : Int))) q).isNone ∧ putI S (toT k ⟨#[]⟩ a x) v = { S with G := fun g => if g = (k, (L : Int)) then putR (S.G (k, (L : Int))) q v else S.G g, tot := if (getR (S.G (k, (L : Int))) q).isSome then S.tot else S.tot + 1 }) := Lib.hid (by
        have hf : famP (toT k ⟨#[]⟩ a x) = (k, (L : Int)) := by
          show (k, ((a.data.toList.length : Nat) : Int)) = _
          rw [hLL, Array.length_toList]; rfl
        have hk' : keyP (toT k ⟨#[]⟩ a x) = q := hq.symm
        unfold putB putI IxS.put IxS.val
        rw [he, hnb, hf, hk']
        simp)
      rw [← hq] at hke
      have HKE := Lib.hid hke
      have HQM := Lib.hid hqm
      clear hcap
      have HK := Lib.hid hkk
      have HL4 := Lib.hid hL4
      have HI := Lib.hid h
      clear hke hqm hkk hL4 hq hmp he hnb hc0 hb0 hW0 h hL
      go_enter Tryz.func28, Tryz.ntmps28
      go_wp2_with (go_at_call 37; rw [← HW0.out]; refine HE.out.mono ?_; rintro e w1 ⟨rfl, hb1⟩; refine Hid.out ?_)
      refine Lib.hid ?_
      have HB1 := Lib.hid (HB0.out.trans (hb1.mono HB0.out.size))
      have HC1 := Lib.hid (HC0.out.below hb1)
      clear hb1 HB0 HC0 HE HW0
      have y0 := HC1.out.get 0 (.int .i64 k)
      have y2 := HC1.out.get 2 (.string a)
      have y3 := HC1.out.get 3 (.int .i64 x)
      go_upto_region 7 with fail
      obtain ⟨P9, hP9⟩ : ∃ P9, P9 = w1.heap.size := ⟨_, rfl⟩
      obtain ⟨W2, hW2⟩ : ∃ W2, W2 = w1.alloc (.cells #[.int .i64 k, .int .i64 L] 135) := ⟨_, rfl⟩
      simp only [← hLL]
      clear hLL
      rw [← hP9, ← hW2]
      have hal : Below w1.heap.size w1 W2 := by rw [hW2]; exact (Below.refl _ _).alloc (Nat.le_refl _) _
      have HP9 := Lib.hid (show w.heap.size ≤ P9 from by rw [hP9]; exact HB1.out.size)
      have HF2 : Hid (Cs W2 P9 [.int .i64 k, .int .i64 L]) := Lib.hid (by rw [hW2]; exact (Cs.new w1 _ _ _).at_ _ hP9.symm)
      have HB2 := Lib.hid (HB1.out.trans (hal.mono HB1.out.size))
      have HC2 := Lib.hid (HC1.out.below hal)
      have hX := HI.out.below HB2.out
      have HBB := Lib.hid (show B ≤ w.heap.size from by obtain ⟨V, us, n', mv, F, h1, _⟩ := HI.out; exact Nat.le_of_lt (Nat.lt_of_le_of_lt (h1.ge _ IxOf.b_mem) h1.tab.lt))
      have HLT := Lib.hid HI.out.lt
      clear hal y0 y2 y3 HI HC1 HB1 hW2 hP9 w1
      obtain ⟨V, us, n', mv, F, h1, hown, h2, h3, h4, h5⟩ := hX
      have y9 := h1.own.get 3 (.map mv)
      have z9 := h1.own.froz 3 (by simp)
      have HN := Lib.hid (And.intro h2 (And.intro h3 (And.intro h4 h5)))
      have HO := Lib.hid hown
      have HI1 := Lib.hid h1
      clear h1 h2 h3 h4 h5 hown
      cases mv with
      | none =>
        have hmn := fun w => map_nil none w
        have hmm := @run_makeMap Tryz.prog
        have y8 := (HI1.out.own.alloc (.map #[] 0)).get 3 (.map none)
        have z8 := (HI1.out.own.alloc (.map #[] 0)).froz 3 (by simp)
        go_upto_region 9 with fail
        obtain ⟨hm1, hm2, hm3⟩ := HI1.out.maps
        have hF := HI1.out.nomap rfl
        subst hF
        obtain ⟨mb, hmb⟩ : ∃ mb, mb = W2.heap.size := ⟨_, rfl⟩
        have hbo : b ∈ own := by rw [HO.out]; exact IxOf.b_mem
        have hblt := HLT.out b hbo
        obtain ⟨W3, hW3⟩ : ∃ W3, W3 = (W2.alloc (.map #[] 0)).setCell ⟨b, 3, none⟩ (.map (some W2.heap.size)) := ⟨_, rfl⟩
        rw [← hW3] at hm1 hm3
        rw [← hW3]
        have HNE : Hid (mb ≠ w.heap.size ∧ mb ≠ P9) := Lib.hid (by
          have q1 := HF2.out.lt
          have q2 := HC2.out.lt
          omega)
        have HM : Hid (IXm W B b own S most mb [] w W3) := Lib.hid (by
          rw [← hmb] at hm1 hm2
          obtain ⟨k1, k2, k3, k4⟩ := HN.out
          refine ⟨V, us, n', hm1, k1, k2, k3, k4, (Only.of_below (fun q => q ∈ own) HB2.out).trans hm3 (fun q _ e => by rw [e]; exact hbo), fun q hq => ?_⟩
          rcases hm2 q hq with e | e
          · left; rw [HO.out]; exact e
          · right; have := HB2.out.size; omega)
        have HF := Lib.hid (hm3.cs HF2.out (fun e => by have := HP9.out; omega))
        have HC := Lib.hid (hm3.cs HC2.out (fun e => by omega))
        have HS : Hid (w.heap.size ≤ W3.heap.size) := Lib.hid (Nat.le_trans HB2.out.size hm3.size)
        have HLK : Hid (lookF [] (k, (L : Int)) = none) := Lib.hid rfl
        have HNF : Hid ((k, (L : Int)) ∉ ([] : List IxF).map (·.f)) := Lib.hid (by simp)
        clear hm1 hm2 hm3 hmb hW3 hblt hbo y8 z8 y9 z9 HF2 HC2 HN HI1 HB2 HO hmn hmm
        refine wp_region_goesG ad_follows (fun x => by simp [putsF, Act.put]; rfl) W3.heap.size W3
          [isV (.pointer (some ⟨b, 0, none⟩)), isV (.pointer (some ⟨b, 0, none⟩)), isV (.pointer (some ⟨b, 3, none⟩)), isV (.map (some mb)), isV (.agg #[.int .i64 k, .int .i64 L]), isV (.pointer none), isV (.bool true)]
          (by kernel_rfl) (by kernel_rfl) (by kernel_rfl) rfl ?_ (Below.refl _ _) ?_ ?_
        · repeat (first | exact trivial | refine ⟨by first | exact isV_stays _ , ?_⟩)
        · refine ⟨?_, ?_, ?_, ?_, ?_, ?_, ?_, trivial⟩
          all_goals
            intro x wx hR hd
            simp at hd ⊢
            try simp [hd]
          all_goals try exact fun hX => absurd (show (false : Bool) = true from hX) (by decide)
          · go_simp
            exact next_same _ rfl rfl hR
          · go_simp
            exact next_same _ rfl rfl hR
          · go_simp
            exact next_same _ rfl rfl hR
          · have lq := (HM.out.below hR).cell
            go_simp
            exact next_same _ rfl rfl hR
          · have lq0 := (HF.out.below hR).get 0 (.int .i64 k)
            have lq1 := (HF.out.below hR).get 1 (.int .i64 L)
            go_simp
            exact next_same _ rfl rfl hR
          · try obtain ⟨hd1, hd2⟩ := hd
            have lk := (HM.out.below hR).look (k, (L : Int))
            rw [HLK.out] at lk
            simp only [Option.getD_none, Option.getD_some] at lk
            go_simp
            exact next_same _ rfl rfl hR
          · go_simp
            exact next_same _ rfl rfl hR
        intro X9 w4 hR hx
        simp [AllWords] at hx
        have hx6 : X9 6 = .bool true := by simp [hx]
        clear hx
        rw [hx6]
        have HM2 := Lib.hid (HM.out.below hR)
        have HF2 := Lib.hid (HF.out.below hR)
        have HC2 := Lib.hid (HC.out.below hR)
        have HS2 := Lib.hid (Nat.le_trans HS.out hR.size)
        clear hR hx6 HM HF HC HS HLK
        go_upto_region 10 with fail
        refine wp_region_tail ad_follows (fun x => by simp [putsF, Act.put]; rfl) (fun v => Below w4.heap.size w4 v)
          [isV (.pointer (some ⟨b, 0, none⟩)), isV (.pointer (some ⟨b, 0, none⟩)), isV (.pointer (some ⟨b, 3, none⟩)), isV (.map (some mb)), isV (.agg #[.int .i64 k, .int .i64 L]), isV (.agg #[.pointer none, .int .i64 0]), boxI w4.heap.size [.pointer none, .int .i64 0]]
          7 [] (by kernel_rfl) (by kernel_rfl) (by kernel_rfl) rfl (by kernel_rfl) (by kernel_rfl) ?_ (Below.refl _ _).drew ?_ ?_
        · repeat (first | exact trivial | refine ⟨by first | exact isV_stays _ | exact boxI_stays _ _, ?_⟩)
        · refine ⟨?_, ?_, ?_, ?_, ?_, ?_, ?_, skipped rfl, trivial⟩
          all_goals
            intro _ xx wx hR hd
            refine ⟨fun _ => ?_, fun hX => by simp at hX⟩
            simp at hd ⊢
          · try obtain ⟨hd1, hd2⟩ := hd
            go_simp; exact nextL _ rfl rfl hR (Below.refl _ _)
          · try obtain ⟨hd1, hd2⟩ := hd
            go_simp; exact nextL _ rfl rfl hR (Below.refl _ _)
          · try obtain ⟨hd1, hd2⟩ := hd
            go_simp; exact nextL _ rfl rfl hR (Below.refl _ _)
          · have lq := (HM2.out.below hR).cell
            go_simp; exact nextL _ rfl rfl hR (Below.refl _ _)
          · have lq0 := (HF2.out.below hR).get 0 (.int .i64 k)
            have lq1 := (HF2.out.below hR).get 1 (.int .i64 L)
            go_simp; exact nextL _ rfl rfl hR (Below.refl _ _)
          · try obtain ⟨hd1, hd2⟩ := hd
            go_simp; exact nextL _ rfl rfl hR (Below.refl _ _)
          · go_simp; exact nextL _ rfl ⟨_, rfl, hR.size, Cs.new _ _ _ _⟩ (hR.alloc hR.size _) ((Below.refl _ _).alloc (Nat.le_refl _) _)
        intro X10 w5 hR5 hx _
        obtain ⟨-, -, -, x3, x4, -, x6, -⟩ := hx
        have x3 : X10 3 = .map (some mb) := x3
        have x4 : X10 4 = .agg #[.int .i64 k, .int .i64 L] := x4
        obtain ⟨g, x6, hgB, hcg⟩ : boxI w4.heap.size [.pointer none, .int .i64 0] (X10 6) w5 := x6
        obtain ⟨w6, hrun, ht, ho⟩ := HM2.out.put hR5 HBB.out HNF.out (f := (k, (L : Int))) ⟨HK.out, by have := HL4.out; show (L : Int) = 4 ∨ (L : Int) = 16; omega⟩ hgB hcg
        change tailWp _ _ [_] _ _
        rw [adtail_cons, x3, x4, x6]
        simp only at hrun
        have HT := Lib.hid ht
        have HC := Lib.hid (ho.cs (HC2.out.below hR5) (fun e => HNE.out.1 e.symm))
        have HF := Lib.hid (ho.cs (HF2.out.below hR5) (fun e => HNE.out.2 e.symm))
        clear x3 x4 x6 hcg hR5 ht ho HM2 HC2 HF2 hgB
        go_simp
        try refine ⟨_, rfl, ?_⟩
        try rw [adtail_nil]
        clear hrun
        go_upto_region 11 with fail
        refine wp_region_tail ad_follows (fun x => by simp [putsF, Act.put]; rfl) (fun v => Below w6.heap.size w6 v)
          [isV (.pointer (some ⟨b, 0, none⟩)), isV (.pointer (some ⟨b, 0, none⟩)), isV (.pointer (some ⟨b, 3, none⟩)), isV (.map (some mb)), isV (.agg #[.int .i64 k, .int .i64 L]), isV (.pointer (some ⟨g, 0, none⟩)), isV (.pointer (some ⟨w.heap.size, 2, none⟩)), isV (.agg #[.string a, .int .i64 x]), isV (.string (sb q)), isV (.int .i64 v)]
          10 [] (by kernel_rfl) (by kernel_rfl) (by kernel_rfl) rfl (by kernel_rfl) (by kernel_rfl) ?_ (Below.refl _ _).drew ?_ ?_
        · repeat (first | exact trivial | refine ⟨by first | exact isV_stays _, ?_⟩)
        · refine ⟨?_, ?_, ?_, ?_, ?_, ?_, ?_, ?_, ?_, ?_, skipped rfl, skipped rfl, trivial⟩
          all_goals
            intro _ xx wx hR hd
            refine ⟨fun _ => ?_, fun hX => by simp at hX⟩
            simp at hd ⊢
          · try obtain ⟨hd1, hd2⟩ := hd
            go_simp; exact nextL _ rfl rfl hR (Below.refl _ _)
          · try obtain ⟨hd1, hd2⟩ := hd
            go_simp; exact nextL _ rfl rfl hR (Below.refl _ _)
          · try obtain ⟨hd1, hd2⟩ := hd
            go_simp; exact nextL _ rfl rfl hR (Below.refl _ _)
          · have lq := (HT.out.below hR).cell
            go_simp; exact nextL _ rfl rfl hR (Below.refl _ _)
          · have lq0 := (HF.out.below hR).get 0 (.int .i64 k)
            have lq1 := (HF.out.below hR).get 1 (.int .i64 L)
            go_simp; exact nextL _ rfl rfl hR (Below.refl _ _)
          · try obtain ⟨hd1, hd2⟩ := hd
            have lk := (HT.out.below hR).look
            simp only at lk
            go_simp; exact nextL _ rfl rfl hR (Below.refl _ _)
          · try obtain ⟨hd1, hd2⟩ := hd
            go_simp; exact nextL _ rfl rfl hR (Below.refl _ _)
          · have lq2 := (HC.out.below hR).get 2 (.string a)
            have lq3 := (HC.out.below hR).get 3 (.int .i64 x)
            go_simp; exact nextL _ rfl rfl hR (Below.refl _ _)
          · try obtain ⟨hd1, hd2⟩ := hd
            go_simp
            go_at_call 59
            refine (HKE.out wx).mono ?_
            rintro e wy ⟨rfl, hby⟩
            exact nextL _ rfl rfl (hR.trans (hby.mono hR.size)) hby
          · try obtain ⟨hd1, hd2⟩ := hd
            go_simp; exact nextL _ rfl rfl hR (Below.refl _ _)
        intro X11 w8 hR8 hx _
        obtain ⟨-, -, -, -, -, x5, -, -, x8, x9, -⟩ := hx
        have x5 : X11 5 = .pointer (some ⟨g, 0, none⟩) := x5
        have x8 : X11 8 = .string (sb q) := x8
        have x9 : X11 9 = .int .i64 v := x9
        have HT8 := Lib.hid (HT.out.below hR8)
        change tailWp _ _ [_, _] _ _
        rw [adtail_cons, x5, x8, x9]
        clear x5 x8 x9 hR8 HT HC HF
        go_simp
        go_at_call 61
        refine (HT8.out.treeC q v HQM.out hm hm' hto).mono ?_
        rintro e w9 ⟨rfl, hI9⟩
        have HI9 := Lib.hid hI9
        clear hI9 HT8
        refine ⟨_, rfl, ?_⟩
        rw [adtail_nil]
        go_simp
        go_wp2_with fail
        go_ret
        exact ⟨by rw [HP.out.1]; rfl, by rw [HP.out.2]; exact HI9.out⟩
      | some mb =>
        have hmn := fun w => map_nil (some mb) w
        go_upto_region 9 with fail
        have hmo : mb ∈ own := by rw [HO.out]; exact IxOf.m_mem rfl
        have hmlt := HLT.out mb hmo
        have HNE : Hid (mb ≠ w.heap.size ∧ mb ≠ P9) := Lib.hid (by have := HP9.out; omega)
        have HM : Hid (IXm W B b own S most mb F w W2) := Lib.hid (by
          obtain ⟨k1, k2, k3, k4⟩ := HN.out
          exact ⟨V, us, n', HI1.out, k1, k2, k3, k4, Only.of_below (fun q => q ∈ own) HB2.out, fun q hq => .inl (by rw [HO.out]; exact hq)⟩)
        have HF := HF2
        have HC := HC2
        have HS : Hid (w.heap.size ≤ W2.heap.size) := Lib.hid HB2.out.size
        clear hmo hmlt y9 z9 HF2 HC2 HN HI1 HB2 HO hmn
        rcases lookF_cases F (k, (L : Int)) with hno | ⟨F1, xF, F2, hFe, e1, e2⟩
        · have HLK : Hid (lookF F (k, (L : Int)) = none) := Lib.hid (lookF_no hno)
          have HNF := Lib.hid hno
          clear hno
          refine wp_region_goesG ad_follows (fun x => by simp [putsF, Act.put]; rfl) W2.heap.size W2
            [isV (.pointer (some ⟨b, 0, none⟩)), isV (.pointer (some ⟨b, 0, none⟩)), isV (.pointer (some ⟨b, 3, none⟩)), isV (.map (some mb)), isV (.agg #[.int .i64 k, .int .i64 L]), isV (.pointer none), isV (.bool true)]
            (by kernel_rfl) (by kernel_rfl) (by kernel_rfl) rfl ?_ (Below.refl _ _) ?_ ?_
          · repeat (first | exact trivial | refine ⟨by first | exact isV_stays _ , ?_⟩)
          · refine ⟨?_, ?_, ?_, ?_, ?_, ?_, ?_, trivial⟩
            all_goals
              intro x wx hR hd
              simp at hd ⊢
              try simp [hd]
            all_goals try exact fun hX => absurd (show (false : Bool) = true from hX) (by decide)
            · go_simp
              exact next_same _ rfl rfl hR
            · go_simp
              exact next_same _ rfl rfl hR
            · go_simp
              exact next_same _ rfl rfl hR
            · have lq := (HM.out.below hR).cell
              go_simp
              exact next_same _ rfl rfl hR
            · have lq0 := (HF.out.below hR).get 0 (.int .i64 k)
              have lq1 := (HF.out.below hR).get 1 (.int .i64 L)
              go_simp
              exact next_same _ rfl rfl hR
            · try obtain ⟨hd1, hd2⟩ := hd
              have lk := (HM.out.below hR).look (k, (L : Int))
              rw [HLK.out] at lk
              simp only [Option.getD_none, Option.getD_some] at lk
              go_simp
              exact next_same _ rfl rfl hR
            · go_simp
              exact next_same _ rfl rfl hR
          intro X9 w4 hR hx
          simp [AllWords] at hx
          have hx6 : X9 6 = .bool true := by simp [hx]
          clear hx
          rw [hx6]
          have HM2 := Lib.hid (HM.out.below hR)
          have HF2 := Lib.hid (HF.out.below hR)
          have HC2 := Lib.hid (HC.out.below hR)
          have HS2 := Lib.hid (Nat.le_trans HS.out hR.size)
          clear hR hx6 HM HF HC HS HLK
          go_upto_region 10 with fail
          refine wp_region_tail ad_follows (fun x => by simp [putsF, Act.put]; rfl) (fun v => Below w4.heap.size w4 v)
            [isV (.pointer (some ⟨b, 0, none⟩)), isV (.pointer (some ⟨b, 0, none⟩)), isV (.pointer (some ⟨b, 3, none⟩)), isV (.map (some mb)), isV (.agg #[.int .i64 k, .int .i64 L]), isV (.agg #[.pointer none, .int .i64 0]), boxI w4.heap.size [.pointer none, .int .i64 0]]
            7 [] (by kernel_rfl) (by kernel_rfl) (by kernel_rfl) rfl (by kernel_rfl) (by kernel_rfl) ?_ (Below.refl _ _).drew ?_ ?_
          · repeat (first | exact trivial | refine ⟨by first | exact isV_stays _ | exact boxI_stays _ _, ?_⟩)
          · refine ⟨?_, ?_, ?_, ?_, ?_, ?_, ?_, skipped rfl, trivial⟩
            all_goals
              intro _ xx wx hR hd
              refine ⟨fun _ => ?_, fun hX => by simp at hX⟩
              simp at hd ⊢
            · try obtain ⟨hd1, hd2⟩ := hd
              go_simp; exact nextL _ rfl rfl hR (Below.refl _ _)
            · try obtain ⟨hd1, hd2⟩ := hd
              go_simp; exact nextL _ rfl rfl hR (Below.refl _ _)
            · try obtain ⟨hd1, hd2⟩ := hd
              go_simp; exact nextL _ rfl rfl hR (Below.refl _ _)
            · have lq := (HM2.out.below hR).cell
              go_simp; exact nextL _ rfl rfl hR (Below.refl _ _)
            · have lq0 := (HF2.out.below hR).get 0 (.int .i64 k)
              have lq1 := (HF2.out.below hR).get 1 (.int .i64 L)
              go_simp; exact nextL _ rfl rfl hR (Below.refl _ _)
            · try obtain ⟨hd1, hd2⟩ := hd
              go_simp; exact nextL _ rfl rfl hR (Below.refl _ _)
            · go_simp; exact nextL _ rfl ⟨_, rfl, hR.size, Cs.new _ _ _ _⟩ (hR.alloc hR.size _) ((Below.refl _ _).alloc (Nat.le_refl _) _)
          intro X10 w5 hR5 hx _
          obtain ⟨-, -, -, x3, x4, -, x6, -⟩ := hx
          have x3 : X10 3 = .map (some mb) := x3
          have x4 : X10 4 = .agg #[.int .i64 k, .int .i64 L] := x4
          obtain ⟨g, x6, hgB, hcg⟩ : boxI w4.heap.size [.pointer none, .int .i64 0] (X10 6) w5 := x6
          obtain ⟨w6, hrun, ht, ho⟩ := HM2.out.put hR5 HBB.out HNF.out (f := (k, (L : Int))) ⟨HK.out, by have := HL4.out; show (L : Int) = 4 ∨ (L : Int) = 16; omega⟩ hgB hcg
          change tailWp _ _ [_] _ _
          rw [adtail_cons, x3, x4, x6]
          simp only at hrun
          have HT := Lib.hid ht
          have HC := Lib.hid (ho.cs (HC2.out.below hR5) (fun e => HNE.out.1 e.symm))
          have HF := Lib.hid (ho.cs (HF2.out.below hR5) (fun e => HNE.out.2 e.symm))
          clear x3 x4 x6 hcg hR5 ht ho HM2 HC2 HF2 hgB
          go_simp
          try refine ⟨_, rfl, ?_⟩
          try rw [adtail_nil]
          clear hrun
          go_upto_region 11 with fail
          refine wp_region_tail ad_follows (fun x => by simp [putsF, Act.put]; rfl) (fun v => Below w6.heap.size w6 v)
            [isV (.pointer (some ⟨b, 0, none⟩)), isV (.pointer (some ⟨b, 0, none⟩)), isV (.pointer (some ⟨b, 3, none⟩)), isV (.map (some mb)), isV (.agg #[.int .i64 k, .int .i64 L]), isV (.pointer (some ⟨g, 0, none⟩)), isV (.pointer (some ⟨w.heap.size, 2, none⟩)), isV (.agg #[.string a, .int .i64 x]), isV (.string (sb q)), isV (.int .i64 v)]
            10 [] (by kernel_rfl) (by kernel_rfl) (by kernel_rfl) rfl (by kernel_rfl) (by kernel_rfl) ?_ (Below.refl _ _).drew ?_ ?_
          · repeat (first | exact trivial | refine ⟨by first | exact isV_stays _, ?_⟩)
          · refine ⟨?_, ?_, ?_, ?_, ?_, ?_, ?_, ?_, ?_, ?_, skipped rfl, skipped rfl, trivial⟩
            all_goals
              intro _ xx wx hR hd
              refine ⟨fun _ => ?_, fun hX => by simp at hX⟩
              simp at hd ⊢
            · try obtain ⟨hd1, hd2⟩ := hd
              go_simp; exact nextL _ rfl rfl hR (Below.refl _ _)
            · try obtain ⟨hd1, hd2⟩ := hd
              go_simp; exact nextL _ rfl rfl hR (Below.refl _ _)
            · try obtain ⟨hd1, hd2⟩ := hd
              go_simp; exact nextL _ rfl rfl hR (Below.refl _ _)
            · have lq := (HT.out.below hR).cell
              go_simp; exact nextL _ rfl rfl hR (Below.refl _ _)
            · have lq0 := (HF.out.below hR).get 0 (.int .i64 k)
              have lq1 := (HF.out.below hR).get 1 (.int .i64 L)
              go_simp; exact nextL _ rfl rfl hR (Below.refl _ _)
            · try obtain ⟨hd1, hd2⟩ := hd
              have lk := (HT.out.below hR).look
              simp only at lk
              go_simp; exact nextL _ rfl rfl hR (Below.refl _ _)
            · try obtain ⟨hd1, hd2⟩ := hd
              go_simp; exact nextL _ rfl rfl hR (Below.refl _ _)
            · have lq2 := (HC.out.below hR).get 2 (.string a)
              have lq3 := (HC.out.below hR).get 3 (.int .i64 x)
              go_simp; exact nextL _ rfl rfl hR (Below.refl _ _)
            · try obtain ⟨hd1, hd2⟩ := hd
              go_simp
              go_at_call 59
              refine (HKE.out wx).mono ?_
              rintro e wy ⟨rfl, hby⟩
              exact nextL _ rfl rfl (hR.trans (hby.mono hR.size)) hby
            · try obtain ⟨hd1, hd2⟩ := hd
              go_simp; exact nextL _ rfl rfl hR (Below.refl _ _)
          intro X11 w8 hR8 hx _
          obtain ⟨-, -, -, -, -, x5, -, -, x8, x9, -⟩ := hx
          have x5 : X11 5 = .pointer (some ⟨g, 0, none⟩) := x5
          have x8 : X11 8 = .string (sb q) := x8
          have x9 : X11 9 = .int .i64 v := x9
          have HT8 := Lib.hid (HT.out.below hR8)
          change tailWp _ _ [_, _] _ _
          rw [adtail_cons, x5, x8, x9]
          clear x5 x8 x9 hR8 HT HC HF
          go_simp
          go_at_call 61
          refine (HT8.out.treeC q v HQM.out hm hm' hto).mono ?_
          rintro e w9 ⟨rfl, hI9⟩
          have HI9 := Lib.hid hI9
          clear hI9 HT8
          refine ⟨_, rfl, ?_⟩
          rw [adtail_nil]
          go_simp
          go_wp2_with fail
          go_ret
          exact ⟨by rw [HP.out.1]; rfl, by rw [HP.out.2]; exact HI9.out⟩
        · subst hFe
          obtain ⟨ga, hga⟩ : ∃ ga, ga = xF.a := ⟨_, rfl⟩
          have HLK : Hid (lookF (F1 ++ xF :: F2) (k, (L : Int)) = some (.pointer (some ⟨ga, 0, none⟩))) := Lib.hid (by rw [hga]; exact lookF_at e1 e2)
          have HEE := Lib.hid (And.intro e1 (And.intro e2 hga))
          clear e1 e2 hga
          refine wp_region_goesG ad_follows (fun x => by simp [putsF, Act.put]; rfl) W2.heap.size W2
            [isV (.pointer (some ⟨b, 0, none⟩)), isV (.pointer (some ⟨b, 0, none⟩)), isV (.pointer (some ⟨b, 3, none⟩)), isV (.map (some mb)), isV (.agg #[.int .i64 k, .int .i64 L]), isV (.pointer (some ⟨ga, 0, none⟩)), isV (.bool false)]
            (by kernel_rfl) (by kernel_rfl) (by kernel_rfl) rfl ?_ (Below.refl _ _) ?_ ?_
          · repeat (first | exact trivial | refine ⟨by first | exact isV_stays _ , ?_⟩)
          · refine ⟨?_, ?_, ?_, ?_, ?_, ?_, ?_, trivial⟩
            all_goals
              intro x wx hR hd
              simp at hd ⊢
              try simp [hd]
            all_goals try exact fun hX => absurd (show (false : Bool) = true from hX) (by decide)
            · go_simp
              exact next_same _ rfl rfl hR
            · go_simp
              exact next_same _ rfl rfl hR
            · go_simp
              exact next_same _ rfl rfl hR
            · have lq := (HM.out.below hR).cell
              go_simp
              exact next_same _ rfl rfl hR
            · have lq0 := (HF.out.below hR).get 0 (.int .i64 k)
              have lq1 := (HF.out.below hR).get 1 (.int .i64 L)
              go_simp
              exact next_same _ rfl rfl hR
            · try obtain ⟨hd1, hd2⟩ := hd
              have lk := (HM.out.below hR).look (k, (L : Int))
              rw [HLK.out] at lk
              simp only [Option.getD_none, Option.getD_some] at lk
              go_simp
              exact next_same _ rfl rfl hR
            · go_simp
              exact next_same _ rfl rfl hR
          intro X9 w4 hR hx
          simp [AllWords] at hx
          have hx6 : X9 6 = .bool false := by simp [hx]
          clear hx
          rw [hx6]
          have HM2 := Lib.hid (HM.out.below hR)
          have HF2 := Lib.hid (HF.out.below hR)
          have HC2 := Lib.hid (HC.out.below hR)
          have HS2 := Lib.hid (Nat.le_trans HS.out hR.size)
          clear hR hx6 HM HF HC HS HLK
          have HT : Hid (IXt W B b own S most (k, (L : Int)) mb ga w w4) := Lib.hid (by rw [HEE.out.2.2]; exact HM2.out.has HEE.out.1 HEE.out.2.1)
          have HC := HC2
          have HF := HF2
          clear HM2 HC2 HF2 HEE
          go_upto_region 11 with fail
          refine wp_region_tail ad_follows (fun x => by simp [putsF, Act.put]; rfl) (fun v => Below w4.heap.size w4 v)
            [isV (.pointer (some ⟨b, 0, none⟩)), isV (.pointer (some ⟨b, 0, none⟩)), isV (.pointer (some ⟨b, 3, none⟩)), isV (.map (some mb)), isV (.agg #[.int .i64 k, .int .i64 L]), isV (.pointer (some ⟨ga, 0, none⟩)), isV (.pointer (some ⟨w.heap.size, 2, none⟩)), isV (.agg #[.string a, .int .i64 x]), isV (.string (sb q)), isV (.int .i64 v)]
            10 [] (by kernel_rfl) (by kernel_rfl) (by kernel_rfl) rfl (by kernel_rfl) (by kernel_rfl) ?_ (Below.refl _ _).drew ?_ ?_
          · repeat (first | exact trivial | refine ⟨by first | exact isV_stays _, ?_⟩)
          · refine ⟨?_, ?_, ?_, ?_, ?_, ?_, ?_, ?_, ?_, ?_, skipped rfl, skipped rfl, trivial⟩
            all_goals
              intro _ xx wx hR hd
              refine ⟨fun _ => ?_, fun hX => by simp at hX⟩
              simp at hd ⊢
            · try obtain ⟨hd1, hd2⟩ := hd
              go_simp; exact nextL _ rfl rfl hR (Below.refl _ _)
            · try obtain ⟨hd1, hd2⟩ := hd
              go_simp; exact nextL _ rfl rfl hR (Below.refl _ _)
            · try obtain ⟨hd1, hd2⟩ := hd
              go_simp; exact nextL _ rfl rfl hR (Below.refl _ _)
            · have lq := (HT.out.below hR).cell
              go_simp; exact nextL _ rfl rfl hR (Below.refl _ _)
            · have lq0 := (HF.out.below hR).get 0 (.int .i64 k)
              have lq1 := (HF.out.below hR).get 1 (.int .i64 L)
              go_simp; exact nextL _ rfl rfl hR (Below.refl _ _)
            · try obtain ⟨hd1, hd2⟩ := hd
              have lk := (HT.out.below hR).look
              simp only at lk
              go_simp; exact nextL _ rfl rfl hR (Below.refl _ _)
            · try obtain ⟨hd1, hd2⟩ := hd
              go_simp; exact nextL _ rfl rfl hR (Below.refl _ _)
            · have lq2 := (HC.out.below hR).get 2 (.string a)
              have lq3 := (HC.out.below hR).get 3 (.int .i64 x)
              go_simp; exact nextL _ rfl rfl hR (Below.refl _ _)
            · try obtain ⟨hd1, hd2⟩ := hd
              go_simp
              go_at_call 59
              refine (HKE.out wx).mono ?_
              rintro e wy ⟨rfl, hby⟩
              exact nextL _ rfl rfl (hR.trans (hby.mono hR.size)) hby
            · try obtain ⟨hd1, hd2⟩ := hd
              go_simp; exact nextL _ rfl rfl hR (Below.refl _ _)
          intro X11 w8 hR8 hx _
          obtain ⟨-, -, -, -, -, x5, -, -, x8, x9, -⟩ := hx
          have x5 : X11 5 = .pointer (some ⟨ga, 0, none⟩) := x5
          have x8 : X11 8 = .string (sb q) := x8
          have x9 : X11 9 = .int .i64 v := x9
          have HT8 := Lib.hid (HT.out.below hR8)
          change tailWp _ _ [_, _] _ _
          rw [adtail_cons, x5, x8, x9]
          clear x5 x8 x9 hR8 HT HC HF
          go_simp
          go_at_call 61
          refine (HT8.out.treeC q v HQM.out hm hm' hto).mono ?_
          rintro e w9 ⟨rfl, hI9⟩
          have HI9 := Lib.hid hI9
          clear hI9 HT8
          refine ⟨_, rfl, ?_⟩
          rw [adtail_nil]
          go_simp
          go_wp2_with fail
          go_ret
          exact ⟨by rw [HP.out.1]; rfl, by rw [HP.out.2]; exact HI9.out⟩
end Go.Proofs.YtkdknfedieeenaaGreatDoor
namespace Go.Proofs.YtkdknfedieeenaaGreatDoor
open Go.RowKit
set_option linter.unusedVariables false
set_option linter.unusedSimpArgs false
set_option maxRecDepth 20000
theorem isAddr_D17 (six : Bool) (l : List UInt8) : isAddr (addrD six l).length = true := by rw [addrD_len]; cases six <;> rfl
theorem trigD_ok (kd : Int) (zs : List Int) (six : Bool) (bt : Int) (hk : 0 ≤ kd) (hb : 0 ≤ bt) : TrigOk kd (trigD kd zs six bt) := by
  unfold trigD
  split
  · rename_i h
    have hia := isAddr_D17 six (bytesZ zs)
    have hal := addrD_len six (bytesZ zs)
    have hm0 : 0 ≤ bitsD six bt := by unfold bitsD; exact Int.emod_nonneg _ (by omega)
    have hm1 : bitsD six bt < ((8 * addrN six + 1 : Nat) : Int) := by unfold bitsD; exact Int.emod_lt_of_pos _ (by omega)
    obtain ⟨m, hm⟩ : ∃ m : Nat, (m : Int) = bitsD six bt := ⟨(bitsD six bt).toNat, by omega⟩
    rw [← hm, Int.toNat_natCast]
    exact trigPfx_ok h hia (by rw [hal]; omega)
  · rename_i h
    have hf : FewX (namD (kd % 7) zs) := by
      unfold namD
      split
      · exact ⟨by decide, by decide⟩
      · exact fewK_ok zs _
    refine trigNam_ok hk h hf (fun h2 => ?_)
    unfold namD
    split
    · simp
    · rename_i h3; exact fun e => h3 ⟨e, h2⟩
def listsN (F : List (List UInt8)) : Nat → List (List (List UInt8))
  | 0 => [[]]
  | n + 1 => [] :: F.flatMap fun x => (listsN F n).map (x :: ·)
theorem listsN_mem (F : List (List UInt8)) : ∀ (n : Nat) (X : List (List UInt8)), X.length ≤ n → (∀ x ∈ X, x ∈ F) → X ∈ listsN F n
  | 0, [], _, _ => by simp [listsN]
  | n + 1, [], _, _ => by simp [listsN]
  | 0, _ :: _, h, _ => by simp at h
  | n + 1, x :: X, h, hm => by
    unfold listsN
    refine List.mem_cons.2 (.inr (List.mem_flatMap.2 ⟨x, hm x (by simp), List.mem_map.2 ⟨X, ?_, rfl⟩⟩))
    exact listsN_mem F n X (by simpa using h) (fun y hy => hm y (by simp [hy]))
theorem sum_const17 {α : Type} (c : Nat) : ∀ l : List α, (l.map fun _ => c).sum = l.length * c
  | [] => by simp
  | x :: l => by rw [List.map_cons, List.sum_cons, sum_const17 c l, List.length_cons, Nat.succ_mul]; omega
theorem listsN_len (F : List (List UInt8)) (n : Nat) : (listsN F (n + 1)).length = 1 + F.length * (listsN F n).length := by
  show ([] :: F.flatMap fun x => (listsN F n).map (x :: ·)).length = _
  rw [List.length_cons, List.length_flatMap]
  simp only [List.length_map]
  rw [sum_const17]
  omega
def allW : List ByteArray := ([1, 2, 4, 5] : List Int).flatMap fun k => (listsN five 5).map fun X => wordT k (baL (wire X))
theorem allW_len : allW.length = 15624 := by
  unfold allW
  rw [List.length_flatMap]
  simp only [List.length_map]
  rw [sum_const17, listsN_len, listsN_len, listsN_len, listsN_len, listsN_len]
  rfl
theorem word_in {kd : Int} {t : Trig} (h : TrigOk kd t) (hn : namB t = true) (hk : t.kind = 1 ∨ t.kind = 2 ∨ t.kind = 4 ∨ t.kind = 5) : wordP t ∈ allW := by
  have hp : ¬ (kd % 7 = 0 ∨ kd % 7 = 3 ∨ kd % 7 = 6) := by have := h.kind; omega
  obtain ⟨_, _, X, hX, hl⟩ := h.nam hp
  have hw : t.name = wire X := ((nameLabels_iff _ _).1 hl).2.1
  unfold allW wordP
  rw [hw]
  refine List.mem_flatMap.2 ⟨t.kind, ?_, List.mem_map.2 ⟨X, listsN_mem five 5 X hX.len hX.mem, rfl⟩⟩
  rcases hk with e | e | e | e <;> rw [e] <;> simp
theorem lives_few {H : ByteArray → Nat} {ss : List Slot} (h : TOk H ss) (L : List ByteArray) (hL : ∀ i, i < ss.length → (sl ss i).st = 1 → (sl ss i).key ∈ L) : lives ss ≤ L.length := by
  have hss : ss = (List.range ss.length).map (sl ss) := by
    apply List.ext_getElem
    · simp
    · intro i h1 h2
      rw [List.getElem_map, List.getElem_range, sl_get h1]
  have e1 : lives ss = ((List.range ss.length).filter fun i => (sl ss i).st == 1).length := by
    unfold lives
    conv => lhs; rw [hss]
    rw [List.countP_map, List.countP_eq_length_filter]
    rfl
  have hn : (((List.range ss.length).filter fun i => (sl ss i).st == 1).map fun i => (sl ss i).key).Nodup := by
    rw [List.Nodup, List.pairwise_map]
    refine List.Pairwise.imp_of_mem ?_ ((List.nodup_range (n := ss.length)).filter _)
    intro a b ha hb hab e
    simp only [List.mem_filter, List.mem_range, beq_iff_eq] at ha hb
    exact hab (h.uniq a b ha.1 hb.1 ha.2 hb.2 e)
  have := hn.length_le_of_subset (l₂ := L) (fun q hq => by
    obtain ⟨i, hi, rfl⟩ := List.mem_map.1 hq
    simp only [List.mem_filter, List.mem_range, beq_iff_eq] at hi
    exact hL i hi.1 hi.2)
  rw [List.length_map, ← e1] at this
  exact this
/-- All that the index holds is of these triggers. -/
def Sup (S : IxS) (Ts : List Trig) : Prop := (∀ k, S.M k ≠ none → ∃ t ∈ Ts, namB t = true ∧ k = wordP t) ∧ ∀ f q, getR (S.G f) q ≠ none → ∃ t ∈ Ts, namB t = false ∧ f = famP t ∧ q = keyP t
theorem Sup.start : Sup emptyI [] := ⟨fun _ h => absurd rfl h, fun f q h => absurd (emptyI_get f q) h⟩
theorem Sup.more {S : IxS} {Ts Us : List Trig} (h : Sup S Ts) (hs : ∀ t ∈ Ts, t ∈ Us) : Sup S Us :=
  ⟨fun k hk => by obtain ⟨t, h1, h2⟩ := h.1 k hk; exact ⟨t, hs t h1, h2⟩, fun f q hk => by obtain ⟨t, h1, h2⟩ := h.2 f q hk; exact ⟨t, hs t h1, h2⟩⟩
theorem Sup.put {S : IxS} {Ts : List Trig} {t : Trig} {z : List UInt8} (h : Sup S Ts) (hS : S.Ok) (he : encR t = some z) (v : Int) : Sup (S.put t v) (t :: Ts) := by
  refine ⟨fun k hk => ?_, fun f q hk => ?_⟩
  · unfold IxS.put at hk
    cases hn : namB t with
    | true =>
      rw [hn, if_pos rfl] at hk
      by_cases e : k = wordP t
      · exact ⟨t, by simp, hn, e⟩
      · simp only at hk
        rw [upd_other _ _ _ _ e] at hk
        obtain ⟨u, h1, h2⟩ := h.1 k hk
        exact ⟨u, by simp [h1], h2⟩
    | false =>
      rw [hn, if_neg (by simp)] at hk
      obtain ⟨u, h1, h2⟩ := h.1 k hk
      exact ⟨u, by simp [h1], h2⟩
  · rw [IxS.put_get v hS he] at hk
    split at hk
    · rename_i e; exact ⟨t, by simp, e⟩
    · obtain ⟨u, h1, h2⟩ := h.2 f q hk
      exact ⟨u, by simp [h1], h2⟩
theorem Sup.del {S : IxS} {Ts : List Trig} {t : Trig} (h : Sup S (t :: Ts)) (hS : S.Ok) : Sup (S.del t) Ts := by
  refine ⟨fun k hk => ?_, fun f q hk => ?_⟩
  · have hk2 : S.M k ≠ none ∧ ¬ (namB t = true ∧ k = wordP t) := by
      unfold IxS.del at hk
      cases hn : namB t with
      | true =>
        rw [hn, if_pos rfl] at hk
        simp only at hk
        by_cases e : k = wordP t
        · rw [e, upd_same] at hk; exact absurd rfl hk
        · rw [upd_other _ _ _ _ e] at hk; exact ⟨hk, fun q => e q.2⟩
      | false =>
        rw [hn, if_neg (by simp)] at hk
        refine ⟨?_, fun q => by cases q.1⟩
        split at hk <;> exact hk
    obtain ⟨u, h1, h2⟩ := h.1 k hk2.1
    rcases List.mem_cons.1 h1 with rfl | h1
    · exact absurd h2 hk2.2
    · exact ⟨u, h1, h2⟩
  · rw [IxS.del_get hS] at hk
    split at hk
    · exact absurd rfl hk
    · rename_i e
      obtain ⟨u, h1, h2⟩ := h.2 f q hk
      rcases List.mem_cons.1 h1 with rfl | h1
      · exact absurd h2 e
      · exact ⟨u, h1, h2⟩
theorem Sup.val {S : IxS} (h : Sup S []) (t : Trig) : S.val t = none := by
  unfold IxS.val
  split
  · by_cases e : S.M (wordP t) = none
    · exact e
    · obtain ⟨u, h1, _⟩ := h.1 _ e; cases h1
  · by_cases e : getR (S.G (famP t)) (keyP t) = none
    · exact e
    · obtain ⟨u, h1, _⟩ := h.2 _ _ e; cases h1
/-- The names that an index of such triggers has are few. -/
theorem IXs.few {W w : World} {B b most : Nat} {own : List Nat} {S : IxS} {Ts : List Trig} (h : IXs W B b own S most w) (hs : Sup S Ts) (hT : ∀ t ∈ Ts, namB t = true → wordP t ∈ allW) : S.lv ≤ 15624 := by
  obtain ⟨V, us, n, mv, F, h1, _⟩ := h
  obtain ⟨ss, hT2⟩ := h1.tab
  rw [← hT2.live, ← allW_len]
  refine lives_few hT2.ti.ok allW (fun i hi hl => ?_)
  obtain ⟨t, ht, h2, h3⟩ := hs.1 (sl ss i).key (by
    rw [(hT2.ti.rep _ _).2 ⟨i, ⟨hi, hl, rfl⟩, rfl⟩]; simp)
  rw [h3]
  exact hT t ht h2
theorem IXs.len0 {W w : World} {B b most : Nat} {own : List Nat} {S : IxS} (h : IXs W B b own S most w) (hs : Sup S []) : S.len = 0 := by
  obtain ⟨V, us, n, mv, F, h1, h2, h3, h4, _⟩ := h
  obtain ⟨ss, hT2⟩ := h1.tab
  have hl : S.lv = 0 := by
    have : S.lv ≤ ([] : List ByteArray).length := by
      rw [← hT2.live]
      refine lives_few hT2.ti.ok [] (fun i hi hl => ?_)
      obtain ⟨t, ht, _⟩ := hs.1 (sl ss i).key (by
        rw [(hT2.ti.rep _ _).2 ⟨i, ⟨hi, hl, rfl⟩, rfl⟩]; simp)
      cases ht
    simpa using this
  have ht : S.tot = 0 := by
    rw [h4]
    unfold totF
    have : ∀ x ∈ F, x.t.keys.length = 0 := by
      intro x hx
      rw [List.length_eq_zero_iff, List.eq_nil_iff_forall_not_mem]
      intro q hq
      have hx2 := h1.tries x hx
      have hg := (keys_get hx2.ok hx2.fit).1 hq
      obtain ⟨F1, F2, rfl⟩ := List.append_of_mem hx
      have hG : S.G x.f = x.t := by rw [h3, treeF_at rfl (fams_apart h1.fams)]
      obtain ⟨t, ht, _⟩ := hs.2 x.f q (by rw [hG]; intro e; rw [e] at hg; cases hg)
      cases ht
    have h9 : (F.map fun x => x.t.keys.length) = F.map fun _ => 0 := List.map_congr_left this
    exact (congrArg List.sum h9).trans ((sum_const17 0 F).trans (Nat.mul_zero _))
  unfold IxS.len
  omega
end Go.Proofs.YtkdknfedieeenaaGreatDoor
namespace Go.Proofs.YtkdknfedieeenaaGreatDoor
open Go.RowKit
set_option linter.unusedVariables false
set_option linter.unusedSimpArgs false
set_option maxRecDepth 20000
attribute [local simp] putsF isV wordOf Deps Region.binds Region.wanted Act.put wantedX isB
theorem IXs.few1 {W w : World} {B b most : Nat} {own : List Nat} {S : IxS} {Ts : List Trig} (h : IXs W B b own S most w) (hs : Sup S Ts) (hT : ∀ t ∈ Ts, namB t = true → wordP t ∈ allW) {k : ByteArray} (hk : k ∈ allW) (hn : S.M k = none) : S.lv + 1 ≤ 15624 := by
  obtain ⟨V, us, n, mv, F, h1, _⟩ := h
  obtain ⟨ss, hT2⟩ := h1.tab
  rw [← hT2.live, ← allW_len]
  have := lives_few hT2.ti.ok (allW.filter fun x => decide (x ≠ k)) (fun i hi hl => by
    have hm := (hT2.ti.rep _ _).2 ⟨i, ⟨hi, hl, rfl⟩, rfl⟩
    obtain ⟨t, ht, h2, h3⟩ := hs.1 (sl ss i).key (by rw [hm]; simp)
    refine List.mem_filter.2 ⟨by rw [h3]; exact hT t ht h2, ?_⟩
    simp only [ne_eq, decide_not, Bool.not_eq_true', decide_eq_false_iff_not]
    intro e
    rw [e, hn] at hm
    cases hm)
  have h2 : (allW.filter fun x => decide (x ≠ k)).length < allW.length := by
    rw [List.length_filter_lt_length_iff_exists]
    exact ⟨k, hk, by simp⟩
  omega
/-- What holds of an index in the rounds: all that it holds is of these triggers. -/
def IXr (W : World) (b : Nat) (S : IxS) (Ts : List Trig) (m : Nat) (wx : World) : Prop := (∃ own, IXs W W.heap.size b own S 15624 wx) ∧ Sup S Ts ∧ S.tot ≤ m
def IXg (W : World) (b : Nat) (S : IxS) (g : Nat) (cs : List Value) (wx : World) : Prop := ∃ own, IXs W W.heap.size b own S 15624 wx ∧ Cs wx g cs ∧ g ∉ own
theorem IXg.below {W wx wy : World} {b g : Nat} {S : IxS} {cs : List Value} (h : IXg W b S g cs wx) (hb : Below wx.heap.size wx wy) : IXg W b S g cs wy := by
  obtain ⟨own, h1, h2, h3⟩ := h
  exact ⟨own, h1.below hb, h2.below hb, h3⟩
theorem put_tot (S : IxS) (t : Trig) (v : Int) : (S.put t v).tot ≤ S.tot + 1 := by
  unfold IxS.put
  split
  · exact Nat.le_succ _
  · simp only
    split
    · exact Nat.le_succ _
    · exact Nat.le_refl _
theorem del_tot (S : IxS) (t : Trig) : (S.del t).tot ≤ S.tot := by
  unfold IxS.del
  split
  · exact Nat.le_refl _
  · split
    · exact Nat.sub_le _ _
    · exact Nat.le_refl _
theorem tot0 {W wx : World} {b m : Nat} {S : IxS} (h : IXr W b S [] m wx) : S.tot = 0 := by
  obtain ⟨⟨own, h1⟩, h2, _⟩ := h
  have := h1.len0 h2
  unfold IxS.len at this
  omega
theorem put_round {W wx : World} {b g m : Nat} {S : IxS} {cs : List Value} {Ts : List Trig} {kd : Int} {t : Trig} (h : IXg W b S g cs wx) (hs : Sup S Ts) (hT : ∀ t ∈ Ts, namB t = true → wordP t ∈ allW) (ht : TrigOk kd t) (hm : S.tot ≤ m) (hm2 : m < 1152921504606846975) (hL : LaidT wx) (v : Int) :
    Calls Tryz.prog 28 #[.pointer (some ⟨b, 0, none⟩), trigT t, .int .i64 v] wx fun e w' => e = .returned (.bool (S.val t).isNone) ∧ IXg W b (S.put t v) g cs w' ∧ Sup (S.put t v) (t :: Ts) ∧ (S.put t v).tot ≤ m + 1 := by
  obtain ⟨own, k1, k2, k3⟩ := h
  have he := ht.good.enc
  have hsz := ht.small
  have htt := (toT_surj t).symm
  have hwd : ∀ u ∈ t :: Ts, namB u = true → wordP u ∈ allW := by
    intro u hu hn
    rcases List.mem_cons.1 hu with rfl | hu
    · rcases enc_shape he with ⟨_, _, q⟩ | ⟨_, q, _⟩
      · exact word_in ht hn q
      · rw [mayP_not_named q] at hn; cases hn
    · exact hT u hu hn
  have hcap : (putI S t v).lv ≤ 15624 := by
    rw [putI_some he]
    have h0 := k1.few hs hT
    unfold IxS.put
    cases hn : namB t with
    | true =>
      rw [if_pos rfl]
      show (if (S.M (wordP t)).isSome = true then S.lv else S.lv + 1) ≤ _
      split
      · exact h0
      · rename_i e
        exact k1.few1 hs hT (hwd t (by simp) hn) (by simpa using e)
    | false => rw [if_neg (by simp)]; exact h0
  have hp := put_index_cap k1 (by omega) t.kind (baL t.name) (baL t.addr) t.bits v (by rw [baL_sz]; omega) (by rw [baL_sz]; omega) hL (m' := 15624) (Nat.le_refl _) (by rw [htt]; exact hcap) (by omega)
  rw [htt, putI_some he, putB_some he] at hp
  refine hp.mono ?_
  rintro e w' ⟨rfl, hn⟩
  obtain ⟨own', q1, q2, q3⟩ := hn.keep1 k2 k3
  exact ⟨rfl, ⟨own', q1, q2, q3⟩, hs.put k1.ok he v, by have := put_tot S t v; omega⟩
theorem del_round {W wx : World} {b g m : Nat} {S : IxS} {cs : List Value} {Ts : List Trig} {kd : Int} {t : Trig} (h : IXg W b S g cs wx) (hs : Sup S (t :: Ts)) (ht : TrigOk kd t) (hm : S.tot ≤ m) (hL : LaidT wx) :
    Calls Tryz.prog 27 #[.pointer (some ⟨b, 0, none⟩), trigT t] wx fun e w' => e = .returned (.bool (S.val t).isSome) ∧ IXg W b (S.del t) g cs w' ∧ Sup (S.del t) Ts ∧ (S.del t).tot ≤ m := by
  obtain ⟨own, k1, k2, k3⟩ := h
  have he := ht.good.enc
  have hsz := ht.small
  have htt := (toT_surj t).symm
  have hp := del_index k1 (by omega) t.kind (baL t.name) (baL t.addr) t.bits (by rw [baL_sz]; omega) (by rw [baL_sz]; omega) hL
  rw [htt, delI_some he, delB_some he] at hp
  refine hp.mono ?_
  rintro e w' ⟨rfl, hn⟩
  obtain ⟨own', q1, q2, q3⟩ := hn.keep1 k2 k3
  exact ⟨rfl, ⟨own', q1, q2, q3⟩, hs.del k1.ok, by have := del_tot S t; omega⟩
/-- A deed's trigger. -/
def trgX (a : DeedX) : Trig := trigD a.2.1 a.2.2.1.2.2.2 a.2.2.2.1 a.2.2.2.2.1
def actX (a : DeedX) : List Value := [.int .u8 a.1, .int .u8 a.2.1, rowX a.2.2.1, .bool a.2.2.2.1, .int .u8 a.2.2.2.2.1, .int .i64 a.2.2.2.2.2]
set_option maxHeartbeats 64000000 in
theorem indexRound_walk (w : World) (hL : LaidT w) (A : Option Addr) (n c : Nat) (ds : List DeedX) (DS : DeedsX w A n c ds) (hr : ∀ r ∈ ds, r.2.2.1.2.2.1 ≤ 140737488351232) (hcp : c ≤ 2932031007317) :
    Calls Tryz.prog 10 #[.slice A n c] w fun e w' => e = .returned (.bool true) ∧ Below w.heap.size w w' := by
  have haw := awake17_any w hL
  have hnl : n ≤ 2932031007317 := Nat.le_trans DS.le hcp
  have htok : ∀ (i : Nat) (a : DeedX), ds[i]? = some a → ∃ kd, TrigOk kd (trgX a) := fun i a ha => by
    have := DS.ok a (List.mem_of_getElem? ha)
    have b1 := bounds_u8 this.2.1
    have b2 := bounds_u8 this.2.2.2.1
    exact ⟨_, trigD_ok a.2.1 _ _ _ (by omega) (by omega)⟩
  have htr : ∀ (i : Nat) (a : DeedX), ds[i]? = some a → ∀ wx : World, Below w.heap.size w wx → Calls Tryz.prog 26 #[.agg (actX a).toArray] wx fun e w' => e = .returned (trigT (trgX a)) ∧ Below wx.heap.size wx w' := by
    intro i a ha wx hb
    have h1 := DS.ok a (List.mem_of_getElem? ha)
    have h2 := hr a (List.mem_of_getElem? ha)
    have b1 := bounds_u8 h1.2.1
    have b2 := bounds_u8 h1.2.2.2.1
    obtain ⟨hS, hl, hz⟩ := h1.2.2.1
    refine (acttrig_any a.1 a.2.1 (by omega) a.2.2.1.1 a.2.2.1.2.1 a.2.2.1.2.2.1 a.2.2.1.2.2.2 a.2.2.2.1 a.2.2.2.2.1 (by omega) a.2.2.2.2.2 wx ((hS.sl.below hb).more hb.size) (fun z h => by have := bounds_u8 (hz z h); omega) (by have := hS.le; omega)).mono ?_
    rintro e w' ⟨rfl, _, hb'⟩
    exact ⟨rfl, hb'⟩
  obtain ⟨ts, hts⟩ : ∃ ts, ts = ds.map trgX := ⟨_, rfl⟩
  have htl : ts.length = n := by rw [hts, List.length_map, DS.len]
  have hti : ∀ (i : Nat) (a : DeedX), ds[i]? = some a → ts[i]? = some (trgX a) := fun i a ha => by rw [hts, List.getElem?_map, ha]; rfl
  have hwd : ∀ t ∈ ts, namB t = true → wordP t ∈ allW := by
    intro t ht hn
    rw [hts] at ht
    obtain ⟨a, ha, rfl⟩ := List.mem_map.1 ht
    obtain ⟨i, hi⟩ := List.mem_iff_getElem?.1 ha
    obtain ⟨kd, hk⟩ := htok i a hi
    rcases enc_shape hk.good.enc with ⟨_, _, q⟩ | ⟨_, q, _⟩
    · exact word_in hk hn q
    · rw [mayP_not_named q] at hn; cases hn
  have HAW := Lib.hid haw
  have HTOK := Lib.hid htok
  have HTR := Lib.hid htr
  have HTI := Lib.hid hti
  have HWD := Lib.hid hwd
  have HDS := Lib.hid DS
  have HL := Lib.hid hL
  have HTL := Lib.hid htl
  clear haw htok htr hti hwd hts hr DS hL hcp htl
  go_enter Tryz.func10, Tryz.ntmps10
  go_wp2_with (go_at_call 24; refine HAW.out.mono ?_; rintro e w1 ⟨rfl, hb1⟩; refine Hid.out ?_)
  refine Lib.hid ?_
  have HB1 := Lib.hid hb1
  have HL1 := Lib.hid (HL.out.below hb1 (Nat.le_refl _))
  clear hb1 HAW HL
  have hI2 : IXs w1 w1.heap.size w1.heap.size [w1.heap.size] emptyI 0 (w1.alloc (.cells #[.slice none 0 0, .int .i64 0, .int .i64 0, .map none] 129)) := IXs.start (Below.refl _ _) (Nat.le_refl _)
  obtain ⟨b, hb⟩ : ∃ b, b = w1.heap.size := ⟨_, rfl⟩
  have hof := index_of w1
  obtain ⟨W2, hW2⟩ : ∃ W2, W2 = w1.alloc (.cells #[.slice none 0 0, .int .i64 0, .int .i64 0, .map none] 129) := ⟨_, rfl⟩
  rw [← hW2, ← hb] at hof
  have HR2 : Hid (IXr w1 b emptyI [] 0 W2) := Lib.hid ⟨⟨[b], by rw [hb, hW2]; exact hI2.more (by omega)⟩, Sup.start, Nat.le_refl _⟩
  have HOF := Lib.hid hof
  clear hI2 hof hW2 hb
  go_wp2_with (go_at_call 25; refine HOF.out.mono ?_; rintro e w2 ⟨rfl, rfl⟩; refine Hid.out ?_)
  refine Lib.hid ?_
  have HBW : Hid (∀ wx : World, Below w1.heap.size w1 wx → Below w.heap.size w wx) := Lib.hid (fun wx h => HB1.out.trans (h.mono HB1.out.size))
  clear HOF
  go_wp2_with fail
  go_loopw [15] (fun v wr => ∃ k : Nat, k ≤ n ∧ v = .int .i64 k ∧ ∃ S, Hid (IXr w1 b S (ts.take k) k wr)) (fun v _ => n - (intOf v).toNat)
  case atStart => exact ⟨0, Nat.zero_le _, rfl, _, HR2⟩
  case round =>
    obtain ⟨k, hk, rfl, S, HRr⟩ := hrel
    clear HR2
    by_cases hlt : k < n
    · skip
      obtain ⟨a, ha⟩ : ∃ a, ds[k]? = some a := ⟨_, List.getElem?_eq_getElem (by rw [HDS.out.len]; exact hlt)⟩
      obtain ⟨bb, off, hAe, hbb, hcl⟩ := HDS.out.cells (by omega)
      obtain ⟨own, hI⟩ := HRr.out.1
      have hbr := HBW.out _ hI.bel
      obtain ⟨q0, q1, q2, q3, q4, q5⟩ := hcl k a ha
      have y0 := (hbr.cell (p := ⟨bb, off + k * 6, none⟩) hbb).trans q0
      have y1 := (hbr.cell (p := ⟨bb, off + k * 6 + 1, none⟩) hbb).trans q1
      have y2 := (hbr.cell (p := ⟨bb, off + k * 6 + 2, none⟩) hbb).trans q2
      have y3 := (hbr.cell (p := ⟨bb, off + k * 6 + 3, none⟩) hbb).trans q3
      have y4 := (hbr.cell (p := ⟨bb, off + k * 6 + 4, none⟩) hbb).trans q4
      have y5 := (hbr.cell (p := ⟨bb, off + k * 6 + 5, none⟩) hbb).trans q5
      have HT := Lib.hid (HTR.out k a ha)
      obtain ⟨kd0, hok⟩ := HTOK.out k a ha
      have HOK := Lib.hid hok
      have HTK := Lib.hid (HTI.out k a ha)
      have HBR := Lib.hid hbr
      have HII := Lib.hid hI
      have hlt' : (k : Int) < n := by omega
      obtain ⟨TG, hTG⟩ : ∃ TG, TG = trgX a := ⟨_, rfl⟩
      rw [← hTG] at HT HOK HTK
      obtain ⟨op, kd, ⟨rA, rn, rc, rz⟩, six, bt, va⟩ := a
      unfold rowX at y2
      unfold actX rowX at HT
      simp only at y0 y1 y2 y3 y4 y5 HT
      subst hAe
      clear q0 q1 q2 q3 q4 q5 hcl ha hI hbr hok hTG hbb
      obtain ⟨WB, hWB⟩ : ∃ WB, WB = wr.alloc (.cells #[.int .u8 op, .int .u8 kd, .slice rA rn rc, .bool six, .int .u8 bt, .int .i64 va] 76) := ⟨_, rfl⟩
      obtain ⟨g, hg⟩ : ∃ g, g = wr.heap.size := ⟨_, rfl⟩
      have hal : Below wr.heap.size wr WB := by rw [hWB]; exact (Below.refl _ _).alloc (Nat.le_refl _) _
      have HGB : Hid (IXg w1 b S g [.int .u8 op, .int .u8 kd, .slice rA rn rc, .bool six, .int .u8 bt, .int .i64 va] WB) := Lib.hid ⟨own, HII.out.below hal, by rw [hWB, hg]; exact Cs.new wr _ _ _, fun e => by have := HII.out.lt g e; omega⟩
      have HBB := Lib.hid (HBR.out.trans (hal.mono HBR.out.size))
      have HSP := Lib.hid HRr.out.2
      have hlb : ∀ wx S, IXg w1 b S g [.int .u8 op, .int .u8 kd, .slice rA rn rc, .bool six, .int .u8 bt, .int .i64 va] wx → Below w.heap.size w wx ∧ LaidT wx := fun wx S ⟨own, k1, _⟩ => ⟨HBW.out _ k1.bel, HL1.out.below k1.bel (Nat.le_refl _)⟩
      have HLB := Lib.hid hlb
      clear hal HII HRr HBR hlb own
      go_upto_region 7 with fail
      clear y0 y1 y2 y3 y4 y5
      rw [← hWB, ← hg]
      clear hWB hg
      refine wp_region_tail ad_follows (fun x => by simp [putsF, Act.put]; rfl) (fun v => Below WB.heap.size WB v)
        [isV (.pointer (some ⟨b, 0, none⟩)), isV (.agg #[.int .u8 op, .int .u8 kd, .slice rA rn rc, .bool six, .int .u8 bt, .int .i64 va]), isV (trigT TG), isV (.pointer (some ⟨g, 5, none⟩)), isV (.int .i64 va)]
        5 [] (by kernel_rfl) (by kernel_rfl) (by kernel_rfl) rfl (by kernel_rfl) (by kernel_rfl) ?_ (Below.refl _ _).drew ?_ ?_
      · repeat (first | exact trivial | refine ⟨by first | exact isV_stays _, ?_⟩)
      · refine ⟨?_, ?_, ?_, ?_, ?_, skipped rfl, trivial⟩
        all_goals
          intro _ x wx hR hd
          refine ⟨fun _ => ?_, fun hX => by simp at hX⟩
          simp at hd ⊢
        · go_simp; exact nextL _ rfl rfl hR (Below.refl _ _)
        · obtain ⟨oy, z1, z2, z3⟩ := HGB.out.below hR
          have y0 := z2.get 0 (.int .u8 op)
          have y1 := z2.get 1 (.int .u8 kd)
          have y2 := z2.get 2 (.slice rA rn rc)
          have y3 := z2.get 3 (.bool six)
          have y4 := z2.get 4 (.int .u8 bt)
          have y5 := z2.get 5 (.int .i64 va)
          clear z1 z2 z3 oy
          go_simp; exact nextL _ rfl rfl hR (Below.refl _ _)
        · obtain ⟨oy, z1, z2, z3⟩ := HGB.out.below hR
          have hbt := HBW.out _ z1.bel
          clear z1 z2 z3 oy
          try obtain ⟨hd1, hd2⟩ := hd
          go_simp
          go_at_call 26
          refine (HT.out _ hbt).mono ?_
          rintro e wy ⟨rfl, hby⟩
          exact nextL _ rfl rfl (hR.trans (hby.mono hR.size)) hby
        · go_simp; exact nextL _ rfl rfl hR (Below.refl _ _)
        · obtain ⟨oy, z1, z2, z3⟩ := HGB.out.below hR
          have y0 := z2.get 0 (.int .u8 op)
          have y1 := z2.get 1 (.int .u8 kd)
          have y2 := z2.get 2 (.slice rA rn rc)
          have y3 := z2.get 3 (.bool six)
          have y4 := z2.get 4 (.int .u8 bt)
          have y5 := z2.get 5 (.int .i64 va)
          clear z1 z2 z3 oy
          try obtain ⟨hd1, hd2⟩ := hd
          go_simp; exact nextL _ rfl rfl hR (Below.refl _ _)
      intro x w5 hR5 hx _
      obtain ⟨x0, -, x2, -, x4, -⟩ := hx
      have x0 : x 0 = .pointer (some ⟨b, 0, none⟩) := x0
      have x2 : x 2 = trigT TG := x2
      have x4 : x 4 = .int .i64 va := x4
      have hg5 := HGB.out.below hR5
      have hp := put_round hg5 HSP.out.1 (fun t ht => HWD.out t (List.mem_of_mem_take ht)) HOK.out HSP.out.2 (by omega) (HLB.out _ _ hg5).2 va
      have HPP := Lib.hid hp
      clear hp hg5 hR5
      change tailWp _ _ [_] _ _
      rw [adtail_cons, x0, x2, x4]
      clear x0 x2 x4
      go_simp
      go_at_call 28
      refine HPP.out.mono ?_
      rintro e w6 ⟨rfl, ⟨ow, hI6, hc6, ho6⟩, hS6, hm6⟩
      change tailWp _ _ [] _ _
      rw [adtail_nil]
      have HN : Hid (IXr w1 b (S.put TG va) (ts.take (k + 1)) (k + 1) w6) := Lib.hid ⟨⟨ow, hI6⟩, hS6.more (by
        intro t ht
        rw [List.take_add_one, HTK.out]
        rcases List.mem_cons.1 ht with rfl | ht
        · simp
        · simp [ht]), hm6⟩
      clear hI6 hS6 hm6 hc6 ho6 ow HPP HGB HSP HLB HBB HT HOK HTK
      go_wp2_with fail
      go_roundw
      case rel => exact ⟨k + 1, by omega, by go_num, _, HN⟩
      case measure => simp [intOf]; omega
    · obtain rfl : k = n := by omega
      have HRD : Hid (IXr w1 b S (ts.drop 0) k wr) := Lib.hid (by have := HRr.out; rw [List.take_of_length_le (by rw [HTL.out]; omega)] at this; simpa using this)
      clear HRr hk hlt
      go_wp2_with fail
      go_loopw [28] (fun v wr => ∃ j : Nat, j ≤ k ∧ v = .int .i64 j ∧ ∃ S, Hid (IXr w1 b S (ts.drop j) k wr)) (fun v _ => k - (intOf v).toNat)
      case atStart => exact ⟨0, Nat.zero_le _, rfl, _, HRD⟩
      case round =>
        obtain ⟨j, hj, rfl, S, HRr⟩ := hrel
        clear HRD
        by_cases hlt : j < k
        · skip
          obtain ⟨a, ha⟩ : ∃ a, ds[j]? = some a := ⟨_, List.getElem?_eq_getElem (by rw [HDS.out.len]; exact hlt)⟩
          obtain ⟨bb, off, hAe, hbb, hcl⟩ := HDS.out.cells (by omega)
          obtain ⟨own, hI⟩ := HRr.out.1
          have hbr := HBW.out _ hI.bel
          obtain ⟨q0, q1, q2, q3, q4, q5⟩ := hcl j a ha
          have y0 := (hbr.cell (p := ⟨bb, off + j * 6, none⟩) hbb).trans q0
          have y1 := (hbr.cell (p := ⟨bb, off + j * 6 + 1, none⟩) hbb).trans q1
          have y2 := (hbr.cell (p := ⟨bb, off + j * 6 + 2, none⟩) hbb).trans q2
          have y3 := (hbr.cell (p := ⟨bb, off + j * 6 + 3, none⟩) hbb).trans q3
          have y4 := (hbr.cell (p := ⟨bb, off + j * 6 + 4, none⟩) hbb).trans q4
          have y5 := (hbr.cell (p := ⟨bb, off + j * 6 + 5, none⟩) hbb).trans q5
          have HT := Lib.hid (HTR.out j a ha)
          obtain ⟨kd0, hok⟩ := HTOK.out j a ha
          have HOK := Lib.hid hok
          have HTK := Lib.hid (HTI.out j a ha)
          have HBR := Lib.hid hbr
          have HII := Lib.hid hI
          have hlt' : (j : Int) < k := by omega
          obtain ⟨TG, hTG⟩ : ∃ TG, TG = trgX a := ⟨_, rfl⟩
          rw [← hTG] at HT HOK HTK
          obtain ⟨op, kd, ⟨rA, rn, rc, rz⟩, six, bt, va⟩ := a
          unfold rowX at y2
          unfold actX rowX at HT
          simp only at y0 y1 y2 y3 y4 y5 HT
          subst hAe
          clear q0 q1 q2 q3 q4 q5 hcl ha hI hbr hok hTG hbb
          obtain ⟨WB, hWB⟩ : ∃ WB, WB = wr.alloc (.cells #[.int .u8 op, .int .u8 kd, .slice rA rn rc, .bool six, .int .u8 bt, .int .i64 va] 76) := ⟨_, rfl⟩
          obtain ⟨g, hg⟩ : ∃ g, g = wr.heap.size := ⟨_, rfl⟩
          have hal : Below wr.heap.size wr WB := by rw [hWB]; exact (Below.refl _ _).alloc (Nat.le_refl _) _
          have HGB : Hid (IXg w1 b S g [.int .u8 op, .int .u8 kd, .slice rA rn rc, .bool six, .int .u8 bt, .int .i64 va] WB) := Lib.hid ⟨own, HII.out.below hal, by rw [hWB, hg]; exact Cs.new wr _ _ _, fun e => by have := HII.out.lt g e; omega⟩
          have HBB := Lib.hid (HBR.out.trans (hal.mono HBR.out.size))
          have HSP := Lib.hid HRr.out.2
          have HR0 := HRr
          have hlb : ∀ wx S, IXg w1 b S g [.int .u8 op, .int .u8 kd, .slice rA rn rc, .bool six, .int .u8 bt, .int .i64 va] wx → Below w.heap.size w wx ∧ LaidT wx := fun wx S ⟨own, k1, _⟩ => ⟨HBW.out _ k1.bel, HL1.out.below k1.bel (Nat.le_refl _)⟩
          have HLB := Lib.hid hlb
          clear hal HII HRr HBR hlb own
          go_upto_region 12 with fail
          clear y0 y1 y2 y3 y4 y5
          rw [← hWB, ← hg]
          clear hWB hg
          skip
          obtain ⟨oy, z1, z2, z3⟩ := HGB.out
          have y0 := z2.get 0 (.int .u8 op)
          have y1 := z2.get 1 (.int .u8 kd)
          have y2 := z2.get 2 (.slice rA rn rc)
          have y3 := z2.get 3 (.bool six)
          have y4 := z2.get 4 (.int .u8 bt)
          have y5 := z2.get 5 (.int .i64 va)
          have hbt := HBW.out _ z1.bel
          clear z1 z2 z3 oy
          go_wp2_with (go_at_call 26; refine (HT.out _ hbt).mono ?_; rintro e wt ⟨rfl, hbt2⟩; refine Hid.out ?_)
          refine Lib.hid ?_
          have HGT := Lib.hid (HGB.out.below hbt2)
          clear hbt2 hbt y0 y1 y2 y3 y4 y5 HGB
          have hsp := HSP.out.1
          rw [List.drop_eq_getElem?_toList_append, HTK.out] at hsp
          have hg5 := HGT.out
          have HPP := Lib.hid (del_round hg5 hsp HOK.out HSP.out.2 (HLB.out _ _ hg5).2)
          clear hsp hg5
          go_wp2_with (go_at_call 27; refine HPP.out.mono ?_; rintro e w6 ⟨rfl, ⟨ow, hI6, hc6, ho6⟩, hS6, hm6⟩; refine Hid.out ?_)
          refine Lib.hid ?_
          have HN : Hid (IXr w1 b (S.del TG) (ts.drop (j + 1)) k w6) := Lib.hid ⟨⟨ow, hI6⟩, hS6, hm6⟩
          clear hI6 hS6 hm6 hc6 ho6 ow HPP HGT HSP HLB HBB HT HOK HTK
          go_wp2_with fail
          go_roundw
          case rel => exact ⟨j + 1, by omega, by go_num, _, HN⟩
          case measure => simp [intOf]; omega
        · obtain rfl : j = k := by omega
          have hd0 : IXr w1 b S [] j wr := by
            have := HRr.out
            rwa [List.drop_of_length_le (by rw [HTL.out]; omega)] at this
          have HR3 : Hid (IXr w1 b S [] 1 wr) := Lib.hid ⟨hd0.1, hd0.2.1, by have := tot0 hd0; omega⟩
          clear HRr hj hlt hd0
          go_wp2_with fail
          go_loopw [39] (fun v wr => ∃ i : Nat, i ≤ j ∧ v = .int .i64 i ∧ ∃ S, Hid (IXr w1 b S [] 1 wr)) (fun v _ => j - (intOf v).toNat)
          case atStart => exact ⟨0, Nat.zero_le _, rfl, _, HR3⟩
          case round =>
            obtain ⟨i, hi, rfl, S, HRr⟩ := hrel
            clear HR3
            by_cases hlt : i < j
            · skip
              obtain ⟨a, ha⟩ : ∃ a, ds[i]? = some a := ⟨_, List.getElem?_eq_getElem (by rw [HDS.out.len]; exact hlt)⟩
              obtain ⟨bb, off, hAe, hbb, hcl⟩ := HDS.out.cells (by omega)
              obtain ⟨own, hI⟩ := HRr.out.1
              have hbr := HBW.out _ hI.bel
              obtain ⟨q0, q1, q2, q3, q4, q5⟩ := hcl i a ha
              have y0 := (hbr.cell (p := ⟨bb, off + i * 6, none⟩) hbb).trans q0
              have y1 := (hbr.cell (p := ⟨bb, off + i * 6 + 1, none⟩) hbb).trans q1
              have y2 := (hbr.cell (p := ⟨bb, off + i * 6 + 2, none⟩) hbb).trans q2
              have y3 := (hbr.cell (p := ⟨bb, off + i * 6 + 3, none⟩) hbb).trans q3
              have y4 := (hbr.cell (p := ⟨bb, off + i * 6 + 4, none⟩) hbb).trans q4
              have y5 := (hbr.cell (p := ⟨bb, off + i * 6 + 5, none⟩) hbb).trans q5
              have HT := Lib.hid (HTR.out i a ha)
              obtain ⟨kd0, hok⟩ := HTOK.out i a ha
              have HOK := Lib.hid hok
              have HTK := Lib.hid (HTI.out i a ha)
              have HBR := Lib.hid hbr
              have HII := Lib.hid hI
              have hlt' : (i : Int) < j := by omega
              obtain ⟨TG, hTG⟩ : ∃ TG, TG = trgX a := ⟨_, rfl⟩
              rw [← hTG] at HT HOK HTK
              obtain ⟨op, kd, ⟨rA, rn, rc, rz⟩, six, bt, va⟩ := a
              unfold rowX at y2
              unfold actX rowX at HT
              simp only at y0 y1 y2 y3 y4 y5 HT
              subst hAe
              clear q0 q1 q2 q3 q4 q5 hcl ha hI hbr hok hTG hbb
              obtain ⟨WB, hWB⟩ : ∃ WB, WB = wr.alloc (.cells #[.int .u8 op, .int .u8 kd, .slice rA rn rc, .bool six, .int .u8 bt, .int .i64 va] 76) := ⟨_, rfl⟩
              obtain ⟨g, hg⟩ : ∃ g, g = wr.heap.size := ⟨_, rfl⟩
              have hal : Below wr.heap.size wr WB := by rw [hWB]; exact (Below.refl _ _).alloc (Nat.le_refl _) _
              have HGB : Hid (IXg w1 b S g [.int .u8 op, .int .u8 kd, .slice rA rn rc, .bool six, .int .u8 bt, .int .i64 va] WB) := Lib.hid ⟨own, HII.out.below hal, by rw [hWB, hg]; exact Cs.new wr _ _ _, fun e => by have := HII.out.lt g e; omega⟩
              have HBB := Lib.hid (HBR.out.trans (hal.mono HBR.out.size))
              have HSP := Lib.hid HRr.out.2
              have HR0 := HRr
              have hlb : ∀ wx S, IXg w1 b S g [.int .u8 op, .int .u8 kd, .slice rA rn rc, .bool six, .int .u8 bt, .int .i64 va] wx → Below w.heap.size w wx ∧ LaidT wx := fun wx S ⟨own, k1, _⟩ => ⟨HBW.out _ k1.bel, HL1.out.below k1.bel (Nat.le_refl _)⟩
              have HLB := Lib.hid hlb
              clear hal HII HRr HBR hlb own
              have hm0 : S.tot ≤ 0 := by have := tot0 HR0.out; omega
              have hs0 : Sup S [] := HSP.out.1
              have HM0 := Lib.hid hm0
              have HS0 := Lib.hid hs0
              clear hm0 hs0 HSP HR0
              go_upto_region 17 with fail
              clear y0 y1 y2 y3 y4 y5
              rw [← hWB, ← hg]
              clear hWB hg
              skip
              obtain ⟨oy, z1, z2, z3⟩ := HGB.out
              have y0 := z2.get 0 (.int .u8 op)
              have y1 := z2.get 1 (.int .u8 kd)
              have y2 := z2.get 2 (.slice rA rn rc)
              have y3 := z2.get 3 (.bool six)
              have y4 := z2.get 4 (.int .u8 bt)
              have y5 := z2.get 5 (.int .i64 va)
              have hbt := HBW.out _ z1.bel
              clear z1 z2 z3 oy
              go_wp2_with (go_at_call 26; refine (HT.out _ hbt).mono ?_; rintro e wt ⟨rfl, hbt2⟩; refine Hid.out ?_)
              refine Lib.hid ?_
              have HGT := Lib.hid (HGB.out.below hbt2)
              clear hbt2 hbt y0 y1 y2 y3 y4 y5 HGB
              have hg5 := HGT.out
              have hv := HS0.out.val TG
              have hp := del_round hg5 (HS0.out.more (Us := [TG]) (by simp)) HOK.out HM0.out (HLB.out _ _ hg5).2
              rw [hv] at hp
              have HPP := Lib.hid hp
              clear hp hv hg5 HS0 HM0
              go_wp2_with (go_at_call 27; refine HPP.out.mono ?_; rintro e w6 ⟨rfl, hI6, hS6, hm6⟩; refine Hid.out ?_)
              refine Lib.hid ?_
              have HG6 := Lib.hid hI6
              have HS6 := Lib.hid hS6
              have HM6 := Lib.hid hm6
              clear hI6 hS6 hm6 HPP HGT
              skip
              obtain ⟨oy, z1, z2, z3⟩ := HG6.out
              have y0 := z2.get 0 (.int .u8 op)
              have y1 := z2.get 1 (.int .u8 kd)
              have y2 := z2.get 2 (.slice rA rn rc)
              have y3 := z2.get 3 (.bool six)
              have y4 := z2.get 4 (.int .u8 bt)
              have y5 := z2.get 5 (.int .i64 va)
              have hbt := HBW.out _ z1.bel
              clear z1 z2 z3 oy
              go_wp2_with (go_at_call 26; refine (HT.out _ hbt).mono ?_; rintro e wt ⟨rfl, hbt2⟩; refine Hid.out ?_)
              refine Lib.hid ?_
              have HGT := Lib.hid (HG6.out.below hbt2)
              clear hbt2 hbt y0 y1 y2 y3 y4 y5 HG6
              have hg5 := HGT.out
              have hv := HS6.out.val TG
              obtain ⟨oo, z1, z2, z3⟩ := hg5
              have HVP : Hid (((S.del TG).put TG 3).val TG = some 3) := Lib.hid (by rw [IxS.val_put 3 z1.ok HOK.out.good.enc HOK.out.good.enc, if_pos rfl])
              clear z1 z2 z3 oo
              have hg5 := HGT.out
              have hp := put_round hg5 HS6.out (by simp) HOK.out HM6.out (by omega) (HLB.out _ _ hg5).2 3
              rw [hv] at hp
              have HPP := Lib.hid hp
              clear hp hv hg5 HS6 HM6
              go_wp2_with (go_at_call 28; refine HPP.out.mono ?_; rintro e w7 ⟨rfl, hI6, hS6, hm6⟩; refine Hid.out ?_)
              refine Lib.hid ?_
              have HG6 := Lib.hid hI6
              have HS6 := Lib.hid hS6
              have HM6 := Lib.hid hm6
              clear hI6 hS6 hm6 HPP HGT
              skip
              obtain ⟨oy, z1, z2, z3⟩ := HG6.out
              have y0 := z2.get 0 (.int .u8 op)
              have y1 := z2.get 1 (.int .u8 kd)
              have y2 := z2.get 2 (.slice rA rn rc)
              have y3 := z2.get 3 (.bool six)
              have y4 := z2.get 4 (.int .u8 bt)
              have y5 := z2.get 5 (.int .i64 va)
              have hbt := HBW.out _ z1.bel
              clear z1 z2 z3 oy
              go_wp2_with (go_at_call 26; refine (HT.out _ hbt).mono ?_; rintro e wt ⟨rfl, hbt2⟩; refine Hid.out ?_)
              refine Lib.hid ?_
              have HGT := Lib.hid (HG6.out.below hbt2)
              clear hbt2 hbt y0 y1 y2 y3 y4 y5 HG6
              have hg5 := HGT.out
              have hp := del_round hg5 HS6.out HOK.out HM6.out (HLB.out _ _ hg5).2
              rw [HVP.out] at hp
              have HPP := Lib.hid hp
              clear hp hg5 HS6 HM6 HVP
              go_wp2_with (go_at_call 27; refine HPP.out.mono ?_; rintro e w8 ⟨rfl, ⟨ow, hI6, hc6, ho6⟩, hS6, hm6⟩; refine Hid.out ?_)
              refine Lib.hid ?_
              have HN : Hid (IXr w1 b (((S.del TG).put TG 3).del TG) [] 1 w8) := Lib.hid ⟨⟨ow, hI6⟩, hS6, hm6⟩
              clear hI6 hS6 hm6 hc6 ho6 ow HPP HGT HLB HBB HT HOK HTK
              go_wp2_with fail
              go_roundw
              case rel => exact ⟨i + 1, by omega, by go_num, _, HN⟩
              case measure => simp [intOf]; omega
            · obtain rfl : i = j := by omega
              obtain ⟨⟨ow, hI⟩, hS, _⟩ := HRr.out
              have hl := len_index hI (by omega)
              rw [hI.len0 hS] at hl
              have HLN := Lib.hid hl
              have HIB := Lib.hid hI.bel
              clear hl hI hS HRr
              go_wp2_with (go_at_call 29; refine HLN.out.mono ?_; rintro e w9 ⟨rfl, hb9⟩; refine Hid.out ?_)
              refine Lib.hid ?_
              have HBF := Lib.hid (HBW.out _ (HIB.out.trans (hb9.mono HIB.out.size)))
              clear hb9 HLN HIB
              go_wp2_with fail
              go_ret
              exact ⟨rfl, HBF.out⟩
end Go.Proofs.YtkdknfedieeenaaGreatDoor
