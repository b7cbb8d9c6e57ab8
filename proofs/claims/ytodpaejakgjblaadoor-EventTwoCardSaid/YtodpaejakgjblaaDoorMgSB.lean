/- Texts that walks stand on, one behind the other. -/
import Derived.Test.YtodpaejakgjblaaDoorMgSA
import Derived.Test.YtodpaejakgjblaaDoorOwnM
import Derived.Test.YtodpaejakgjblaaDoorPfx
import Derived.Test.YtodpaejakgjblaaDoorPfxB
import Derived.Deep.DeepCutAuto
import Derived.Test.YtodpaejakgjblaaDoorOwnN
import Derived.WalkArith
import Derived.Test.YtodpaejakgjblaaDoorOwnG
import Derived.Test.YtodpaejakgjblaaDoorView
namespace Go.Proofs.YtodpaejakgjblaaDoor
open Go.RowKit
set_option linter.unusedVariables false
section
variable {P : Program} {ops : Array Oper} {Q : Exit → Act → World → Prop}
/-- Operations one behind the other. -/
def tailWp (P : Program) (Q : Exit → Act → World → Prop) : List Oper → Act → World → Prop
  | [], a, w => Q .normal a w
  | o :: os, a, w => Oper.wp P o a w (fun a' w' => ∃ v, a' = a.put o.dst v ∧ tailWp P Q os a' w') Q
/-- From N on each operation waits for all ahead of it. -/
def tailOk (ops : Array Oper) (N : Nat) : Bool :=
  ((List.range N).all fun i => reachX ops 20 i N) && ((List.range ops.size).all fun j => decide (j ≤ N) || reachX ops 20 (j - 1) j) && ((ops.toList.drop N).all fun o => o.guard.isNone) && decide (N < ops.size)
/-- As Next; an operation that is named fresh gives a block that is new. -/
def NextL (A : Act) (d : Option Tmp) (p : Value → World → Prop) (R : World → Prop) (L : List Nat) (i : Nat) (w : World) (a' : Act) (w' : World) : Prop :=
  ∃ v, a' = A.put d v ∧ p v w' ∧ R w' ∧ Goes w w' ∧ (L.contains i = true → v = .pointer (some ⟨w.heap.size, 0, none⟩) ∧ w.heap.size < w'.heap.size)
theorem nextL {A a' : Act} {d : Option Tmp} {p : Value → World → Prop} {R : World → Prop} {L : List Nat} {i : Nat} {w w' : World} (v : Value) (ha : a' = A.put d v) (hp : p v w') (hR : R w') (he : Goes w w') (hL : L.contains i = false := by rfl) : NextL A d p R L i w a' w' :=
  ⟨v, ha, hp, hR, he, fun h => by rw [hL] at h; cases h⟩
theorem nextL_new {A a' : Act} {d : Option Tmp} {p : Value → World → Prop} {R : World → Prop} {L : List Nat} {i : Nat} {w : World} (o : Obj) (ha : a' = A.put d (.pointer (some ⟨w.heap.size, 0, none⟩))) (hp : p (.pointer (some ⟨w.heap.size, 0, none⟩)) (w.alloc o)) (hR : R (w.alloc o)) : NextL A d p R L i w a' (w.alloc o) :=
  ⟨_, ha, hp, hR, (Below.refl _ _).alloc (Nat.le_refl _) _, fun _ => ⟨rfl, by simp⟩⟩
def OpStepL (P : Program) (ops : Array Oper) (Q : Exit → Act → World → Prop) (Ws : List (Value → World → Prop)) (R : World → Prop) (L : List Nat) (FF : (Nat → Value) → Act) (i : Nat) (o : Oper) : Prop :=
  ∀ (x : Nat → Value) (w : World), R w → Deps (wordOf Ws) x w o.after.toList → (wantedX o x = true → Oper.wp P o (FF x) w (NextL (FF x) o.dst (wordOf Ws i) R L i w) Q) ∧ (wantedX o x = false → wordOf Ws i undef w ∧ L.contains i = false)
def OpStepsL (P : Program) (ops : Array Oper) (Q : Exit → Act → World → Prop) (Ws : List (Value → World → Prop)) (R : World → Prop) (L : List Nat) (FF : (Nat → Value) → Act) (skip : Nat → Bool) : Nat → List Oper → Prop
  | _, [] => True
  | i, o :: os => (skip i = false → OpStepL P ops Q Ws R L FF i o) ∧ OpStepsL P ops Q Ws R L FF skip (i + 1) os
theorem OpStepsL.get {Ws : List (Value → World → Prop)} {R : World → Prop} {L : List Nat} {FF : (Nat → Value) → Act} {skip : Nat → Bool} : ∀ {l : List Oper} {k : Nat}, OpStepsL P ops Q Ws R L FF skip k l → ∀ i o, l[i]? = some o → skip (k + i) = false → OpStepL P ops Q Ws R L FF (k + i) o
  | [], _, _, i, o, h, _ => by simp at h
  | p :: l, k, hs, 0, o, h, hk => by simp at h; subst h; exact hs.1 hk
  | p :: l, k, hs, i + 1, o, h, hk => by
    have := OpStepsL.get hs.2 i o (by simpa using h) (by rwa [show k + 1 + i = k + (i + 1) by omega])
    rwa [show k + 1 + i = k + (i + 1) by omega] at this
/-- The blocks that are named fresh are there, and no two of them the same. -/
def Apart (L : List Nat) (d : Nat → Bool) (x : Nat → Value) (w : World) : Prop :=
  (∀ i ∈ L, d i = true → ∃ g, x i = .pointer (some ⟨g, 0, none⟩) ∧ g < w.heap.size) ∧ ∀ i ∈ L, ∀ j ∈ L, i ≠ j → d i = true → d j = true → x i ≠ x j
theorem Apart.next {L : List Nat} {d : Nat → Bool} {x : Nat → Value} {w w' : World} {i : Nat} {v : Value} (h : Apart L d x w) (hd : d i = false) (hs : w.heap.size ≤ w'.heap.size) (hv : L.contains i = true → v = .pointer (some ⟨w.heap.size, 0, none⟩) ∧ w.heap.size < w'.heap.size) :
    Apart L (setD d i) (fun j => if j = i then v else x j) w' := by
  refine ⟨fun j hj hdj => ?_, fun j hj k hk hjk hdj hdk => ?_⟩
  · by_cases hji : j = i
    · subst hji
      obtain ⟨h1, h2⟩ := hv (by simpa using hj)
      exact ⟨_, by simpa using h1, h2⟩
    · rw [setD_ne d hji] at hdj
      obtain ⟨g, h1, h2⟩ := h.1 j hj hdj
      exact ⟨g, by simpa [hji] using h1, by omega⟩
  · by_cases hji : j = i
    · subst hji
      have hkj : k ≠ j := fun e => hjk e.symm
      rw [setD_ne d hkj] at hdk
      obtain ⟨h1, h2⟩ := hv (by simpa using hj)
      obtain ⟨g, h3, h4⟩ := h.1 k hk hdk
      simp only [if_true, hkj, if_false]
      rw [h1, h3]
      intro e
      injection e with e; injection e with e; injection e with e
      omega
    · by_cases hki : k = i
      · subst hki
        rw [setD_ne d hjk] at hdj
        obtain ⟨h1, h2⟩ := hv (by simpa using hk)
        obtain ⟨g, h3, h4⟩ := h.1 j hj hdj
        simp only [if_true, hjk, if_false]
        rw [h1, h3]
        intro e
        injection e with e; injection e with e; injection e with e
        omega
      · rw [setD_ne d hji] at hdj
        rw [setD_ne d hki] at hdk
        simp only [hji, hki, if_false]
        exact h.2 j hj k hk hjk hdj hdk
theorem wp_region_tail {id : Nat} {base : Act} {w0 : World} (hm : P.follows .mixedOrders = true) {FF : (Nat → Value) → Act} (hFF : ∀ x, putsF x 0 (ops.toList.map (·.dst)) base = FF x) (R : World → Prop) (Ws : List (Value → World → Prop)) (N : Nat) (L : List Nat)
    (hn : noTwice (ops.toList.map (·.dst)) = true) (hg : guardsIn ops base.tmps.size = true) (hwf : wellFormed ops = true) (hlen : Ws.length = N) (htl : tailOk ops N = true) (hLN : (L.all fun i => decide (i < N)) = true)
    (stays : AllStay Ws) (start : R w0.drew)
    (steps : OpStepsL P ops Q Ws R L FF (fun i => decide (N ≤ i)) 0 ops.toList)
    (fin : ∀ (x : Nat → Value) (w : World), R w → AllWords Ws x w 0 Ws → (∀ i ∈ L, ∀ j ∈ L, i ≠ j → x i ≠ x j) → tailWp P Q (ops.toList.drop N) (FF x) w) :
    (Code.region id ops true).wp P Q base w0 := by
  unfold tailOk at htl
  simp only [Bool.and_eq_true, List.all_eq_true, List.mem_range, Bool.or_eq_true, decide_eq_true_eq] at htl
  obtain ⟨⟨⟨t1, t2⟩, t3⟩, t4⟩ := htl
  have hword : ∀ (i : Nat), ∀ v w w', wordOf Ws i v w → Goes w w' → wordOf Ws i v w' := by
    intro i v w w' hw he
    unfold wordOf at hw ⊢
    cases hp : Ws[i]? with
    | none => trivial
    | some p =>
      rw [hp] at hw
      exact stays.mem p (List.mem_of_getElem? hp) _ _ _ hw he
  refine wp_region_joint hm (fun d x w => ClosedX ops d ∧ (((∀ j, N ≤ j → j < ops.size → d j = false) ∧ R w ∧ Apart L d x w ∧ ∀ i, i < N → d i = true → wordOf Ws i (x i) w) ∨
    (∃ m, N < m ∧ m ≤ ops.size ∧ (∀ i, i < m → d i = true) ∧ (∀ i, m ≤ i → i < ops.size → d i = false) ∧ tailWp P Q (ops.toList.drop m) (FF x) w))) hn hwf ?_ ?_ ?_
  · exact fun x => ⟨fun j o _ h => (by cases h), .inl ⟨fun _ _ _ => rfl, start, ⟨fun _ _ h => (by cases h), fun _ _ _ _ _ h => (by cases h)⟩, by simp⟩⟩
  · rintro i hi d x w ⟨hcl, hJ⟩ hd hdeps
    have hoi : ops[i]? = some ops[i] := Array.getElem?_eq_getElem hi
    have hmem : ops[i] ∈ ops.toList := by simp
    have hsrc : SrcX ops d ops[i] := hdeps
    have hwant : Region.wanted ops[i] (yielded ops (putsF x 0 (ops.toList.map (·.dst)) base).tmps) = wantedX ops[i] x := wanted_eq hn hg ops[i] hmem x
    have hset : (fun j => if j = i then true else d j) = setD d i := rfl
    have hcl2 : ClosedX ops (setD d i) := by
      intro j o hj hdj e he hb
      by_cases hji : j = i
      · subst hji
        rw [hoi] at hj
        obtain rfl := Option.some.inj hj
        exact setD_le d _ _ (hdeps e he hb)
      · rw [setD_ne d hji] at hdj
        exact setD_le d _ _ (hcl j o hj hdj e he hb)
    have hprev : N < i → d (i - 1) = true := by
      intro hNi
      rcases t2 i hi with h | h
      · omega
      · rcases Nat.eq_or_lt_of_le (Nat.sub_le i 1) with h1 | h1
        · omega
        · exact hsrc.reach (K := i) hcl hoi 19 (i - 1) (by omega) h
    have hput : ∀ v, FF (fun j => if j = i then v else x j) = (FF x).put (ops[i]).dst v := by
      intro v
      have := putsF_set x (ops.toList.map (·.dst)) 0 i base (ops[i]).dst v hn (by simp [hi])
      rw [Nat.zero_add] at this
      rw [← hFF, ← hFF, this]
    have hdrop : ops.toList.drop i = ops[i] :: ops.toList.drop (i + 1) := by
      rw [List.drop_eq_getElem_cons (by simpa using hi)]
      simp
    -- an operation of the tail
    have run : N ≤ i → (∀ j, j < i → d j = true) → (∀ j, i ≤ j → j < ops.size → d j = false) → tailWp P Q (ops.toList.drop i) (FF x) w →
        if Region.wanted ops[i] (yielded ops (putsF x 0 (ops.toList.map (·.dst)) base).tmps) = true
        then Oper.wp P ops[i] (putsF x 0 (ops.toList.map (·.dst)) base) w (fun a' w' => ∃ v, a' = (putsF x 0 (ops.toList.map (·.dst)) base).put (ops[i]).dst v ∧ (ClosedX ops (fun j => if j = i then true else d j) ∧ (((∀ j, N ≤ j → j < ops.size → (fun j => if j = i then true else d j) j = false) ∧ R w' ∧ Apart L (fun j => if j = i then true else d j) (fun j => if j = i then v else x j) w' ∧ ∀ k, k < N → (fun j => if j = i then true else d j) k = true → wordOf Ws k ((fun j => if j = i then v else x j) k) w') ∨
          (∃ m, N < m ∧ m ≤ ops.size ∧ (∀ k, k < m → (fun j => if j = i then true else d j) k = true) ∧ (∀ k, m ≤ k → k < ops.size → (fun j => if j = i then true else d j) k = false) ∧ tailWp P Q (ops.toList.drop m) (FF (fun j => if j = i then v else x j)) w')))) Q
        else (ClosedX ops (fun j => if j = i then true else d j) ∧ (((∀ j, N ≤ j → j < ops.size → (fun j => if j = i then true else d j) j = false) ∧ R w ∧ Apart L (fun j => if j = i then true else d j) (fun j => if j = i then undef else x j) w ∧ ∀ k, k < N → (fun j => if j = i then true else d j) k = true → wordOf Ws k ((fun j => if j = i then undef else x j) k) w) ∨
          (∃ m, N < m ∧ m ≤ ops.size ∧ (∀ k, k < m → (fun j => if j = i then true else d j) k = true) ∧ (∀ k, m ≤ k → k < ops.size → (fun j => if j = i then true else d j) k = false) ∧ tailWp P Q (ops.toList.drop m) (FF (fun j => if j = i then undef else x j)) w))) := by
      intro hNi hbefore hbehind htw
      have hgn : (ops[i]).guard = none := by
        have := t3 ops[i] (by
          rw [List.mem_iff_getElem?]
          exact ⟨i - N, by rw [List.getElem?_drop, show N + (i - N) = i by omega]; simp [hi]⟩)
        simpa using this
      have hwt : Region.wanted ops[i] (yielded ops (putsF x 0 (ops.toList.map (·.dst)) base).tmps) = true := by unfold Region.wanted; rw [hgn]
      rw [if_pos hwt, hFF x]
      rw [hdrop] at htw
      unfold tailWp at htw
      refine Oper.wp_mono ?_ htw
      rintro a' w' ⟨v, rfl, ht⟩
      refine ⟨v, rfl, hcl2, .inr ⟨i + 1, by omega, by omega, fun k hk => ?_, fun k hk hks => ?_, ?_⟩⟩
      · by_cases hki : k = i
        · simp [hki]
        · simp [hki, hbefore k (by omega)]
      · simp [show k ≠ i by omega, hbehind k (by omega) hks]
      · rw [hput v]; exact ht
    rcases hJ with ⟨hno, hR, hAp, hw⟩ | ⟨m, hNm, hms, hyes, hno, htw⟩
    · rcases Nat.lt_or_ge i N with hiN | hiN
      · have hs := OpStepsL.get steps i ops[i] (by simp [hi]) (by simp; omega)
        rw [Nat.zero_add] at hs
        have hD : Deps (wordOf Ws) x w (ops[i]).after.toList := Deps.of (fun e he hb => by
          have hdon := hdeps e he hb
          have hlt : e.on < i := by
            unfold wellFormed at hwf
            rw [List.all_eq_true] at hwf
            have := hwf (ops[i], i) (by rw [List.mem_zipIdx_iff_getElem?]; simp [hi])
            simp only [Array.all_eq_true'] at this
            have := this e (by simpa using he)
            simpa [hb] using this
          exact hw _ (by omega) hdon)
        have := hs x w hR hD
        have put : ∀ v w', wordOf Ws i v w' → Goes w w' → ∀ j, j < N → setD d i j = true → wordOf Ws j (if j = i then v else x j) w' := by
          intro v w' hv he j hj hdj
          by_cases hji : j = i
          · subst hji; simpa using hv
          · rw [setD_ne d hji] at hdj
            rw [if_neg hji]
            exact hword j _ _ _ (hw j hj hdj) he
        have keep : ∀ j, N ≤ j → j < ops.size → setD d i j = false := fun j hj hjs => by rw [setD_ne d (by omega)]; exact hno j hj hjs
        rw [hwant, hFF x]
        split
        · rename_i hwt
          refine Oper.wp_mono ?_ (this.1 hwt)
          rintro a' w' ⟨v, rfl, hv, hR', he, hLv⟩
          exact ⟨v, rfl, hcl2, .inl ⟨keep, hR', hAp.next hd he.size hLv, put v w' hv he⟩⟩
        · rename_i hwt
          obtain ⟨h1, h2⟩ := this.2 (by simpa using hwt)
          exact ⟨hcl2, .inl ⟨keep, hR, hAp.next hd (Nat.le_refl _) (fun h => by rw [h2] at h; cases h), put undef w h1 (Below.refl _ _)⟩⟩
      · have hiN' : i = N := by
          rcases Nat.eq_or_lt_of_le hiN with h | h
          · exact h.symm
          · have := hprev h
            rw [hno (i - 1) (by omega) (by omega)] at this; cases this
        subst hiN'
        have hall : ∀ j, j < i → d j = true := fun j hj => hsrc.reach (K := i) hcl hoi 19 j (by omega) (t1 j hj)
        refine run (Nat.le_refl _) hall (fun j hj hjs => hno j hj hjs) (fin x w hR (allWords_of Ws 0 (fun j _ => by simp) (fun j hj => hw j (by omega) (hall j (by omega)))) (fun p hp q hq hpq => hAp.2 p hp q hq hpq (hall p (by rw [List.all_eq_true] at hLN; simpa using hLN p hp)) (hall q (by rw [List.all_eq_true] at hLN; simpa using hLN q hq))))
    · have him : i = m := by
        rcases Nat.lt_or_ge i m with h | h
        · rw [hyes i h] at hd; cases hd
        · rcases Nat.eq_or_lt_of_le h with h | h
          · exact h.symm
          · have := hprev (by omega)
            rw [hno (i - 1) (by omega) (by omega)] at this; cases this
      subst him
      exact run (by omega) hyes hno htw
  · rintro d x w hall ⟨hcl, hJ⟩
    rw [hFF x]
    rcases hJ with ⟨hno, -, -⟩ | ⟨m, hNm, hms, hyes, hno, htw⟩
    · have := hno N (Nat.le_refl _) t4
      rw [hall N t4] at this; cases this
    · have : m = ops.size := by
        rcases Nat.eq_or_lt_of_le hms with h | h
        · exact h
        · have := hno m (Nat.le_refl _) h
          rw [hall m h] at this; cases this
      subst this
      rw [List.drop_of_length_le (by simp)] at htw
      exact htw
end
end Go.Proofs.YtodpaejakgjblaaDoor
namespace Go.Proofs.YtodpaejakgjblaaDoor
open Go.RowKit
set_option linter.unusedVariables false
set_option linter.unusedSimpArgs false
set_option maxRecDepth 20000
attribute [local simp] putsF isV wordOf Deps Region.binds Region.wanted Act.put wantedX isB
theorem ev_follows : Tryd.prog.follows .mixedOrders = true := by kernel_rfl
theorem baL_app (x y : List UInt8) : baL (x ++ y) = baL x ++ baL y := by
  unfold baL
  apply ByteArray.ext
  simp [ByteArray.data_append]
theorem one_cells (w : World) (x : UInt8) (t : TypeId) : Txt (w.alloc (.cells #[.int .u8 x.toNat] t)) (some ⟨w.heap.size, 0, none⟩) 1 [x] := ⟨Sl.fresh w _ _ 1 _ rfl rfl, fun h => by cases h⟩
theorem two_cells (w : World) (x y : UInt8) (t : TypeId) : Txt (w.alloc (.cells #[.int .u8 x.toNat, .int .u8 y.toNat] t)) (some ⟨w.heap.size, 0, none⟩) 2 [x, y] := ⟨Sl.fresh w _ _ 2 _ rfl rfl, fun h => by cases h⟩

set_option maxHeartbeats 4000000 in
theorem evtext_any (s : ByteArray) (w : World) (hs : s.size ≤ 255) : Calls Tryd.prog 60 #[.string s] w fun e w' => e = .returned (.string (baL (lenB s.data.toList))) ∧ Below w.heap.size w w' := by
  have hu : IntKind.u8.wrap (s.size : Int) = s.size := by rw [IntKind.wrap_u8]; omega
  have hx : (s.size : Int) = ((UInt8.ofNat s.size).toNat : Nat) := by rw [UInt8.toNat_ofNat_of_lt' (by show _ < 256; omega)]
  have hcv := Txt.conv (P := Tryd.prog) (one_cells w (UInt8.ofNat s.size) 5) 22 9 5 Tryd.underlying22 Tryd.underlying5 Tryd.underlying9 1
  rw [← hx] at hcv
  obtain ⟨X, hX⟩ : ∃ X, X = baL [UInt8.ofNat s.size] := ⟨_, rfl⟩
  rw [show (⟨[UInt8.ofNat s.size].toArray⟩ : ByteArray) = X by rw [hX]; rfl] at hcv
  have hXs : X.size = 1 := by rw [hX]; rfl
  have hbig : ¬ 9223372036854775807 < X.size + s.size := by omega
  have hres : baL (lenB s.data.toList) = X ++ s := by
    have hl : lenB s.data.toList = [UInt8.ofNat s.size] ++ s.data.toList := by
      unfold lenB; rw [show s.data.toList.length = s.size by simp]; rfl
    rw [hl, baL_app, hX]
    congr 1

  rw [hres]
  clear hres hX hx
  go_enter Tryd.func60, Tryd.ntmps60
  go_wp2_with fail
  go_ret
  exact ⟨rfl, (Below.refl _ _).alloc (Nat.le_refl _) _⟩

theorem one_sl {w : World} {g n : Nat} (h : w.cell? ⟨g, 0, none⟩ = some (.int .u32 n)) : Sl w w.heap.size 1 (some ⟨g, 0, none⟩) 1 ([n].map v32) := ⟨rfl, fun _ => ⟨g, 0, rfl, World.block_lt_of_cell? w _ h, fun j u hu => by
  match j, hu with
  | 0, hu => simp at hu; rw [← hu]; exact h⟩⟩
theorem one_sl16 {w : World} {g n : Nat} (h : w.cell? ⟨g, 0, none⟩ = some (.int .u16 n)) : Sl w w.heap.size 1 (some ⟨g, 0, none⟩) 1 ([n].map v16) := ⟨rfl, fun _ => ⟨g, 0, rfl, World.block_lt_of_cell? w _ h, fun j u hu => by
  match j, hu with
  | 0, hu => simp at hu; rw [← hu]; exact h⟩⟩
set_option maxHeartbeats 16000000 in
theorem evbytes_any (T : Int) (C N : ByteArray) (ty z tk : Int) (TN TA : ByteArray) (tb ac : Int) (w : World) (hTN : TN.size ≤ 140737488355328) (hTA : TA.size ≤ 140737488355328) (hty : 0 ≤ ty ∧ ty < 65536) (hm : mayE (toE T C N ty z tk TN TA tb ac) = true) (hL : LaidT w) :
    Calls Tryd.prog 35 #[.agg #[.int .i64 T, .string C, .string N, .int .u16 ty, .int .i64 z, .int .i64 tk, .string TN, .string TA, .int .i64 tb, .int .i64 ac]] w fun e w' =>
      e = .returned (.string (baL (evB (toE T C N ty z tk TN TA tb ac)))) ∧ Below w.heap.size w w' := by
  obtain ⟨⟨rel, hrel, hrl⟩, ⟨t0, t1⟩, hcl, ⟨ls, hls, hnl⟩, ⟨z0, z1⟩, ⟨a0, a1⟩⟩ := mayE_iff.1 hm
  have hcl : C.size ≤ 16 := by have h : C.data.toList.length ≤ 16 := hcl; simpa using h
  have hnl : N.size ≤ 254 := by have h : N.data.toList.length ≤ 254 := hnl; simpa using h
  have hrel : encR (toT tk TN TA tb) = some rel := hrel
  have t0 : 0 ≤ T := t0
  have t1 : T ≤ 4294967295 := t1
  have z0 : 0 ≤ z := z0
  have z1 : z ≤ 31 := z1
  have a0 : 0 ≤ ac := a0
  have a1 : ac ≤ 8 := a1
  obtain ⟨y0, y1⟩ := hty
  have hev : evB (toE T C N ty z tk TN TA tb ac) = b32 T.toNat ++ (lenB C.data.toList ++ (lenB N.data.toList ++ (b16 ty.toNat ++ ([UInt8.ofNat z.toNat, UInt8.ofNat ac.toNat] ++ lenB rel)))) := by
    show b32 T.toNat ++ (lenB C.data.toList ++ (lenB N.data.toList ++ (b16 ty.toNat ++ (UInt8.ofNat z.toNat :: UInt8.ofNat ac.toNat :: lenB ((encR (toT tk TN TA tb)).getD []))))) = _
    rw [hrel]; rfl
  rw [hev]
  obtain ⟨R, hR⟩ : ∃ R, R = baL rel := ⟨_, rfl⟩
  have hRd : R.data.toList = rel := by rw [hR]; simp [baL]
  have hRs : R.size ≤ 254 := by have : R.size = R.data.toList.length := by simp
                                rw [hRd] at this; omega
  have henc : ∀ w, LaidT w → Calls Tryd.prog 21 #[.agg #[.int .i64 tk, .string TN, .string TA, .int .i64 tb]] w fun e w' => e = .returned (.tuple #[.string R, .bool true]) ∧ Below w.heap.size w w' := by
    intro w h
    have := encode_any tk TN TA tb w hTN hTA h
    rw [hrel] at this
    rw [hR]; exact this
  rw [← hRd]
  clear hev hls hrl hR hRd hrel hm hTN hTA
  obtain ⟨Tn, rfl⟩ := Int.eq_ofNat_of_zero_le t0
  obtain ⟨yn, rfl⟩ := Int.eq_ofNat_of_zero_le y0
  obtain ⟨zn, rfl⟩ := Int.eq_ofNat_of_zero_le z0
  obtain ⟨an, rfl⟩ := Int.eq_ofNat_of_zero_le a0
  simp only [Int.toNat_natCast]
  have wT : IntKind.u32.wrap (Tn : Int) = Tn := by rw [IntKind.wrap_u32]; omega
  have wz : IntKind.u8.wrap (zn : Int) = zn := by rw [IntKind.wrap_u8]; omega
  have wa : IntKind.u8.wrap (an : Int) = an := by rw [IntKind.wrap_u8]; omega
  obtain ⟨X1, hX1⟩ : ∃ X, X = baL (b32 Tn) := ⟨_, rfl⟩
  obtain ⟨X2, hX2⟩ : ∃ X, X = baL (lenB C.data.toList) := ⟨_, rfl⟩
  obtain ⟨X3, hX3⟩ : ∃ X, X = baL (lenB N.data.toList) := ⟨_, rfl⟩
  obtain ⟨X4, hX4⟩ : ∃ X, X = baL (b16 yn) := ⟨_, rfl⟩
  obtain ⟨X5, hX5⟩ : ∃ X, X = baL [UInt8.ofNat zn, UInt8.ofNat an] := ⟨_, rfl⟩
  obtain ⟨X6, hX6⟩ : ∃ X, X = baL (lenB R.data.toList) := ⟨_, rfl⟩
  have s1 : X1.size = 4 := by rw [hX1]; rfl
  have s2 : X2.size = C.size + 1 := by rw [hX2, baL_size, lenB_length]; simp
  have s3 : X3.size = N.size + 1 := by rw [hX3, baL_size, lenB_length]; simp
  have s4 : X4.size = 2 := by rw [hX4]; rfl
  have s5 : X5.size = 2 := by rw [hX5]; rfl
  have s6 : X6.size = R.size + 1 := by rw [hX6, baL_size, lenB_length]; simp
  have hres : baL (b32 Tn ++ (lenB C.data.toList ++ (lenB N.data.toList ++ (b16 yn ++ ([UInt8.ofNat zn, UInt8.ofNat an] ++ lenB R.data.toList))))) = X1 ++ X2 ++ X3 ++ X4 ++ X5 ++ X6 := by
    rw [hX1, hX2, hX3, hX4, hX5, hX6]
    simp only [← baL_app, List.append_assoc]
  rw [hres]
  have HT1 := Lib.hid (fun w => evtext_any C w (by omega))
  have HT2 := Lib.hid (fun w => evtext_any N w (by omega))
  have HT3 := Lib.hid (fun w => evtext_any R w (by omega))
  rw [← hX2] at HT1
  rw [← hX3] at HT2
  rw [← hX6] at HT3
  have b1 : (X1 ++ X2).size = X1.size + X2.size := by simp
  have b2 : (X1 ++ X2 ++ X3).size = X1.size + X2.size + X3.size := by simp
  have b3 : (X1 ++ X2 ++ X3 ++ X4).size = X1.size + X2.size + X3.size + X4.size := by simp
  have b4 : (X1 ++ X2 ++ X3 ++ X4 ++ X5).size = X1.size + X2.size + X3.size + X4.size + X5.size := by simp
  have n1 : ¬ 9223372036854775807 < X1.size + X2.size := by omega
  have n2 : ¬ 9223372036854775807 < X1.size + X2.size + X3.size := by omega
  have n3 : ¬ 9223372036854775807 < X1.size + X2.size + X3.size + X4.size := by omega
  have n4 : ¬ 9223372036854775807 < X1.size + X2.size + X3.size + X4.size + X5.size := by omega
  have n5 : ¬ 9223372036854775807 < X1.size + X2.size + X3.size + X4.size + X5.size + X6.size := by omega
  have N1 := Lib.hid n1
  have N2 := Lib.hid n2
  have N3 := Lib.hid n3
  have N4 := Lib.hid n4
  have N5 := Lib.hid n5
  have hX1v : sv (b32 Tn) = .string X1 := by rw [hX1]; rfl
  have hX4v : sv (b16 yn) = .string X4 := by rw [hX4]; rfl
  have hX5v : sv [UInt8.ofNat zn, UInt8.ofNat an] = .string X5 := by rw [hX5]; rfl
  have zx : (zn : Int) = ((UInt8.ofNat zn).toNat : Nat) := by rw [UInt8.toNat_ofNat_of_lt' (by show _ < 256; omega)]
  have ax : (an : Int) = ((UInt8.ofNat an).toNat : Nat) := by rw [UInt8.toNat_ofNat_of_lt' (by show _ < 256; omega)]
  have HX1 := Lib.hid hX1v
  have HX4 := Lib.hid hX4v
  have HX5 := Lib.hid hX5v
  have HZX := Lib.hid zx
  have HAX := Lib.hid ax
  have HENC := Lib.hid henc
  have hC1 := Cs.new w #[.int .i64 Tn, .string C, .string N, .int .u16 yn, .int .i64 zn, .int .i64 tk, .string TN, .string TA, .int .i64 tb, .int .i64 an] 68 [.int .i64 Tn, .string C, .string N, .int .u16 yn, .int .i64 zn, .int .i64 tk, .string TN, .string TA, .int .i64 tb, .int .i64 an]
  have hB1 := (Below.refl w.heap.size w).alloc (Nat.le_refl _) (.cells #[.int .i64 Tn, .string C, .string N, .int .u16 yn, .int .i64 zn, .int .i64 tk, .string TN, .string TA, .int .i64 tb, .int .i64 an] 68)
  have HC1 := Lib.hid hC1
  have HB1 := Lib.hid hB1
  have HL1 := Lib.hid (hL.below hB1 (Nat.le_refl _))
  clear hC1 hB1 hL henc hres b1 b2 b3 b4 n1 n2 n3 n4 n5 hX1 hX2 hX3 hX4 hX5 hX6 hX1v hX4v hX5v zx ax s1 s2 s3 s4 s5 s6
  go_enter Tryd.func35, Tryd.ntmps35
  go_upto_region 1 with fail
  generalize w.alloc (.cells #[.int .i64 Tn, .string C, .string N, .int .u16 yn, .int .i64 zn, .int .i64 tk, .string TN, .string TA, .int .i64 tb, .int .i64 an] 68) = W1 at HC1 HB1 HL1 ⊢
  have c5 := HC1.out.get 5 (.int .i64 tk)
  have c6 := HC1.out.get 6 (.string TN)
  have c7 := HC1.out.get 7 (.string TA)
  have c8 := HC1.out.get 8 (.int .i64 tb)
  go_wp2_with (go_at_call 21; refine (HENC.out _ HL1.out).mono ?_; rintro e w3 ⟨rfl, hb3⟩; refine Hid.out ?_)
  refine Lib.hid ?_
  have HB3 := Lib.hid (HB1.out.trans (hb3.mono HB1.out.size))
  have HC3 := Lib.hid (HC1.out.below hb3)
  clear c5 c6 c7 c8 hb3 HC1 HB1 HL1 HENC
  go_upto_region 3 with fail
  refine wp_region_goesG ev_follows (fun x => by simp [putsF, Act.put]; rfl) w3.heap.size w3
    [isV (.pointer (some ⟨w.heap.size, 0, none⟩)), isV (.int .i64 Tn), isV (.int .u32 Tn), one (.int .u32 Tn), txt (b32 Tn), isV (.string (X1)), isV (.func (.func 60) #[] #[]), isV (.pointer (some ⟨w.heap.size, 1, none⟩)), isV (.string (C)), isV (.string (X2)), isV (.string (X1 ++ X2)), isV (.func (.func 60) #[] #[]), isV (.pointer (some ⟨w.heap.size, 2, none⟩)), isV (.string (N)), isV (.string (X3)), isV (.string (X1 ++ X2 ++ X3)), isV (.pointer (some ⟨w.heap.size, 3, none⟩)), isV (.int .u16 yn), one (.int .u16 yn), txt (b16 yn), isV (.string (X4)), isV (.string (X1 ++ X2 ++ X3 ++ X4)), isV (.pointer (some ⟨w.heap.size, 4, none⟩)), isV (.int .i64 zn), isV (.int .u8 zn), isV (.pointer (some ⟨w.heap.size, 9, none⟩)), isV (.int .i64 an), isV (.int .u8 an), txt [UInt8.ofNat zn, UInt8.ofNat an], isV (.string (X5)), isV (.string (X1 ++ X2 ++ X3 ++ X4 ++ X5)), isV (.func (.func 60) #[] #[]), isV (.string (R)), isV (.string (X6)), isV (.string (X1 ++ X2 ++ X3 ++ X4 ++ X5 ++ X6)), isV (.string (X1 ++ X2 ++ X3 ++ X4 ++ X5 ++ X6))]
    (by kernel_rfl) (by kernel_rfl) (by kernel_rfl) rfl ?_ (Below.refl _ _) ?_ ?_
  · repeat (first | exact trivial | refine ⟨by first | exact isV_stays _ | exact one_stays _ | exact txt_stays _, ?_⟩)
  · refine ⟨?_, ?_, ?_, ?_, ?_, ?_, ?_, ?_, ?_, ?_, ?_, ?_, ?_, ?_, ?_, ?_, ?_, ?_, ?_, ?_, ?_, ?_, ?_, ?_, ?_, ?_, ?_, ?_, ?_, ?_, ?_, ?_, ?_, ?_, ?_, ?_, trivial⟩
    all_goals
      intro x wx hR hd
      refine ⟨fun _ => ?_, fun hX => by simp at hX⟩
      simp at hd ⊢
    · go_simp; exact next_same _ rfl rfl hR
    · have hc := HC3.out.below hR
      have k := hc.get 0 (.int .i64 Tn)
      clear hc
      go_simp; exact next_same _ rfl rfl hR
    · go_simp; exact next_same _ rfl rfl hR
    · go_simp; exact next_alloc _ _ rfl (one_new _ _ _) hR hR.size
    · obtain ⟨g, hxv, hcl⟩ := hd
      rw [hxv]
      go_simp
      go_at_call 55
      refine (put32_any none 0 0 [] _ 1 1 [Tn] wx (Sl.nil _ _ _ _) (fun _ => ⟨rfl, rfl⟩) (one_sl hcl) (by intro x hx; simp at hx; omega) (by omega)).mono ?_
      rintro e wy ⟨g5, rfl, hown, hby⟩
      exact next_call _ rfl ⟨_, _, _, rfl, by simpa using Txt.of_own hown⟩ hR hR.size hby
    · obtain ⟨A, n, c, hxv, htx⟩ := hd
      rw [hxv]
      have hcv := Txt.conv (P := Tryd.prog) htx 22 9 5 Tryd.underlying22 Tryd.underlying5 Tryd.underlying9 c
      rw [sv_eq, HX1.out] at hcv
      go_simp; exact next_same _ rfl rfl hR
    · go_simp; exact next_same _ rfl rfl hR
    · go_simp; exact next_same _ rfl rfl hR
    · have hc := HC3.out.below hR
      have k := hc.get 1 (.string C)
      clear hc
      go_simp; exact next_same _ rfl rfl hR
    · try obtain ⟨hd1, hd2⟩ := hd
      go_simp
      go_at_call 60
      refine (HT1.out _).mono ?_
      rintro e wy ⟨rfl, hby⟩
      exact next_call _ rfl rfl hR hR.size hby
    · have hn := N1.out
      obtain ⟨hd1, hd2⟩ := hd
      go_simp; exact next_same _ rfl rfl hR
    · go_simp; exact next_same _ rfl rfl hR
    · go_simp; exact next_same _ rfl rfl hR
    · have hc := HC3.out.below hR
      have k := hc.get 2 (.string N)
      clear hc
      go_simp; exact next_same _ rfl rfl hR
    · try obtain ⟨hd1, hd2⟩ := hd
      go_simp
      go_at_call 60
      refine (HT2.out _).mono ?_
      rintro e wy ⟨rfl, hby⟩
      exact next_call _ rfl rfl hR hR.size hby
    · have hn := N2.out
      obtain ⟨hd1, hd2⟩ := hd
      go_simp; exact next_same _ rfl rfl hR
    · go_simp; exact next_same _ rfl rfl hR
    · have hc := HC3.out.below hR
      have k := hc.get 3 (.int .u16 yn)
      clear hc
      go_simp; exact next_same _ rfl rfl hR
    · go_simp; exact next_alloc _ _ rfl (one_new _ _ _) hR hR.size
    · obtain ⟨⟨g, hxv, hcl⟩, -⟩ := hd
      rw [hxv]
      go_simp
      go_at_call 57
      refine (put16_any none 0 0 [] _ 1 1 [yn] wx (Sl.nil _ _ _ _) (fun _ => ⟨rfl, rfl⟩) (one_sl16 hcl) (by intro x hx; simp at hx; omega) (by omega)).mono ?_
      rintro e wy ⟨g5, rfl, hown, hby⟩
      exact next_call _ rfl ⟨_, _, _, rfl, by simpa using Txt.of_own hown⟩ hR hR.size hby
    · obtain ⟨A, n, c, hxv, htx⟩ := hd
      rw [hxv]
      have hcv := Txt.conv (P := Tryd.prog) htx 22 9 5 Tryd.underlying22 Tryd.underlying5 Tryd.underlying9 c
      rw [sv_eq, HX4.out] at hcv
      go_simp; exact next_same _ rfl rfl hR
    · have hn := N3.out
      obtain ⟨hd1, hd2⟩ := hd
      go_simp; exact next_same _ rfl rfl hR
    · go_simp; exact next_same _ rfl rfl hR
    · have hc := HC3.out.below hR
      have k := hc.get 4 (.int .i64 zn)
      clear hc
      go_simp; exact next_same _ rfl rfl hR
    · go_simp; exact next_same _ rfl rfl hR
    · go_simp; exact next_same _ rfl rfl hR
    · have hc := HC3.out.below hR
      have k := hc.get 9 (.int .i64 an)
      clear hc
      go_simp; exact next_same _ rfl rfl hR
    · go_simp; exact next_same _ rfl rfl hR
    · obtain ⟨hd1, hd2⟩ := hd
      go_simp
      have hz := HZX.out
      have ha := HAX.out
      rw [hz, ha]
      exact next_alloc _ _ rfl ⟨_, _, _, rfl, two_cells _ _ _ _⟩ hR hR.size
    · obtain ⟨A, n, c, hxv, htx⟩ := hd
      rw [hxv]
      have hcv := Txt.conv (P := Tryd.prog) htx 22 9 5 Tryd.underlying22 Tryd.underlying5 Tryd.underlying9 c
      rw [sv_eq, HX5.out] at hcv
      go_simp; exact next_same _ rfl rfl hR
    · have hn := N4.out
      obtain ⟨hd1, hd2⟩ := hd
      go_simp; exact next_same _ rfl rfl hR
    · go_simp; exact next_same _ rfl rfl hR
    · go_simp; exact next_same _ rfl rfl hR
    · try obtain ⟨hd1, hd2⟩ := hd
      go_simp
      go_at_call 60
      refine (HT3.out _).mono ?_
      rintro e wy ⟨rfl, hby⟩
      exact next_call _ rfl rfl hR hR.size hby
    · have hn := N5.out
      obtain ⟨hd1, hd2⟩ := hd
      go_simp; exact next_same _ rfl rfl hR
    · go_simp; exact next_same _ rfl rfl hR
  intro x w4 hR hx
  simp [AllWords] at hx
  have hx35 : x 35 = .string (X1 ++ X2 ++ X3 ++ X4 ++ X5 ++ X6) := by simp [hx]
  clear hx
  rw [hx35]
  have HB4 := Lib.hid (HB3.out.trans (hR.mono HB3.out.size))
  clear hx35 hR
  go_wp2_with fail
  go_ret
  exact ⟨rfl, HB4.out⟩
end Go.Proofs.YtodpaejakgjblaaDoor
namespace Go.Proofs.YtodpaejakgjblaaDoor
open Go.RowKit
set_option linter.unusedVariables false
set_option linter.unusedSimpArgs false
set_option maxRecDepth 20000

set_option maxHeartbeats 16000000 in
theorem evlmay_any (T : Int) (C N : ByteArray) (ty z tk : Int) (TN TA : ByteArray) (tb ac : Int) (w : World) (hC : C.size ≤ 140737488355328) (hN : N.size ≤ 140737488355328) (hTN : TN.size ≤ 140737488355328) (hTA : TA.size ≤ 140737488355328) (hL : LaidT w) :
    Calls Tryd.prog 33 #[.agg #[.int .i64 T, .string C, .string N, .int .u16 ty, .int .i64 z, .int .i64 tk, .string TN, .string TA, .int .i64 tb, .int .i64 ac]] w fun e w' =>
      e = .returned (.bool (mayE (toE T C N ty z tk TN TA tb ac))) ∧ Below w.heap.size w w' := by
  have henc := fun w h => encode_any tk TN TA tb w hTN hTA h
  have hmy := fun w => may_any N w (by unfold maxLen; omega)
  have hme : mayE (toE T C N ty z tk TN TA tb ac) = ((encR (toT tk TN TA tb)).isSome && inE T 4294967295 && decide (C.size ≤ 16) && (labelsOf N).isSome && inE z 31 && inE ac 8) := by
    show (_ && _ && decide (C.data.toList.length ≤ 16) && _ && _ && _) = _
    rw [show C.data.toList.length = C.size by simp]; rfl
  have henc : ∀ w, LaidT w → Calls Tryd.prog 21 #[.agg #[.int .i64 tk, .string TN, .string TA, .int .i64 tb]] w fun e w' => (∃ NB, e = .returned (.tuple #[.string NB, .bool (encR (toT tk TN TA tb)).isSome])) ∧ Below w.heap.size w w' := by
    intro w h
    refine (henc w h).mono ?_
    rintro e w' ⟨rfl, hb⟩
    refine ⟨?_, hb⟩
    show ∃ NB, Ending.returned (encV (encR (toT tk TN TA tb))) = _
    cases encR (toT tk TN TA tb) with
    | none => exact ⟨_, rfl⟩
    | some x => exact ⟨_, rfl⟩
  rw [hme]
  generalize (encR (toT tk TN TA tb)).isSome = b0 at henc ⊢
  obtain ⟨b3, hb3⟩ : ∃ b, b = (labelsOf N).isSome := ⟨_, rfl⟩
  rw [← hb3] at hmy ⊢
  have HENC := Lib.hid henc
  have HMY := Lib.hid hmy
  have hC1 := Cs.new w #[.int .i64 T, .string C, .string N, .int .u16 ty, .int .i64 z, .int .i64 tk, .string TN, .string TA, .int .i64 tb, .int .i64 ac] 68 _
  have hB1 := (Below.refl w.heap.size w).alloc (Nat.le_refl _) (.cells #[.int .i64 T, .string C, .string N, .int .u16 ty, .int .i64 z, .int .i64 tk, .string TN, .string TA, .int .i64 tb, .int .i64 ac] 68)
  have HC1 := Lib.hid hC1
  have HB1 := Lib.hid hB1
  have HL1 := Lib.hid (hL.below hB1 (Nat.le_refl _))
  clear henc hmy hC1 hB1 hL hb3 hme hN hTN hTA
  go_enter Tryd.func33, Tryd.ntmps33
  go_upto_region 1 with fail
  generalize w.alloc (.cells #[.int .i64 T, .string C, .string N, .int .u16 ty, .int .i64 z, .int .i64 tk, .string TN, .string TA, .int .i64 tb, .int .i64 ac] 68) = W1 at HC1 HB1 HL1 ⊢
  have c5 := HC1.out.get 5 (.int .i64 tk)
  have c6 := HC1.out.get 6 (.string TN)
  have c7 := HC1.out.get 7 (.string TA)
  have c8 := HC1.out.get 8 (.int .i64 tb)
  go_wp2_with (go_at_call 21; refine (HENC.out _ HL1.out).mono ?_; rintro e w2 ⟨⟨NB, rfl⟩, hb2⟩; refine Hid.out ?_)
  refine Lib.hid ?_
  have HB2 := Lib.hid (HB1.out.trans (hb2.mono HB1.out.size))
  have HC2 := Lib.hid (HC1.out.below hb2)
  clear c5 c6 c7 c8 hb2 HC1 HB1 HL1 HENC
  have c0 := HC2.out.get 0 (.int .i64 T)
  have c1 := HC2.out.get 1 (.string C)
  have c2 := HC2.out.get 2 (.string N)
  cases b0 with
  | false =>
    go_wp2_with fail
    go_ret
    exact ⟨by simp, HB2.out⟩
  | true =>
  by_cases h1 : 0 ≤ T
  rotate_left
  · have h1f : T < 0 := by omega
    have e1 : inE T 4294967295 = false := by simp [inE, h1]
    go_wp2_with fail
    go_ret
    exact ⟨by simp [e1], HB2.out⟩
  by_cases h2 : T < 4294967296
  rotate_left
  · have e1 : inE T 4294967295 = false := by simp [inE]; omega
    go_wp2_with fail
    go_ret
    exact ⟨by simp [e1], HB2.out⟩
  have e1 : inE T 4294967295 = true := by simp [inE]; omega
  by_cases hc : C.size ≤ 16
  rotate_left
  · have hci : ¬ ((C.size : Int) ≤ 16) := by omega
    go_wp2_with fail
    go_ret
    exact ⟨by simp [e1, hc], HB2.out⟩
  have hci : (C.size : Int) ≤ 16 := by omega
  cases b3 with
  | false =>
    go_wp2_with (go_at_call 27; refine (HMY.out _).mono ?_; rintro e w4 ⟨rfl, hq4⟩)
    go_ret
    exact ⟨by simp [e1, hc], HB2.out.trans (hq4.mono HB2.out.size)⟩
  | true =>
  go_wp2_with (go_at_call 27; refine (HMY.out _).mono ?_; rintro e w4 ⟨rfl, hq4⟩; refine Hid.out ?_)
  refine Lib.hid ?_
  have hC4 := HC2.out.below hq4
  have HB4 := Lib.hid (HB2.out.trans (hq4.mono HB2.out.size))
  clear c0 c1 c2
  have c4 := hC4.get 4 (.int .i64 z)
  have c9 := hC4.get 9 (.int .i64 ac)
  clear hC4 hq4 HC2 HB2 HMY
  by_cases h5 : 0 ≤ z
  rotate_left
  · have e4 : inE z 31 = false := by simp [inE, h5]
    go_wp2_with fail
    go_ret
    exact ⟨by simp [e1, e4, hc], HB4.out⟩
  by_cases h6 : z < 32
  rotate_left
  · have e4 : inE z 31 = false := by simp [inE]; omega
    go_wp2_with fail
    go_ret
    exact ⟨by simp [e1, e4, hc], HB4.out⟩
  have e4 : inE z 31 = true := by simp [inE]; omega
  by_cases h7 : 0 ≤ ac
  rotate_left
  · have e5 : inE ac 8 = false := by simp [inE, h7]
    go_wp2_with fail
    go_ret
    exact ⟨by simp [e1, e4, e5, hc], HB4.out⟩
  by_cases h8 : ac < 9
  rotate_left
  · have e5 : inE ac 8 = false := by simp [inE]; omega
    go_wp2_with fail
    go_ret
    exact ⟨by simp [e1, e4, e5, hc], HB4.out⟩
  have e5 : inE ac 8 = true := by simp [inE]; omega
  go_wp2_with fail
  go_ret
  exact ⟨by simp [e1, e4, e5, hc], HB4.out⟩
end Go.Proofs.YtodpaejakgjblaaDoor
namespace Go.Proofs.YtodpaejakgjblaaDoor
set_option linter.unusedVariables false

theorem dig_ok : ∀ k : Fin 16, isUp (dig k.val) = false := by decide +kernel
theorem digsF_ok (b : Nat) (hb : 2 ≤ b ∧ b ≤ 16) : ∀ (f n : Nat), n < b ^ (f + 1) → (digsF f b n).all (fun c => !isUp c) = true
  | 0, n, h => by
    have hn : n < 16 := by rw [Nat.zero_add, Nat.pow_one] at h; omega
    have := dig_ok ⟨n, hn⟩
    simp only at this
    simp [digsF, this]
  | f + 1, n, h => by
    rw [digsF]
    split
    · have hn : n < 16 := by omega
      have := dig_ok ⟨n, hn⟩
      simp only at this
      simp [this]
    · have h1 := digsF_ok b hb f (n / b) (Nat.div_lt_of_lt_mul (by rw [Nat.mul_comm]; rw [Nat.pow_succ] at h; exact h))
      have h2 : n % b < 16 := by have := Nat.mod_lt n (show 0 < b by omega); omega
      have := dig_ok ⟨n % b, h2⟩
      simp only at this
      rw [List.all_append, h1]
      simp [this]
theorem digs_label {f b n : Nat} (hb : 2 ≤ b ∧ b ≤ 16) (h : n < b ^ (f + 1)) (hf : f ≤ 3) : okLabel (digsF f b n) = true ∧ (digsF f b n).length ≤ 4 := by
  have h1 := digsF_len f b n
  have h2 : 1 ≤ (digsF f b n).length := List.length_pos_iff.2 (digsF_ne f b n)
  refine ⟨?_, by omega⟩
  unfold okLabel
  rw [digsF_ok b hb f n h]
  simp; omega
theorem dec_label {n : Nat} (h : n < 256) : okLabel (dec n) = true ∧ (dec n).length ≤ 4 := digs_label (by omega) (by omega) (by omega)
theorem hex_label {n : Nat} (h : n < 65536) : okLabel (hex n) = true ∧ (hex n).length ≤ 4 := digs_label (by omega) (by omega) (by omega)
theorem prefix_labels {a : List UInt8} {bits : Int} : ∀ x ∈ prefixR a bits, okLabel x = true ∧ x.length ≤ 4 := by
  intro y hy
  unfold prefixR at hy
  split at hy
  · rename_i hm
    obtain ⟨h1, h2, h3⟩ := isCut_four (mayP_cut hm)
    unfold prefixL at hy
    simp only [List.mem_cons, List.mem_reverse] at hy
    rcases hy with rfl | hy
    · exact dec_label (by rcases h1 with h1 | h1 <;> rw [h1] at h3 <;> omega)
    · unfold body at hy
      split at hy
      · unfold body6 at hy
        obtain ⟨o, _, rfl⟩ := List.mem_map.1 hy
        cases o with
        | none => exact ⟨show okLabel zz = true by decide, show zz.length ≤ 4 by decide⟩
        | some k =>
          refine hex_label ?_
          rw [List.getD_eq_getElem?_getD]
          rcases Nat.lt_or_ge k (wordsL a).length with hk | hk
          · rw [List.getElem?_eq_getElem hk]; exact wordsL_lt a _ (List.getElem_mem hk)
          · rw [List.getElem?_eq_none hk]; simp
      · obtain ⟨c, _, rfl⟩ := List.mem_map.1 hy
        exact dec_label c.toNat_lt
  · cases hy
theorem short_wire : ∀ (ls : List (List UInt8)) (m : Nat), (∀ x ∈ ls, x.length ≤ m) → (wire ls).length ≤ (m + 1) * ls.length
  | [], _, _ => by simp [wire]
  | l :: ls, m, h => by
    have h1 := short_wire ls m (fun x hx => h x (by simp [hx]))
    have h2 := h l (by simp)
    rw [wire_cons]
    simp only [List.length_append, List.length_cons]
    rw [Nat.mul_add]
    omega
/-- A trigger whose labels are a name's, and are read as it. -/
structure GoodT (t : Trig) : Prop where
  ok : OkLs (labT t)
  ne : labT t ≠ []
  dec : decL (labT t) = some t
theorem GoodT.enc {t : Trig} (h : GoodT t) : encR t = some (wire (labT t)) := enc_of_dec h.ok h.ne h.dec
theorem GoodT.dec' {t : Trig} (h : GoodT t) : decR (wire (labT t)) = some t := dec_enc h.enc
theorem GoodT.labels {t : Trig} (h : GoodT t) : nameLabels (wire (labT t)) = some (labT t) := h.ok.labels
theorem getLastD_snoc {α : Type} (l : List α) (x d : α) : (l ++ [x]).getLastD d = x := by rw [List.getLastD_eq_getLast?]; simp
theorem good_pfx {k : Int} {a : List UInt8} {bits : Int} (hm : mayP a bits = true) (hk : k = 0 ∨ k = 3 ∨ k = 6) : GoodT ⟨k, [], a, bits⟩ := by
  obtain ⟨c, hc, hck, hl⟩ : ∃ c, (c = cClient ∨ c = cAnswer ∨ c = cNsip) ∧ kindOf c = some k ∧ labT ⟨k, [], a, bits⟩ = prefixR a bits ++ [c] := by
    rcases hk with rfl | rfl | rfl
    · exact ⟨cClient, .inl rfl, rfl, rfl⟩
    · exact ⟨cAnswer, .inr (.inl rfl), rfl, rfl⟩
    · exact ⟨cNsip, .inr (.inr rfl), rfl, rfl⟩
  have hcl : okLabel c = true ∧ c.length ≤ 13 := by rcases hc with rfl | rfl | rfl <;> decide
  have hpl := prefixR_len a bits
  refine ⟨?_, ?_, ?_⟩
  · rw [hl]
    refine ⟨?_, ?_⟩
    · intro x hx
      simp only [List.mem_append, List.mem_cons, List.not_mem_nil, or_false] at hx
      rcases hx with hx | rfl
      · exact (prefix_labels x hx).1
      · exact hcl.1
    · rw [wire_append, List.length_append]
      have h1 := short_wire (prefixR a bits) 4 (fun x hx => (prefix_labels x hx).2)
      have h2 := short_wire [c] 13 (by intro x hx; simp at hx; subst hx; exact hcl.2)
      simp only [List.length_cons, List.length_nil] at h2
      omega
  · rw [hl]; simp
  · rw [hl]
    unfold decL
    rw [getLastD_snoc, hck, List.dropLast_concat]
    simp only
    rw [if_neg (by rcases hk with rfl | rfl | rfl <;> decide), addr_prefix hm]
    rfl
def five : List (List UInt8) := [[97], [98], [119, 119, 119], [101, 120], [111, 114, 103]]
theorem five_ok : ∀ x ∈ five, okLabel x = true ∧ x ≠ star ∧ kindOf x = none ∧ x.length ≤ 3 := by decide
/-- Labels of the five, five at most. -/
structure FewX (X : List (List UInt8)) : Prop where
  mem : ∀ x ∈ X, x ∈ five
  len : X.length ≤ 5
theorem FewX.ok {X : List (List UInt8)} (h : FewX X) : OkLs X := by
  refine ⟨fun x hx => (five_ok x (h.mem x hx)).1, ?_⟩
  have := short_wire X 3 (fun x hx => (five_ok x (h.mem x hx)).2.2.2)
  have := h.len
  omega
theorem FewX.name {X : List (List UInt8)} (h : FewX X) : nameLabels ((makeL X).getD []) = some X := by rw [h.ok.make]; exact h.ok.labels
theorem FewX.more {X : List (List UInt8)} (h : FewX X) (p q : List (List UInt8)) (hp : ∀ x ∈ p ++ q, okLabel x = true ∧ x.length ≤ 20) (hl : (p ++ q).length ≤ 2) : OkLs (p ++ (X ++ q)) := by
  refine ⟨?_, ?_⟩
  · intro x hx
    simp only [List.mem_append] at hx
    rcases hx with hx | hx | hx
    · exact (hp x (by simp [hx])).1
    · exact (five_ok x (h.mem x hx)).1
    · exact (hp x (by simp [hx])).1
  · rw [wire_append, wire_append]
    have h1 := short_wire X 3 (fun x hx => (five_ok x (h.mem x hx)).2.2.2)
    have h2 := short_wire p 20 (fun x hx => (hp x (by simp [hx])).2)
    have h3 := short_wire q 20 (fun x hx => (hp x (by simp [hx])).2)
    have := h.len
    simp only [List.length_append] at hl ⊢
    omega
theorem good_name {k : Int} {X : List (List UInt8)} (h : FewX X) (hk : k = 1 ∨ k = 2 ∨ k = 4 ∨ k = 5) (hne : k = 1 ∨ k = 4 → X ≠ []) : GoodT ⟨k, (makeL X).getD [], [], 0⟩ := by
  have hn := h.name
  have hns : ∀ x r, X = x :: r → x ≠ star := fun x r e => (five_ok x (h.mem x (by rw [e]; simp))).2.1
  have hX : ∀ e d : Int, X ≠ [] → namedR X e d = some ⟨e, (makeL X).getD [], [], 0⟩ := by
    intro e d hX
    cases X with
    | nil => exact absurd rfl hX
    | cons x r => unfold namedR; simp only [if_neg (hns x r rfl)]
  have hS : ∀ e d : Int, namedR (star :: X) e d = some ⟨d, (makeL X).getD [], [], 0⟩ := fun e d => by simp only [namedR]; rfl
  have hlast : X ≠ [] → kindOf (X.getLastD []) = none := by
    intro hX
    have : X.getLastD [] ∈ X := by
      have := last_split [] hX
      rw [this]; simp
    exact (five_ok _ (h.mem _ this)).2.2.1
  rcases hk with rfl | rfl | rfl | rfl
  · have hl : labT ⟨1, (makeL X).getD [], [], 0⟩ = X := by show (nameLabels _).getD [] = X; rw [hn]; rfl
    have hX' := hne (.inl rfl)
    refine ⟨by rw [hl]; exact h.ok, by rw [hl]; exact hX', ?_⟩
    rw [hl]; unfold decL; rw [hlast hX']; exact hX 1 2 hX'
  · have hl : labT ⟨2, (makeL X).getD [], [], 0⟩ = star :: X := by show star :: (nameLabels _).getD [] = _; rw [hn]; rfl
    refine ⟨?_, by rw [hl]; simp, ?_⟩
    · rw [hl]
      have := h.more [star] [] (by decide) (by decide)
      simpa using this
    · rw [hl]; unfold decL
      have : kindOf ((star :: X).getLastD []) = none := by
        by_cases hX' : X = []
        · subst hX'; decide
        · have e : (star :: X).getLastD [] = X.getLastD [] := by
            cases X with
            | nil => exact absurd rfl hX'
            | cons x r => rfl
          rw [e]; exact hlast hX'
      rw [this]; exact hS 1 2
  · have hl : labT ⟨4, (makeL X).getD [], [], 0⟩ = X ++ [cNsname] := by show (nameLabels _).getD [] ++ [cNsname] = _; rw [hn]; rfl
    have hX' := hne (.inr rfl)
    refine ⟨?_, by rw [hl]; simp, ?_⟩
    · rw [hl]
      have := h.more [] [cNsname] (by decide) (by decide)
      simpa using this
    · rw [hl]; unfold decL
      rw [getLastD_snoc, show kindOf cNsname = some 4 from rfl, List.dropLast_concat]
      exact hX 4 5 hX'
  · have hl : labT ⟨5, (makeL X).getD [], [], 0⟩ = star :: (X ++ [cNsname]) := by show star :: ((nameLabels _).getD [] ++ [cNsname]) = _; rw [hn]; rfl
    refine ⟨?_, by rw [hl]; simp, ?_⟩
    · rw [hl]
      have := h.more [star] [cNsname] (by decide) (by decide)
      simpa using this
    · rw [hl]; unfold decL
      rw [show star :: (X ++ [cNsname]) = (star :: X) ++ [cNsname] by rfl, getLastD_snoc, show kindOf cNsname = some 4 from rfl, List.dropLast_concat]
      exact hS 4 5
end Go.Proofs.YtodpaejakgjblaaDoor
namespace Go.Proofs.YtodpaejakgjblaaDoor
set_option linter.unusedVariables false

theorem byte8_set (b0 b1 b2 b3 b4 b5 b6 b7 : Bool) (j : Nat) (h : j < 8) :
    unbits ([b0, b1, b2, b3, b4, b5, b6, b7].set j true) = [UInt8.ofNat ((byte8 b0 b1 b2 b3 b4 b5 b6 b7).toNat ||| 128 / 2 ^ j)] := by
  have hj : ∀ b0 b1 b2 b3 b4 b5 b6 b7 : Bool, ∀ j : Fin 8, unbits ([b0, b1, b2, b3, b4, b5, b6, b7].set j.val true) = [UInt8.ofNat ((byte8 b0 b1 b2 b3 b4 b5 b6 b7).toNat ||| 128 / 2 ^ j.val)] := by decide +kernel
  exact hj b0 b1 b2 b3 b4 b5 b6 b7 ⟨j, h⟩
theorem unbits_cons (x r : List Bool) (h : x.length = 8) : unbits (x ++ r) = unbits x ++ unbits r := by
  match x, h with
  | [b0, b1, b2, b3, b4, b5, b6, b7], _ => rfl
theorem unbits_set : ∀ (n : Nat) (L : List Bool) (i : Nat) (hL : L.length = 8 * n) (hi : i < 8 * n),
    unbits (L.set i true) = (unbits L).set (i / 8) (UInt8.ofNat (((unbits L)[i / 8]'(by rw [(bitsL_unbits n L hL).2]; omega)).toNat ||| 128 / 2 ^ (i % 8)))
  | n + 1, L, i, hL, hi => by
    obtain ⟨b0, b1, b2, b3, b4, b5, b6, b7, r, rfl, hr⟩ := split8 L n hL
    by_cases h8 : i < 8
    · have e0 : i / 8 = 0 := by omega
      have e1 : i % 8 = i := by omega
      have hs : (b0 :: b1 :: b2 :: b3 :: b4 :: b5 :: b6 :: b7 :: r).set i true = [b0, b1, b2, b3, b4, b5, b6, b7].set i true ++ r := by
        rw [show b0 :: b1 :: b2 :: b3 :: b4 :: b5 :: b6 :: b7 :: r = [b0, b1, b2, b3, b4, b5, b6, b7] ++ r by rfl, List.set_append_left _ _ (by simpa using h8)]
      rw [hs, unbits_cons _ r (by simp), byte8_set _ _ _ _ _ _ _ _ i h8]
      simp only [e0, e1, unbits, List.getElem_cons_zero, List.set_cons_zero, List.cons_append, List.nil_append]
    · have hd : i / 8 = (i - 8) / 8 + 1 := by omega
      have hm : i % 8 = (i - 8) % 8 := by omega
      have ih := unbits_set n r (i - 8) hr (by omega)
      have hs : (b0 :: b1 :: b2 :: b3 :: b4 :: b5 :: b6 :: b7 :: r).set i true = [b0, b1, b2, b3, b4, b5, b6, b7] ++ r.set (i - 8) true := by
        rw [show b0 :: b1 :: b2 :: b3 :: b4 :: b5 :: b6 :: b7 :: r = [b0, b1, b2, b3, b4, b5, b6, b7] ++ r by rfl, List.set_append_right _ _ (by simp; omega)]
        rfl
      rw [hs, unbits_cons _ _ rfl, ih]
      simp only [hd, hm, unbits, List.getElem_cons_succ, List.set_cons_succ, List.cons_append, List.nil_append]

/-- The bytes of the first k signs of a key, and 0. -/
def fillB (key : List UInt8) (n k : Nat) : List Bool := (key.map (· == 49)).take k ++ List.replicate (8 * n - k) false
theorem fillB_length (key : List UInt8) (n k : Nat) (hk : k ≤ key.length) (hn : key.length ≤ 8 * n) : (fillB key n k).length = 8 * n := by simp [fillB]; omega
theorem fillB_zero (key : List UInt8) (n : Nat) : unbits (fillB key n 0) = List.replicate n 0 := by
  have h : ∀ m, unbits (List.replicate (8 * m) false) = List.replicate m 0 := by
    intro m
    induction m with
    | zero => rfl
    | succ m ih =>
      rw [show 8 * (m + 1) = 8 + 8 * m by omega, ← List.replicate_append_replicate, unbits_cons _ _ (by simp), ih, List.replicate_succ]
      rfl
  simpa [fillB] using h n
theorem fillB_next (key : List UInt8) (n k : Nat) (hk : k < key.length) (hn : key.length ≤ 8 * n) : (fillB key n k).set k (key[k] == 49) = fillB key n (k + 1) := by
  have hl : ((key.map (· == 49)).take k).length = k := by simp; omega
  have hk2 : k < (key.map (· == 49)).length := by simpa using hk
  unfold fillB
  rw [List.set_append_right _ _ (by omega), hl, Nat.sub_self, List.take_succ_eq_append_getElem hk2, show 8 * n - k = (8 * n - (k + 1)) + 1 by omega, List.replicate_succ, List.set_cons_zero]
  simp
theorem fillB_at (key : List UInt8) (n k : Nat) (hk : k < key.length) (hn : key.length ≤ 8 * n) : (fillB key n k)[k]? = some false := by
  have hl : ((key.map (· == 49)).take k).length = k := by simp; omega
  unfold fillB
  rw [List.getElem?_append_right (by omega), hl, Nat.sub_self, List.getElem?_replicate_of_lt (by omega)]
theorem fillB_same (key : List UInt8) (n k : Nat) (hk : k < key.length) (hn : key.length ≤ 8 * n) (h : key[k] ≠ 49) : fillB key n k = fillB key n (k + 1) := by
  rw [← fillB_next key n k hk hn]
  have hb : (key[k] == 49) = false := by simpa using h
  rw [hb]
  apply List.ext_getElem?
  intro i
  rw [List.getElem?_set]
  split
  · rename_i e
    subst e
    rw [fillB_at key n k hk hn, if_pos (by rw [fillB_length key n k (by omega) hn]; omega)]
  · rfl
theorem fillB_or (key : List UInt8) (n k : Nat) (hk : k < key.length) (hn : key.length ≤ 8 * n) (h : key[k] = 49) (hlt : k / 8 < (unbits (fillB key n k)).length) :
    (unbits (fillB key n k)).set (k / 8) (UInt8.ofNat ((unbits (fillB key n k))[k / 8].toNat ||| 128 / 2 ^ (k % 8))) = unbits (fillB key n (k + 1)) := by
  rw [← fillB_next key n k hk hn, h]
  exact (unbits_set n (fillB key n k) k (fillB_length key n k (by omega) hn) (by omega)).symm
def okKey (c : UInt8) : Bool := c == 48 || c == 49
theorem okKey_signs (key : List UInt8) (h : key.all okKey = true) : signs (key.map (· == 49)) = key := by
  rw [signs, List.map_map]
  conv => rhs; rw [← List.map_id key]
  apply List.map_congr_left
  intro c hc
  have := List.all_eq_true.1 h c hc
  simp only [okKey, Bool.or_eq_true, beq_iff_eq] at this
  rcases this with rfl | rfl <;> rfl
theorem signs_ok (L : List Bool) : (signs L).all okKey = true := by
  rw [List.all_eq_true]
  intro c hc
  obtain ⟨b, _, rfl⟩ := List.mem_map.1 hc
  cases b <;> rfl
end Go.Proofs.YtodpaejakgjblaaDoor
namespace Go.Proofs.YtodpaejakgjblaaDoor
open Go.RowKit
set_option linter.unusedVariables false
set_option maxRecDepth 20000
end Go.Proofs.YtodpaejakgjblaaDoor
namespace Go.Proofs.YtodpaejakgjblaaDoor
open Go.RowKit
set_option linter.unusedVariables false
set_option maxRecDepth 20000

def addrN (six : Bool) : Nat := if six then 16 else 4
/-- Six bytes in a new block. -/
def six6 (g : Nat) : Value → World → Prop := fun v w => ∃ h, v = .slice (some ⟨h, 0, none⟩) 6 6 ∧ h ≠ g ∧ h < w.heap.size ∧ ∀ j, j < 6 → ∃ x : Nat, x < 256 ∧ w.cell? ⟨h, j, none⟩ = some (.int .u8 x)
def ptr6 (g : Nat) : Value → World → Prop := fun v w => ∃ h j, v = .pointer (some ⟨h, j, none⟩) ∧ h ≠ g ∧ h < w.heap.size ∧ ∃ x : Nat, x < 256 ∧ w.cell? ⟨h, j, none⟩ = some (.int .u8 x)
def some8 : Value → World → Prop := fun v _ => ∃ x : Nat, x < 256 ∧ v = .int .u8 x
theorem six6_stays (g : Nat) : ∀ v w w', six6 g v w → GoesBut g w w' → six6 g v w' := by
  rintro v w w' ⟨h, rfl, h1, h2, h3⟩ he
  exact ⟨h, rfl, h1, Nat.lt_of_lt_of_le h2 he.1, fun j hj => by rw [he.cell h2 h1]; exact h3 j hj⟩
theorem ptr6_stays (g : Nat) : ∀ v w w', ptr6 g v w → GoesBut g w w' → ptr6 g v w' := by
  rintro v w w' ⟨h, j, rfl, h1, h2, h3⟩ he
  exact ⟨h, j, rfl, h1, Nat.lt_of_lt_of_le h2 he.1, by rw [he.cell h2 h1]; exact h3⟩
theorem some8_stays (g : Nat) : ∀ v w w', some8 v w → GoesBut g w w' → some8 v w' := fun _ _ _ h _ => h

attribute [local simp] isV wordOf Deps Region.binds wantedX isB Act.put
set_option maxHeartbeats 1600000 in
set_option maxRecDepth 20000 in
theorem addr_any (six : Bool) (A : Option Addr) (n c : Nat) (l : List UInt8) (w : World) (hA : Sl w w.heap.size 1 A n (l.map bv)) (hn : n ≤ 140737488355328) :
    Calls Tryd.prog 36 #[.bool six, .slice A n c] w fun e w' => ∃ s : ByteArray, s.size = addrN six ∧ e = .returned (.string s) ∧ Below w.heap.size w w' := by
  obtain ⟨i0, hi, hi0, hi1, hi2⟩ := info_parts pfx_info
  obtain ⟨N, hN⟩ : ∃ N, N = addrN six := ⟨_, rfl⟩
  have hN2 : N = 4 ∨ N = 16 := by rw [hN]; unfold addrN; cases six <;> simp
  have HN := Lib.hid hN
  clear hN
  go_enter Tryd.func36, Tryd.ntmps36
  go_upto_if 9 with (first
    | (at_make; refine wpList_make_full _ rfl _ _ 22 rfl w.heap.size 5 i0 (.int .u8 0) 1 Tryd.underlying22 hi hi0 hi1 _ _ _ _ 4 rfl rfl (by omega) (by omega) (by rw [hi2]; omega) (by unfold maxLen; omega) (by simp) ?_; intro w1 hown1 hg1))
  rw [show (madeCells (Value.int .u8 0).cells (4 * 1)).toList = (List.replicate 4 (0 : UInt8)).map bv by rw [Nat.mul_one, List.map_replicate]; exact toList_madeCells_one _ _] at hown1
  have hob1 := OB.of_own hown1 (below_grown_none (Below.refl _ _) hg1 (Nat.le_refl _)) hg1.size
  have hz1 := hg1.size
  clear hown1 hg1
  go_cut [5] (fun v wc => ∃ g, v = .slice (some ⟨g, 0, none⟩) N N ∧ ∃ l : List UInt8, l.length = N ∧ OB w.heap.size w v N (l.map bv) wc)
  case first =>
    cases six with
    | false =>
      obtain rfl : N = 4 := HN.out
      go_wp2_with fail
      go_meet
      exact ⟨_, rfl, _, by simp, hob1⟩
    | true =>
      obtain rfl : N = 16 := HN.out
      go_wp2_with (first
        | (at_make; refine wpList_make_full _ rfl _ _ 22 rfl w.heap.size 5 i0 (.int .u8 0) 1 Tryd.underlying22 hi hi0 hi1 _ _ _ _ 16 rfl rfl (by omega) (by omega) (by rw [hi2]; omega) (by unfold maxLen; omega) (by omega) ?_; intro w2 hown2 hg2))
      rw [show (madeCells (Value.int .u8 0).cells (16 * 1)).toList = (List.replicate 16 (0 : UInt8)).map bv by rw [Nat.mul_one, List.map_replicate]; exact toList_madeCells_one _ _] at hown2
      have hob2 := OB.of_own hown2 (below_grown_none hob1.bel hg2 hob1.base) (by have := hg2.size; omega)
      go_meet
      exact ⟨_, rfl, _, by simp, hob2⟩
  case rest =>
    obtain ⟨g, rfl, l0, hl0, hob⟩ := hcut
    have hB := hob.lt g rfl
    obtain ⟨R, hR⟩ : ∃ R : World → Prop, R = fun wr => ∃ l : List UInt8, l.length = N ∧ OB w.heap.size w (.slice (some ⟨g, 0, none⟩) N N) N (l.map bv) wr := ⟨_, rfl⟩
    have HR := Lib.hid hR
    have hR0 : R wc := by rw [hR]; exact ⟨l0, hl0, hob⟩
    clear hR hob hl0 hob1 hz1
    go_wp2_with fail
    go_loopw [13] (fun i wr => ∃ k : Nat, k ≤ n ∧ i = .int .i64 k ∧ R wr) (fun i _ => n - (intOf i).toNat)
    case atStart => exact ⟨0, Nat.zero_le _, rfl, hR0⟩
    case round =>
      obtain ⟨k, hk, rfl, hr⟩ := hrel
      have hr2 := hr
      rw [HR.out] at hr2
      obtain ⟨lk, hlk, hb⟩ := hr2
      by_cases hlt : k < n
      · obtain ⟨b, off, u, rfl, hbb, hu, hc⟩ := hA.at_ hlt
        have hcell : wr.cell? ⟨b, off + k, none⟩ = some u := (hb.bel.cell (p := ⟨b, off + k, none⟩) hbb).trans hc
        rw [List.getElem?_map] at hu
        obtain ⟨yc, hyc, rfl⟩ := Option.map_eq_some_iff.1 hu
        have h8 := UInt8.toNat_lt yc
        simp only [bv] at hcell
        generalize yc.toNat = y at *
        clear hu hyc hc
        by_cases hkN : k < N
        · obtain ⟨p, hp⟩ : ∃ p, p = k * 7 % N := ⟨_, rfl⟩
          have hpN : p < N := by rw [hp]; exact Nat.mod_lt _ (by omega)
          have hm : (k : Int) * 7 % (N : Int) = (p : Int) := by rw [hp]; simp
          have hm2 : ((k : Int) * 7).tmod (N : Int) = (p : Int) := by rw [Int.tmod_eq_emod_of_nonneg (by omega)]; exact hm
          have e1 : IntKind.i64.wrap ((k : Int) * 7) = (k : Int) * 7 := IntWalk.i64_in _ (by omega)
          have e2 : IntKind.i64.wrap (p : Int) = (p : Int) := IntWalk.i64_in _ (by omega)
          have e3 : ¬ (N : Int) = 0 := by omega
          have e4 : 0 ≤ (y : Int) % 6 := by omega
          have e5 : (y : Int) % 6 < 6 := by omega
          have e6 : ((y : Int) % 6).toNat = y % 6 := by omega
          have e7 : IntKind.u8.wrap ((y : Int) % 6) = (y : Int) % 6 := by rw [IntKind.wrap_u8]; omega
          have e8 : (p : Int) < N := by omega
          have e9 : (y : Int).tmod 6 = (y : Int) % 6 := Int.tmod_eq_emod_of_nonneg (by omega)
          have hRlt : ∀ wx, R wx → g < wx.heap.size := by
            intro wx h; rw [HR.out] at h; obtain ⟨lx, _, hx⟩ := h; exact (hx.lt g rfl).2
          have hRall : ∀ wx o, R wx → R (wx.alloc o) := by
            intro wx o h; rw [HR.out] at h ⊢; obtain ⟨lx, h1, hx⟩ := h; exact ⟨lx, h1, hx.alloc o⟩
          have hRset : ∀ wx (v : Nat), v < 256 → R wx → R (wx.setCell ⟨g, p, none⟩ (.int .u8 v)) := by
            intro wx v hv h; rw [HR.out] at h ⊢; obtain ⟨lx, h1, hx⟩ := h
            refine ⟨lx.set p (UInt8.ofNat v), by simpa using h1, ?_⟩
            rw [List.map_set, show bv (UInt8.ofNat v) = .int .u8 v by unfold bv; rw [UInt8.toNat_ofNat_of_lt' (by simpa using hv)]]
            exact hx.set p hpN _
          have hRcell : ∀ wx, R wx → (∃ u, wx.cell? ⟨g, p, none⟩ = some u) ∧ wx.frozen? ⟨g, p, none⟩ = false := by
            intro wx h; rw [HR.out] at h; obtain ⟨lx, h1, hx⟩ := h
            exact ⟨⟨_, hx.cell p _ (List.getElem?_eq_getElem (by simp; omega))⟩, hx.frozen p hpN⟩
          have HRALL := Lib.hid hRall
          have HRSET := Lib.hid hRset
          have HRLT := Lib.hid hRlt
          have HRCELL := Lib.hid hRcell
          clear hb hlk hp hRlt hRall hRset hRcell
          go_upto_region 8 with fail
          refine wp_region_ext pfx_follows (fun x => by simp [putsF, Act.put]; rfl) R (GoesBut g)
            [isV (.slice (some ⟨g, 0, none⟩) N N), isV (.int .i64 k), isV (.int .i64 (k * 7)), isV (.slice (some ⟨g, 0, none⟩) N N), isV (.int .i64 N), isV (.int .i64 p), isV (.int .u8 y), six6 g, isV (.int .u8 y), isV (.int .u8 ((y : Int) % 6)), ptr6 g, some8, isV (.pointer (some ⟨g, p, none⟩)), fun _ _ => True]
            (by kernel_rfl) (by kernel_rfl) (by kernel_rfl) rfl ?_ (GoesBut.refl g) ?_ ?_ ?_
          · refine ⟨isV_stayX _ _, isV_stayX _ _, isV_stayX _ _, isV_stayX _ _, isV_stayX _ _, isV_stayX _ _, isV_stayX _ _, six6_stays g, isV_stayX _ _, isV_stayX _ _, ptr6_stays g, some8_stays g, isV_stayX _ _, fun _ _ _ _ _ => trivial, trivial⟩
          · have hr2 := hr
            rw [HR.out] at hr2 ⊢
            obtain ⟨lk, hlk, hb⟩ := hr2
            exact ⟨lk, hlk, hb.drew⟩
          · refine ⟨?_, ?_, ?_, ?_, ?_, ?_, ?_, ?_, ?_, ?_, ?_, ?_, ?_, ?_, trivial⟩
            all_goals
              intro x wx hRx hd
              simp at hd ⊢
            all_goals try simp [hd]
            all_goals try (go_simp; exact next_of _ rfl rfl hRx (GoesBut.refl g wx))
            · obtain ⟨hd0, hd1⟩ := hd
              have e3' : ¬ N = 0 := by omega
              go_simp
              exact next_of _ rfl rfl hRx (GoesBut.refl g wx)
            · have hlt2 := HRLT.out wx hRx
              go_simp
              refine next_of _ rfl ⟨wx.heap.size, rfl, by omega, by simp, ?_⟩ (HRALL.out wx _ hRx) (GoesBut.alloc g wx _)
              intro j hj
              have hj6 : j = 0 ∨ j = 1 ∨ j = 2 ∨ j = 3 ∨ j = 4 ∨ j = 5 := by omega
              rcases hj6 with rfl | rfl | rfl | rfl | rfl | rfl
              · exact ⟨0, by omega, by simp⟩
              · exact ⟨1, by omega, by simp⟩
              · exact ⟨128, by omega, by simp⟩
              · exact ⟨255, by omega, by simp⟩
              · exact ⟨192, by omega, by simp⟩
              · exact ⟨y, h8, by simp⟩
            · obtain ⟨⟨h, hx7, h1, h2, h3⟩, hd1⟩ := hd
              go_simp
              refine next_of _ rfl ⟨h, y % 6, rfl, h1, h2, ?_⟩ hRx (GoesBut.refl g wx)
              exact h3 _ (by omega)
            · obtain ⟨h, j, hx10, h1, h2, v, hv, hc⟩ := hd
              go_simp
              exact next_of (p := some8) (.int .u8 v) rfl ⟨v, hv, rfl⟩ hRx (GoesBut.refl g wx)
            · obtain ⟨hd0, ⟨v, hv, hx11⟩, -⟩ := hd
              obtain ⟨⟨u, hu⟩, hf⟩ := HRCELL.out wx hRx
              go_simp
              exact next_of undef rfl trivial (HRSET.out wx v hv hRx) (GoesBut.set g p wx _)
          intro x w3 hr3 hx
          simp [AllWords] at hx ⊢
          clear hx
          go_wp2_with fail
          go_roundw
          case rel => exact ⟨k + 1, by omega, by go_num, hr3⟩
          case measure => simp [intOf]; omega
        · go_wp2_with fail
          go_roundw
          case rel => exact ⟨k + 1, by omega, by go_num, hr⟩
          case measure => simp [intOf]; omega
      · obtain rfl : k = n := by omega
        have hst := run_string_of (P := Tryd.prog) wr 22 9 5 _ _ N lk Tryd.underlying22 Tryd.underlying5 Tryd.underlying9 hb.sl (by intro h; cases h) N
        obtain ⟨C, eC⟩ : ∃ C : ByteArray, C = ⟨lk.toArray⟩ := ⟨_, rfl⟩
        rw [← eC] at hst
        have hCs : C.size = addrN six := by rw [eC, mk_size, hlk, HN.out]
        have HCS := Lib.hid hCs
        have hbel := hb.bel
        clear hb eC hCs hlk hr
        go_wp2_with fail
        go_ret
        exact ⟨C, HCS.out, rfl, hbel⟩
end Go.Proofs.YtodpaejakgjblaaDoor
namespace Go.Proofs.YtodpaejakgjblaaDoor
open Go.RowKit
set_option linter.unusedVariables false
set_option maxRecDepth 20000

theorem five_cell (w : World) (z : Int) (hz : 0 ≤ z) (T : TypeId) :
    ∃ l ∈ five, (w.alloc (.cells #[.string ⟨#[97]⟩, .string ⟨#[98]⟩, .string ⟨#[119, 119, 119]⟩, .string ⟨#[101, 120]⟩, .string ⟨#[111, 114, 103]⟩] T)).cell? ⟨w.heap.size, (z % 5).toNat, none⟩ = some (.string (baL l)) := by
  obtain ⟨k, hk, hk5⟩ : ∃ k : Nat, (z % 5).toNat = k ∧ k < 5 := ⟨_, rfl, by omega⟩
  rw [hk]
  have hl : k < five.length := hk5
  refine ⟨five[k], List.getElem_mem hl, ?_⟩
  have h := news_at w #[.string ⟨#[97]⟩, .string ⟨#[98]⟩, .string ⟨#[119, 119, 119]⟩, .string ⟨#[101, 120]⟩, .string ⟨#[111, 114, 103]⟩] T k (.string (baL five[k]))
  rw [Addr.add_lit, Nat.zero_add] at h
  apply h
  match k, hk5 with
  | 0, _ => rfl
  | 1, _ => rfl
  | 2, _ => rfl
  | 3, _ => rfl
  | 4, _ => rfl
/-- What a trigger of the statements is. -/
structure TrigOk (kd : Int) (t : Trig) : Prop where
  kind : t.kind = kd % 7
  good : GoodT t
  pfx : (kd % 7 = 0 ∨ kd % 7 = 3 ∨ kd % 7 = 6) → mayP t.addr t.bits = true ∧ t.name = []
  nam : ¬ (kd % 7 = 0 ∨ kd % 7 = 3 ∨ kd % 7 = 6) → t.addr = [] ∧ t.bits = 0 ∧ ∃ X, FewX X ∧ nameLabels t.name = some X
  small : t.name.length ≤ 254 ∧ t.addr.length ≤ 16
theorem addrN_ok (six : Bool) : isAddr (addrN six) = true := by cases six <;> rfl
theorem trigPfx_ok {kd : Int} (hk : kd % 7 = 0 ∨ kd % 7 = 3 ∨ kd % 7 = 6) {l : List UInt8} {m : Nat} (hl : isAddr l.length = true) (hm : m ≤ 8 * l.length) : TrigOk kd ⟨kd % 7, [], cutL l m, m⟩ := by
  have hmay : mayP (cutL l m) m = true := by
    unfold mayP isCut
    rw [cutL_length, Int.toNat_natCast, cutL_cutL l m hm, hl]
    simp; omega
  refine ⟨rfl, good_pfx hmay hk, fun _ => ⟨hmay, rfl⟩, fun h => absurd hk h, by simp, ?_⟩
  have := isAddr_le hl
  rw [cutL_length]; exact this
theorem trigNam_ok {kd : Int} (h0 : 0 ≤ kd) (hk : ¬ (kd % 7 = 0 ∨ kd % 7 = 3 ∨ kd % 7 = 6)) {X : List (List UInt8)} (hX : FewX X) (hne : kd % 7 = 1 ∨ kd % 7 = 4 → X ≠ []) : TrigOk kd ⟨kd % 7, (makeL X).getD [], [], 0⟩ := by
  refine ⟨rfl, good_name hX (by omega) hne, fun h => absurd h hk, fun _ => ⟨rfl, rfl, X, hX, hX.name⟩, ?_, by simp⟩
  rw [hX.ok.make]
  exact hX.ok.2

set_option maxHeartbeats 16000000 in
theorem trigger13_any (kd : Int) (hkd : 0 ≤ kd ∧ kd ≤ 255) (A : Option Addr) (n c : Nat) (zs : List Int) (six : Bool) (bits : Int) (hb : 0 ≤ bits ∧ bits ≤ 255) (w : World)
    (hA : Sl w w.heap.size 1 A n (zs.map (Value.int .u8))) (hz : ∀ z ∈ zs, 0 ≤ z ∧ z < 256) (hn : n ≤ 140737488355328) :
    Calls Tryd.prog 15 #[.int .u8 kd, .slice A n c, .bool six, .int .u8 bits] w fun e w' => ∃ t : Trig, e = .returned (trigA t) ∧ TrigOk kd t ∧ Below w.heap.size w w' := by
  obtain ⟨i0, hi, hz0, hz1, hz2⟩ := info_parts str_info
  obtain ⟨tk, htk⟩ : ∃ tk, tk = kd % 7 := ⟨_, rfl⟩
  have ht7 : 0 ≤ tk ∧ tk < 7 := by omega
  have hmod : kd.tmod 7 = tk := by rw [Int.tmod_eq_emod_of_nonneg hkd.1, htk]
  have hw8 : IntKind.u8.wrap tk = tk := by rw [IntKind.wrap_u8]; omega
  obtain ⟨W0, hW0⟩ : ∃ W0, W0 = (w.alloc (.cells #[.int .i64 0, .string ⟨#[]⟩, .string ⟨#[]⟩, .int .i64 0] 29)).alloc (.cells #[.int .i64 tk, .string ⟨#[]⟩, .string ⟨#[]⟩, .int .i64 0] 29) := ⟨_, rfl⟩
  have hc1 : Cs W0 w.heap.size [.int .i64 0, .string ⟨#[]⟩, .string ⟨#[]⟩, .int .i64 0] := by rw [hW0]; exact (Cs.new w _ _ _).alloc _
  have hc2 : Cs W0 (w.heap.size + 1) [.int .i64 tk, .string ⟨#[]⟩, .string ⟨#[]⟩, .int .i64 0] := by
    rw [hW0]
    exact (Cs.new (w.alloc (.cells #[.int .i64 0, .string ⟨#[]⟩, .string ⟨#[]⟩, .int .i64 0] 29)) _ _ _).at_ _ (by simp)
  have hb0 : Below w.heap.size w W0 := by
    rw [hW0]
    have h1 := (Below.refl w.heap.size w).alloc (Nat.le_refl _) (.cells #[.int .i64 0, .string ⟨#[]⟩, .string ⟨#[]⟩, .int .i64 0] 29)
    exact h1.alloc h1.size _
  have hs0 : W0.heap.size = w.heap.size + 2 := by rw [hW0]; simp
  have hA0 := (hA.below hb0).more hb0.size
  by_cases hp : tk = 0 ∨ tk = 3 ∨ tk = 6
  · have hbytes : ∃ l : List UInt8, zs.map (Value.int .u8) = l.map bv := bytes_of zs (fun z h => WalkArith.wf_u8 (by have := hz z h; omega))
    obtain ⟨l, hl⟩ := hbytes
    rw [hl] at hA0
    have had := addr_any six A n c l W0 hA0 hn
    obtain ⟨M, hM⟩ : ∃ M : Nat, M = 8 * addrN six + 1 := ⟨_, rfl⟩
    obtain ⟨m, hm⟩ : ∃ m : Nat, (m : Int) = bits % M := ⟨(bits % M).toNat, by have : (0 : Int) < M := by omega
                                                                              have := Int.emod_nonneg bits (show (M : Int) ≠ 0 by omega); omega⟩
    have hmM : m < M := by have := Int.emod_lt_of_pos bits (show (0 : Int) < M by omega); omega
    have hmt : bits.tmod (M : Int) = m := by rw [Int.tmod_eq_emod_of_nonneg hb.1, hm]
    have hMl : M = 33 ∨ M = 129 := by rw [hM]; cases six <;> simp [addrN]
    have hMM : (8 : Int) * (addrN six : Int) + 1 = M := by omega
    have hmw : IntKind.i64.wrap (m : Int) = m := IntWalk.i64_in _ (by omega)
    have hm0 : ¬ (M : Int) = 0 := by omega
    have hsl : addrN six = 4 ∨ addrN six = 16 := by cases six <;> simp [addrN]
    have hTO := fun (s : ByteArray) (h : s.size = addrN six) => trigPfx_ok (kd := kd) (by rw [← htk]; exact hp) (l := s.data.toList) (m := m) (by rw [show s.data.toList.length = s.size by simp, h]; exact addrN_ok six) (by rw [show s.data.toList.length = s.size by simp, h]; omega)
    rw [← htk] at hTO
    have HMB := Lib.hid (show m ≤ 8 * addrN six by omega)
    have HAD := Lib.hid had
    have HTO := Lib.hid hTO
    have HC1 := Lib.hid hc1
    have HC2 := Lib.hid hc2
    have HB0 := Lib.hid hb0
    have HS0 := Lib.hid hs0
    have HW0 := Lib.hid hW0
    obtain ⟨Z, hZ⟩ : ∃ Z, Z = addrN six := ⟨_, rfl⟩
    rw [← hZ] at hMM hsl
    have HZ := Lib.hid hZ
    clear had hTO hc1 hc2 hb0 hs0 hW0 hZ hA0 hl hA hz hM hm htk hmM
    rcases hp with rfl | rfl | rfl
    · go_enter Tryd.func15, Tryd.ntmps15
      go_wp2_with (go_at_call 36; rw [← HW0.out]; refine HAD.out.mono ?_; rintro e w1 ⟨s, hs, rfl, hb1⟩; refine Hid.out ?_)
      refine Lib.hid ?_
      have HTS := Lib.hid (HTO.out s hs)
      have hcut := fun w h => pcut_yes s.data.toList m w (by rw [show s.data.toList.length = s.size by simp, hs]; exact addrN_ok six) h
      rw [ba_eta] at hcut
      have hcut := fun w => hcut w (by rw [show s.data.toList.length = s.size by simp, hs]; exact HMB.out)
      obtain ⟨CB, hCB⟩ : ∃ CB, CB = baL (cutL s.data.toList m) := ⟨_, rfl⟩
      rw [show (⟨(cutL s.data.toList m).toArray⟩ : ByteArray) = CB by rw [hCB]; rfl] at hcut
      have hsZ : s.size = Z := by rw [hs, HZ.out]
      have HCUT := Lib.hid hcut
      have HCB := Lib.hid hCB
      have HC11 := Lib.hid (HC1.out.below hb1)
      have HC21 := Lib.hid (HC2.out.below hb1)
      have HB1 := Lib.hid (HB0.out.trans (hb1.mono HB0.out.size))
      clear hcut hCB hs hb1
      go_wp2_with (go_at_call 37; refine (HCUT.out _).mono ?_; rintro e w2 ⟨rfl, hb2⟩; refine Hid.out ?_)
      refine Lib.hid ?_
      have hC1 := HC11.out.below hb2
      have hC2 := HC21.out.below hb2
      have HB2 := Lib.hid (HB1.out.trans (hb2.mono HB1.out.size))
      have k0 := hC1.get 0 (.int .i64 0)
      have k1 := hC1.get 1 (.string ⟨#[]⟩)
      have k2 := hC1.get 2 (.string ⟨#[]⟩)
      have k3 := hC1.get 3 (.int .i64 0)
      have kz0 := hC1.froz 0
      have kz1 := hC1.froz 1
      have kz2 := hC1.froz 2
      have kz3 := hC1.froz 3
      have l0 := hC2.get 0 (.int .i64 0)
      have l1 := hC2.get 1 (.string ⟨#[]⟩)
      have l2 := hC2.get 2 (.string ⟨#[]⟩)
      have l3 := hC2.get 3 (.int .i64 0)
      have lz0 := hC2.froz 0
      have lz1 := hC2.froz 1
      have lz2 := hC2.froz 2
      have lz3 := hC2.froz 3
      have HC1' := Lib.hid hC1
      clear hC1 hC2 hb2 HC11 HC21 HCUT HB1
      have hne : w.heap.size + 1 ≠ w.heap.size := by omega
      go_wp2_with fail
      refine bodyPost_ret (v := .agg #[.int .i64 0, .string ⟨#[]⟩, .string CB, .int .i64 m]) ?_ rfl ⟨_, ?_, HTS.out, ?_⟩
      · have hfin := Cs.all4 (((HC1'.out.other _ 2 (.string CB) hne).other _ 3 (.int .i64 m) hne)) (a' := .int .i64 0) (b' := .string ⟨#[]⟩) (c' := .string CB) (d' := .int .i64 m)
        have g0 := hfin.get 0 (.int .i64 0)
        have g1 := hfin.get 1 (.string ⟨#[]⟩)
        have g2 := hfin.get 2 (.string CB)
        have g3 := hfin.get 3 (.int .i64 m)
        generalize ((((((w2.setCell ⟨w.heap.size + 1, 2, none⟩ (.string CB)).setCell ⟨w.heap.size + 1, 3, none⟩ (.int .i64 m)).setCell ⟨w.heap.size, 0, none⟩ (.int .i64 0)).setCell ⟨w.heap.size, 1, none⟩ (.string ⟨#[]⟩)).setCell ⟨w.heap.size, 2, none⟩ (.string CB)).setCell ⟨w.heap.size, 3, none⟩ (.int .i64 m)) = WF at g0 g1 g2 g3 ⊢
        simp [results, Tryd.results15, go_sem, g0, g1, g2, g3]
      · rw [HCB.out]; rfl
      · exact below_all4 ((HB2.out.setCell (p := ⟨w.heap.size + 1, 2, none⟩) (by simp) (.string CB)).setCell (p := ⟨w.heap.size + 1, 3, none⟩) (by simp) (.int .i64 m)) (Nat.le_refl _)
    · go_enter Tryd.func15, Tryd.ntmps15
      go_wp2_with (go_at_call 36; rw [← HW0.out]; refine HAD.out.mono ?_; rintro e w1 ⟨s, hs, rfl, hb1⟩; refine Hid.out ?_)
      refine Lib.hid ?_
      have HTS := Lib.hid (HTO.out s hs)
      have hcut := fun w h => pcut_yes s.data.toList m w (by rw [show s.data.toList.length = s.size by simp, hs]; exact addrN_ok six) h
      rw [ba_eta] at hcut
      have hcut := fun w => hcut w (by rw [show s.data.toList.length = s.size by simp, hs]; exact HMB.out)
      obtain ⟨CB, hCB⟩ : ∃ CB, CB = baL (cutL s.data.toList m) := ⟨_, rfl⟩
      rw [show (⟨(cutL s.data.toList m).toArray⟩ : ByteArray) = CB by rw [hCB]; rfl] at hcut
      have hsZ : s.size = Z := by rw [hs, HZ.out]
      have HCUT := Lib.hid hcut
      have HCB := Lib.hid hCB
      have HC11 := Lib.hid (HC1.out.below hb1)
      have HC21 := Lib.hid (HC2.out.below hb1)
      have HB1 := Lib.hid (HB0.out.trans (hb1.mono HB0.out.size))
      clear hcut hCB hs hb1
      go_wp2_with (go_at_call 37; refine (HCUT.out _).mono ?_; rintro e w2 ⟨rfl, hb2⟩; refine Hid.out ?_)
      refine Lib.hid ?_
      have hC1 := HC11.out.below hb2
      have hC2 := HC21.out.below hb2
      have HB2 := Lib.hid (HB1.out.trans (hb2.mono HB1.out.size))
      have k0 := hC1.get 0 (.int .i64 0)
      have k1 := hC1.get 1 (.string ⟨#[]⟩)
      have k2 := hC1.get 2 (.string ⟨#[]⟩)
      have k3 := hC1.get 3 (.int .i64 0)
      have kz0 := hC1.froz 0
      have kz1 := hC1.froz 1
      have kz2 := hC1.froz 2
      have kz3 := hC1.froz 3
      have l0 := hC2.get 0 (.int .i64 3)
      have l1 := hC2.get 1 (.string ⟨#[]⟩)
      have l2 := hC2.get 2 (.string ⟨#[]⟩)
      have l3 := hC2.get 3 (.int .i64 0)
      have lz0 := hC2.froz 0
      have lz1 := hC2.froz 1
      have lz2 := hC2.froz 2
      have lz3 := hC2.froz 3
      have HC1' := Lib.hid hC1
      clear hC1 hC2 hb2 HC11 HC21 HCUT HB1
      have hne : w.heap.size + 1 ≠ w.heap.size := by omega
      go_wp2_with fail
      refine bodyPost_ret (v := .agg #[.int .i64 3, .string ⟨#[]⟩, .string CB, .int .i64 m]) ?_ rfl ⟨_, ?_, HTS.out, ?_⟩
      · have hfin := Cs.all4 (((HC1'.out.other _ 2 (.string CB) hne).other _ 3 (.int .i64 m) hne)) (a' := .int .i64 3) (b' := .string ⟨#[]⟩) (c' := .string CB) (d' := .int .i64 m)
        have g0 := hfin.get 0 (.int .i64 3)
        have g1 := hfin.get 1 (.string ⟨#[]⟩)
        have g2 := hfin.get 2 (.string CB)
        have g3 := hfin.get 3 (.int .i64 m)
        generalize ((((((w2.setCell ⟨w.heap.size + 1, 2, none⟩ (.string CB)).setCell ⟨w.heap.size + 1, 3, none⟩ (.int .i64 m)).setCell ⟨w.heap.size, 0, none⟩ (.int .i64 3)).setCell ⟨w.heap.size, 1, none⟩ (.string ⟨#[]⟩)).setCell ⟨w.heap.size, 2, none⟩ (.string CB)).setCell ⟨w.heap.size, 3, none⟩ (.int .i64 m)) = WF at g0 g1 g2 g3 ⊢
        simp [results, Tryd.results15, go_sem, g0, g1, g2, g3]
      · rw [HCB.out]; rfl
      · exact below_all4 ((HB2.out.setCell (p := ⟨w.heap.size + 1, 2, none⟩) (by simp) (.string CB)).setCell (p := ⟨w.heap.size + 1, 3, none⟩) (by simp) (.int .i64 m)) (Nat.le_refl _)
    · go_enter Tryd.func15, Tryd.ntmps15
      go_wp2_with (go_at_call 36; rw [← HW0.out]; refine HAD.out.mono ?_; rintro e w1 ⟨s, hs, rfl, hb1⟩; refine Hid.out ?_)
      refine Lib.hid ?_
      have HTS := Lib.hid (HTO.out s hs)
      have hcut := fun w h => pcut_yes s.data.toList m w (by rw [show s.data.toList.length = s.size by simp, hs]; exact addrN_ok six) h
      rw [ba_eta] at hcut
      have hcut := fun w => hcut w (by rw [show s.data.toList.length = s.size by simp, hs]; exact HMB.out)
      obtain ⟨CB, hCB⟩ : ∃ CB, CB = baL (cutL s.data.toList m) := ⟨_, rfl⟩
      rw [show (⟨(cutL s.data.toList m).toArray⟩ : ByteArray) = CB by rw [hCB]; rfl] at hcut
      have hsZ : s.size = Z := by rw [hs, HZ.out]
      have HCUT := Lib.hid hcut
      have HCB := Lib.hid hCB
      have HC11 := Lib.hid (HC1.out.below hb1)
      have HC21 := Lib.hid (HC2.out.below hb1)
      have HB1 := Lib.hid (HB0.out.trans (hb1.mono HB0.out.size))
      clear hcut hCB hs hb1
      go_wp2_with (go_at_call 37; refine (HCUT.out _).mono ?_; rintro e w2 ⟨rfl, hb2⟩; refine Hid.out ?_)
      refine Lib.hid ?_
      have hC1 := HC11.out.below hb2
      have hC2 := HC21.out.below hb2
      have HB2 := Lib.hid (HB1.out.trans (hb2.mono HB1.out.size))
      have k0 := hC1.get 0 (.int .i64 0)
      have k1 := hC1.get 1 (.string ⟨#[]⟩)
      have k2 := hC1.get 2 (.string ⟨#[]⟩)
      have k3 := hC1.get 3 (.int .i64 0)
      have kz0 := hC1.froz 0
      have kz1 := hC1.froz 1
      have kz2 := hC1.froz 2
      have kz3 := hC1.froz 3
      have l0 := hC2.get 0 (.int .i64 6)
      have l1 := hC2.get 1 (.string ⟨#[]⟩)
      have l2 := hC2.get 2 (.string ⟨#[]⟩)
      have l3 := hC2.get 3 (.int .i64 0)
      have lz0 := hC2.froz 0
      have lz1 := hC2.froz 1
      have lz2 := hC2.froz 2
      have lz3 := hC2.froz 3
      have HC1' := Lib.hid hC1
      clear hC1 hC2 hb2 HC11 HC21 HCUT HB1
      have hne : w.heap.size + 1 ≠ w.heap.size := by omega
      go_wp2_with fail
      refine bodyPost_ret (v := .agg #[.int .i64 6, .string ⟨#[]⟩, .string CB, .int .i64 m]) ?_ rfl ⟨_, ?_, HTS.out, ?_⟩
      · have hfin := Cs.all4 (((HC1'.out.other _ 2 (.string CB) hne).other _ 3 (.int .i64 m) hne)) (a' := .int .i64 6) (b' := .string ⟨#[]⟩) (c' := .string CB) (d' := .int .i64 m)
        have g0 := hfin.get 0 (.int .i64 6)
        have g1 := hfin.get 1 (.string ⟨#[]⟩)
        have g2 := hfin.get 2 (.string CB)
        have g3 := hfin.get 3 (.int .i64 m)
        generalize ((((((w2.setCell ⟨w.heap.size + 1, 2, none⟩ (.string CB)).setCell ⟨w.heap.size + 1, 3, none⟩ (.int .i64 m)).setCell ⟨w.heap.size, 0, none⟩ (.int .i64 6)).setCell ⟨w.heap.size, 1, none⟩ (.string ⟨#[]⟩)).setCell ⟨w.heap.size, 2, none⟩ (.string CB)).setCell ⟨w.heap.size, 3, none⟩ (.int .i64 m)) = WF at g0 g1 g2 g3 ⊢
        simp [results, Tryd.results15, go_sem, g0, g1, g2, g3]
      · rw [HCB.out]; rfl
      · exact below_all4 ((HB2.out.setCell (p := ⟨w.heap.size + 1, 2, none⟩) (by simp) (.string CB)).setCell (p := ⟨w.heap.size + 1, 3, none⟩) (by simp) (.int .i64 m)) (Nat.le_refl _)
  · have e0 : (tk == 0) = false := by rw [beq_eq_false_iff_ne]; omega
    have e3 : (tk == 3) = false := by rw [beq_eq_false_iff_ne]; omega
    have e6 : (tk == 6) = false := by rw [beq_eq_false_iff_ne]; omega
    have hTO := fun (X : List (List UInt8)) (h : FewX X) => trigNam_ok hkd.1 (by rw [← htk]; exact hp) h
    rw [← htk] at hTO
    have HTO := Lib.hid hTO
    have HC1 := Lib.hid hc1
    have HC2 := Lib.hid hc2
    have HB0 := Lib.hid hb0
    have HS0 := Lib.hid hs0
    have HW0 := Lib.hid hW0
    have HA0 := Lib.hid hA0
    have HZ := Lib.hid hz
    have hzl : zs.length = n := by simpa using hA0.1
    have HZL := Lib.hid hzl
    have ht4 : tk = 1 ∨ tk = 2 ∨ tk = 4 ∨ tk = 5 := by omega
    have HT4 := Lib.hid ht4
    clear hTO hc1 hc2 hb0 hs0 hW0 hA0 hz hA hzl ht4 hp htk
    go_enter Tryd.func15, Tryd.ntmps15
    go_upto_region 5 with fail
    rw [← HW0.out]
    go_loopw [11, 22] (fun v i wr => ∃ (k : Nat) (X : List (List UInt8)), k ≤ n ∧ i = .int .i64 k ∧ Hid (FewX X) ∧ Buf W0.heap.size 9 W0 v X.length (X.map sv) wr) (fun _ i _ => n - (intOf i).toNat)
    case atStart => exact ⟨0, [], Nat.zero_le _, rfl, Lib.hid ⟨fun x h => by (cases h), by simp⟩, Buf.start _ _⟩
    case round =>
      obtain ⟨k, X, hk, rfl, HFX, hb⟩ := hrel
      have hXl := HFX.out.len
      obtain ⟨D, cd, rfl, hd1, hd2, hd3⟩ := hb.slice
      by_cases hlt : k < n
      · have hlt' : (k : Int) < n := by omega
        obtain ⟨b, off, u, rfl, hbb, hu, hc⟩ := (HA0.out.below hb.below).at_ hlt
        have hkl : k < zs.length := by rw [HZL.out]; exact hlt
        have hcell : wr.cell? ⟨b, off + k, none⟩ = some (.int .u8 zs[k]) := by
          rw [hc]
          simp only [List.getElem?_map, List.getElem?_eq_getElem hkl, Option.map_some] at hu
          exact hu.symm
        have hzk := HZ.out zs[k] (List.getElem_mem hkl)
        generalize zs[k] = z at *
        obtain ⟨z0, z1⟩ := hzk
        clear hc hu hd3
        by_cases h5 : X.length < 5
        · have h5i : (X.length : Int) < 5 := by omega
          have a1 : 0 ≤ z % 5 := by omega
          have a2 : z % 5 < 5 := by omega
          obtain ⟨l5, hl5, hcl5⟩ := five_cell wr z z0 9
          obtain ⟨S5, hS5⟩ : ∃ S, S = baL l5 := ⟨_, rfl⟩
          rw [← hS5] at hcl5
          have HFN : Hid (FewX (X ++ [l5])) := Lib.hid ⟨by
            intro x hx
            simp only [List.mem_append, List.mem_cons, List.not_mem_nil, or_false] at hx
            rcases hx with hx | rfl
            · exact HFX.out.mem x hx
            · exact hl5, by simp; omega⟩
          have hmap : (X ++ [l5]).map sv = X.map sv ++ [.string S5] := by rw [List.map_append, hS5]; rfl
          have HM := Lib.hid hmap
          have hb1 := hb.alloc (.cells #[.string ⟨#[97]⟩, .string ⟨#[98]⟩, .string ⟨#[119, 119, 119]⟩, .string ⟨#[101, 120]⟩, .string ⟨#[111, 114, 103]⟩] 9)
          clear hmap hS5 hl5
          go_wp2_with (at_builtin; go_loud (refine wpList_append_one rfl _ _ 31 rfl W0.heap.size 9 i0 _ 16 Tryd.underlying31 hi hz0 hz1 hz2 rfl hb1 rfl ?hx rfl ?c1 ?c2 ?_))
          case hx => exact congrArg (fun q => Value.slice (some ⟨q, 0, none⟩) 1 1) (by simp)
          case c1 => unfold maxLen; omega
          case c2 => omega
          intro v' w2 hb2
          have HB2 := Lib.hid hb2
          clear hb2 hb1
          go_wp2
          go_roundw
          case rel => exact ⟨k + 1, X ++ [l5], by omega, by go_num, HFN, by rw [HM.out, List.length_append]; exact HB2.out⟩
          case measure => simp [intOf]; omega
        · have h5i : ¬ (X.length : Int) < 5 := by omega
          go_wp2_with fail
          go_roundw
          case rel => exact ⟨k + 1, X, by omega, by go_num, HFX, hb⟩
          case measure => simp [intOf]; omega
      · have hlt' : ¬ (k : Int) < n := by omega
        have HC1w := Lib.hid (HC1.out.below hb.below)
        have HC2w := Lib.hid (HC2.out.below hb.below)
        have HBw := Lib.hid (HB0.out.trans (hb.below.mono HB0.out.size))
        have hq0 := HC2w.out.get 0 (.int .i64 tk)
        have HSLX := Lib.hid hb.sl
        clear hb hd3 HC1 HC2 HB0 HA0 HZ HZL HW0 HS0
        by_cases hsp : X = [] ∧ (tk = 1 ∨ tk = 4)
        · obtain ⟨hX0, ht⟩ := hsp
          have hxl : ((X.length : Int) == 0) = true := by rw [hX0]; rfl
          have hA5 : FewX [[97]] := ⟨by decide, by decide⟩
          have HTS := Lib.hid (HTO.out [[97]] hA5 (fun _ => by simp))
          obtain ⟨NM, hNM⟩ : ∃ N, N = baL ((makeL [[97]]).getD []) := ⟨_, rfl⟩
          have hmk := fun A c w h => makeX_any A 1 c [[97]] w h (fun x hx => by have := (five_ok x (hA5.mem x hx)).2.2.2; unfold maxLen; omega) (by unfold maxLen; decide)
          rw [show sv ((makeL [[97]]).getD []) = .string NM by rw [hNM]; rfl] at hmk
          have HMK := Lib.hid hmk
          have HNM := Lib.hid hNM
          clear hmk hNM
          have HCM := Lib.hid (HC1w.out.alloc (.cells #[.string ⟨#[97]⟩] 9))
          have HCN := Lib.hid (HC2w.out.alloc (.cells #[.string ⟨#[97]⟩] 9))
          have HBM := Lib.hid (HBw.out.alloc HBw.out.size (.cells #[.string ⟨#[97]⟩] 9))
          have HSLM := Lib.hid (Sl.fresh wr #[.string ⟨#[97]⟩] 9 1 _ rfl rfl)
          clear HTO HT4 e0 e3 e6 hX0 HSLX HFX hXl
          rcases ht with rfl | rfl
          · go_wp2_with (go_at_call 25; refine (HMK.out _ _ _ HSLM.out).mono ?_; rintro e w5 ⟨rfl, hb5⟩; refine Hid.out ?_)
            refine Lib.hid ?_
            have HC5 := Lib.hid (HCM.out.below hb5)
            have hC2 := HCN.out.below hb5
            have HB5 := Lib.hid (HBM.out.trans (hb5.mono HBM.out.size))
            have k0 := HC5.out.get 0 (.int .i64 0)
            have k1 := HC5.out.get 1 (.string ⟨#[]⟩)
            have k2 := HC5.out.get 2 (.string ⟨#[]⟩)
            have k3 := HC5.out.get 3 (.int .i64 0)
            have kz0 := HC5.out.froz 0
            have kz1 := HC5.out.froz 1
            have kz2 := HC5.out.froz 2
            have kz3 := HC5.out.froz 3
            have l0 := hC2.get 0 (.int .i64 1)
            have l1 := hC2.get 1 (.string ⟨#[]⟩)
            have l2 := hC2.get 2 (.string ⟨#[]⟩)
            have l3 := hC2.get 3 (.int .i64 0)
            have lz1 := hC2.froz 1
            clear hb5 hC2 hq0 HMK
            go_wp2_with fail
            have hne : w.heap.size + 1 ≠ w.heap.size := by omega
            refine bodyPost_ret (v := .agg #[.int .i64 1, .string NM, .string ⟨#[]⟩, .int .i64 0]) ?_ rfl ⟨_, ?_, HTS.out, ?_⟩
            · have hfin := Cs.all4 ((HC5.out.other _ 1 (.string NM) hne)) (a' := .int .i64 1) (b' := .string NM) (c' := .string ⟨#[]⟩) (d' := .int .i64 0)
              have g0 := hfin.get 0 (.int .i64 1)
              have g1 := hfin.get 1 (.string NM)
              have g2 := hfin.get 2 (.string ⟨#[]⟩)
              have g3 := hfin.get 3 (.int .i64 0)
              generalize (((((w5.setCell ⟨w.heap.size + 1, 1, none⟩ (.string NM)).setCell ⟨w.heap.size, 0, none⟩ (.int .i64 1)).setCell ⟨w.heap.size, 1, none⟩ (.string NM)).setCell ⟨w.heap.size, 2, none⟩ (.string ⟨#[]⟩)).setCell ⟨w.heap.size, 3, none⟩ (.int .i64 0)) = WF at g0 g1 g2 g3 ⊢
              simp [results, Tryd.results15, go_sem, g0, g1, g2, g3]
            · rw [HNM.out]; rfl
            · exact below_all4 (HB5.out.setCell (p := ⟨w.heap.size + 1, 1, none⟩) (by simp) (.string NM)) (Nat.le_refl _)
          · go_wp2_with (go_at_call 25; refine (HMK.out _ _ _ HSLM.out).mono ?_; rintro e w5 ⟨rfl, hb5⟩; refine Hid.out ?_)
            refine Lib.hid ?_
            have HC5 := Lib.hid (HCM.out.below hb5)
            have hC2 := HCN.out.below hb5
            have HB5 := Lib.hid (HBM.out.trans (hb5.mono HBM.out.size))
            have k0 := HC5.out.get 0 (.int .i64 0)
            have k1 := HC5.out.get 1 (.string ⟨#[]⟩)
            have k2 := HC5.out.get 2 (.string ⟨#[]⟩)
            have k3 := HC5.out.get 3 (.int .i64 0)
            have kz0 := HC5.out.froz 0
            have kz1 := HC5.out.froz 1
            have kz2 := HC5.out.froz 2
            have kz3 := HC5.out.froz 3
            have l0 := hC2.get 0 (.int .i64 4)
            have l1 := hC2.get 1 (.string ⟨#[]⟩)
            have l2 := hC2.get 2 (.string ⟨#[]⟩)
            have l3 := hC2.get 3 (.int .i64 0)
            have lz1 := hC2.froz 1
            clear hb5 hC2 hq0 HMK
            go_wp2_with fail
            have hne : w.heap.size + 1 ≠ w.heap.size := by omega
            refine bodyPost_ret (v := .agg #[.int .i64 4, .string NM, .string ⟨#[]⟩, .int .i64 0]) ?_ rfl ⟨_, ?_, HTS.out, ?_⟩
            · have hfin := Cs.all4 ((HC5.out.other _ 1 (.string NM) hne)) (a' := .int .i64 4) (b' := .string NM) (c' := .string ⟨#[]⟩) (d' := .int .i64 0)
              have g0 := hfin.get 0 (.int .i64 4)
              have g1 := hfin.get 1 (.string NM)
              have g2 := hfin.get 2 (.string ⟨#[]⟩)
              have g3 := hfin.get 3 (.int .i64 0)
              generalize (((((w5.setCell ⟨w.heap.size + 1, 1, none⟩ (.string NM)).setCell ⟨w.heap.size, 0, none⟩ (.int .i64 4)).setCell ⟨w.heap.size, 1, none⟩ (.string NM)).setCell ⟨w.heap.size, 2, none⟩ (.string ⟨#[]⟩)).setCell ⟨w.heap.size, 3, none⟩ (.int .i64 0)) = WF at g0 g1 g2 g3 ⊢
              simp [results, Tryd.results15, go_sem, g0, g1, g2, g3]
            · rw [HNM.out]; rfl
            · exact below_all4 (HB5.out.setCell (p := ⟨w.heap.size + 1, 1, none⟩) (by simp) (.string NM)) (Nat.le_refl _)
        · have hnsp : X ≠ [] ∨ (tk = 2 ∨ tk = 5) := by
            have := HT4.out
            by_cases hX0 : X = []
            · right; rcases this with h | h | h | h
              · exact absurd ⟨hX0, .inl h⟩ hsp
              · exact .inl h
              · exact absurd ⟨hX0, .inr h⟩ hsp
              · exact .inr h
            · exact .inl hX0
          have HTS := Lib.hid (HTO.out X HFX.out (fun h hX0 => hsp ⟨hX0, h⟩))
          obtain ⟨NM, hNM⟩ : ∃ N, N = baL ((makeL X).getD []) := ⟨_, rfl⟩
          have hmk := fun A c w h => makeX_any A X.length c X w h (fun x hx => by have := (five_ok x (HFX.out.mem x hx)).2.2.2; unfold maxLen; omega) (by unfold maxLen; have := HFX.out.len; omega)
          rw [show sv ((makeL X).getD []) = .string NM by rw [hNM]; rfl] at hmk
          have HMK := Lib.hid hmk
          have HNM := Lib.hid hNM
          clear hmk hNM
          have HCM := HC1w
          have HCN := HC2w
          have HBM := HBw
          have ht := HT4.out
          clear HTO HT4 e0 e3 e6 hsp
          rcases hnsp with hX0 | hk25
          · have hxl : ((X.length : Int) == 0) = false := by
              have := List.length_pos_iff.2 hX0
              rw [beq_eq_false_iff_ne]; omega
            clear hX0
            rcases ht with rfl | rfl | rfl | rfl
            · go_wp2_with (go_at_call 25; refine (HMK.out _ _ _ HSLX.out).mono ?_; rintro e w5 ⟨rfl, hb5⟩; refine Hid.out ?_)
              refine Lib.hid ?_
              have HC5 := Lib.hid (HCM.out.below hb5)
              have hC2 := HCN.out.below hb5
              have HB5 := Lib.hid (HBM.out.trans (hb5.mono HBM.out.size))
              have k0 := HC5.out.get 0 (.int .i64 0)
              have k1 := HC5.out.get 1 (.string ⟨#[]⟩)
              have k2 := HC5.out.get 2 (.string ⟨#[]⟩)
              have k3 := HC5.out.get 3 (.int .i64 0)
              have kz0 := HC5.out.froz 0
              have kz1 := HC5.out.froz 1
              have kz2 := HC5.out.froz 2
              have kz3 := HC5.out.froz 3
              have l0 := hC2.get 0 (.int .i64 1)
              have l1 := hC2.get 1 (.string ⟨#[]⟩)
              have l2 := hC2.get 2 (.string ⟨#[]⟩)
              have l3 := hC2.get 3 (.int .i64 0)
              have lz1 := hC2.froz 1
              clear hb5 hC2 hq0 HMK
              go_wp2_with fail
              have hne : w.heap.size + 1 ≠ w.heap.size := by omega
              refine bodyPost_ret (v := .agg #[.int .i64 1, .string NM, .string ⟨#[]⟩, .int .i64 0]) ?_ rfl ⟨_, ?_, HTS.out, ?_⟩
              · have hfin := Cs.all4 ((HC5.out.other _ 1 (.string NM) hne)) (a' := .int .i64 1) (b' := .string NM) (c' := .string ⟨#[]⟩) (d' := .int .i64 0)
                have g0 := hfin.get 0 (.int .i64 1)
                have g1 := hfin.get 1 (.string NM)
                have g2 := hfin.get 2 (.string ⟨#[]⟩)
                have g3 := hfin.get 3 (.int .i64 0)
                generalize (((((w5.setCell ⟨w.heap.size + 1, 1, none⟩ (.string NM)).setCell ⟨w.heap.size, 0, none⟩ (.int .i64 1)).setCell ⟨w.heap.size, 1, none⟩ (.string NM)).setCell ⟨w.heap.size, 2, none⟩ (.string ⟨#[]⟩)).setCell ⟨w.heap.size, 3, none⟩ (.int .i64 0)) = WF at g0 g1 g2 g3 ⊢
                simp [results, Tryd.results15, go_sem, g0, g1, g2, g3]
              · rw [HNM.out]; rfl
              · exact below_all4 (HB5.out.setCell (p := ⟨w.heap.size + 1, 1, none⟩) (by simp) (.string NM)) (Nat.le_refl _)
            · go_wp2_with (go_at_call 25; refine (HMK.out _ _ _ HSLX.out).mono ?_; rintro e w5 ⟨rfl, hb5⟩; refine Hid.out ?_)
              refine Lib.hid ?_
              have HC5 := Lib.hid (HCM.out.below hb5)
              have hC2 := HCN.out.below hb5
              have HB5 := Lib.hid (HBM.out.trans (hb5.mono HBM.out.size))
              have k0 := HC5.out.get 0 (.int .i64 0)
              have k1 := HC5.out.get 1 (.string ⟨#[]⟩)
              have k2 := HC5.out.get 2 (.string ⟨#[]⟩)
              have k3 := HC5.out.get 3 (.int .i64 0)
              have kz0 := HC5.out.froz 0
              have kz1 := HC5.out.froz 1
              have kz2 := HC5.out.froz 2
              have kz3 := HC5.out.froz 3
              have l0 := hC2.get 0 (.int .i64 2)
              have l1 := hC2.get 1 (.string ⟨#[]⟩)
              have l2 := hC2.get 2 (.string ⟨#[]⟩)
              have l3 := hC2.get 3 (.int .i64 0)
              have lz1 := hC2.froz 1
              clear hb5 hC2 hq0 HMK
              go_wp2_with fail
              have hne : w.heap.size + 1 ≠ w.heap.size := by omega
              refine bodyPost_ret (v := .agg #[.int .i64 2, .string NM, .string ⟨#[]⟩, .int .i64 0]) ?_ rfl ⟨_, ?_, HTS.out, ?_⟩
              · have hfin := Cs.all4 ((HC5.out.other _ 1 (.string NM) hne)) (a' := .int .i64 2) (b' := .string NM) (c' := .string ⟨#[]⟩) (d' := .int .i64 0)
                have g0 := hfin.get 0 (.int .i64 2)
                have g1 := hfin.get 1 (.string NM)
                have g2 := hfin.get 2 (.string ⟨#[]⟩)
                have g3 := hfin.get 3 (.int .i64 0)
                generalize (((((w5.setCell ⟨w.heap.size + 1, 1, none⟩ (.string NM)).setCell ⟨w.heap.size, 0, none⟩ (.int .i64 2)).setCell ⟨w.heap.size, 1, none⟩ (.string NM)).setCell ⟨w.heap.size, 2, none⟩ (.string ⟨#[]⟩)).setCell ⟨w.heap.size, 3, none⟩ (.int .i64 0)) = WF at g0 g1 g2 g3 ⊢
                simp [results, Tryd.results15, go_sem, g0, g1, g2, g3]
              · rw [HNM.out]; rfl
              · exact below_all4 (HB5.out.setCell (p := ⟨w.heap.size + 1, 1, none⟩) (by simp) (.string NM)) (Nat.le_refl _)
            · go_wp2_with (go_at_call 25; refine (HMK.out _ _ _ HSLX.out).mono ?_; rintro e w5 ⟨rfl, hb5⟩; refine Hid.out ?_)
              refine Lib.hid ?_
              have HC5 := Lib.hid (HCM.out.below hb5)
              have hC2 := HCN.out.below hb5
              have HB5 := Lib.hid (HBM.out.trans (hb5.mono HBM.out.size))
              have k0 := HC5.out.get 0 (.int .i64 0)
              have k1 := HC5.out.get 1 (.string ⟨#[]⟩)
              have k2 := HC5.out.get 2 (.string ⟨#[]⟩)
              have k3 := HC5.out.get 3 (.int .i64 0)
              have kz0 := HC5.out.froz 0
              have kz1 := HC5.out.froz 1
              have kz2 := HC5.out.froz 2
              have kz3 := HC5.out.froz 3
              have l0 := hC2.get 0 (.int .i64 4)
              have l1 := hC2.get 1 (.string ⟨#[]⟩)
              have l2 := hC2.get 2 (.string ⟨#[]⟩)
              have l3 := hC2.get 3 (.int .i64 0)
              have lz1 := hC2.froz 1
              clear hb5 hC2 hq0 HMK
              go_wp2_with fail
              have hne : w.heap.size + 1 ≠ w.heap.size := by omega
              refine bodyPost_ret (v := .agg #[.int .i64 4, .string NM, .string ⟨#[]⟩, .int .i64 0]) ?_ rfl ⟨_, ?_, HTS.out, ?_⟩
              · have hfin := Cs.all4 ((HC5.out.other _ 1 (.string NM) hne)) (a' := .int .i64 4) (b' := .string NM) (c' := .string ⟨#[]⟩) (d' := .int .i64 0)
                have g0 := hfin.get 0 (.int .i64 4)
                have g1 := hfin.get 1 (.string NM)
                have g2 := hfin.get 2 (.string ⟨#[]⟩)
                have g3 := hfin.get 3 (.int .i64 0)
                generalize (((((w5.setCell ⟨w.heap.size + 1, 1, none⟩ (.string NM)).setCell ⟨w.heap.size, 0, none⟩ (.int .i64 4)).setCell ⟨w.heap.size, 1, none⟩ (.string NM)).setCell ⟨w.heap.size, 2, none⟩ (.string ⟨#[]⟩)).setCell ⟨w.heap.size, 3, none⟩ (.int .i64 0)) = WF at g0 g1 g2 g3 ⊢
                simp [results, Tryd.results15, go_sem, g0, g1, g2, g3]
              · rw [HNM.out]; rfl
              · exact below_all4 (HB5.out.setCell (p := ⟨w.heap.size + 1, 1, none⟩) (by simp) (.string NM)) (Nat.le_refl _)
            · go_wp2_with (go_at_call 25; refine (HMK.out _ _ _ HSLX.out).mono ?_; rintro e w5 ⟨rfl, hb5⟩; refine Hid.out ?_)
              refine Lib.hid ?_
              have HC5 := Lib.hid (HCM.out.below hb5)
              have hC2 := HCN.out.below hb5
              have HB5 := Lib.hid (HBM.out.trans (hb5.mono HBM.out.size))
              have k0 := HC5.out.get 0 (.int .i64 0)
              have k1 := HC5.out.get 1 (.string ⟨#[]⟩)
              have k2 := HC5.out.get 2 (.string ⟨#[]⟩)
              have k3 := HC5.out.get 3 (.int .i64 0)
              have kz0 := HC5.out.froz 0
              have kz1 := HC5.out.froz 1
              have kz2 := HC5.out.froz 2
              have kz3 := HC5.out.froz 3
              have l0 := hC2.get 0 (.int .i64 5)
              have l1 := hC2.get 1 (.string ⟨#[]⟩)
              have l2 := hC2.get 2 (.string ⟨#[]⟩)
              have l3 := hC2.get 3 (.int .i64 0)
              have lz1 := hC2.froz 1
              clear hb5 hC2 hq0 HMK
              go_wp2_with fail
              have hne : w.heap.size + 1 ≠ w.heap.size := by omega
              refine bodyPost_ret (v := .agg #[.int .i64 5, .string NM, .string ⟨#[]⟩, .int .i64 0]) ?_ rfl ⟨_, ?_, HTS.out, ?_⟩
              · have hfin := Cs.all4 ((HC5.out.other _ 1 (.string NM) hne)) (a' := .int .i64 5) (b' := .string NM) (c' := .string ⟨#[]⟩) (d' := .int .i64 0)
                have g0 := hfin.get 0 (.int .i64 5)
                have g1 := hfin.get 1 (.string NM)
                have g2 := hfin.get 2 (.string ⟨#[]⟩)
                have g3 := hfin.get 3 (.int .i64 0)
                generalize (((((w5.setCell ⟨w.heap.size + 1, 1, none⟩ (.string NM)).setCell ⟨w.heap.size, 0, none⟩ (.int .i64 5)).setCell ⟨w.heap.size, 1, none⟩ (.string NM)).setCell ⟨w.heap.size, 2, none⟩ (.string ⟨#[]⟩)).setCell ⟨w.heap.size, 3, none⟩ (.int .i64 0)) = WF at g0 g1 g2 g3 ⊢
                simp [results, Tryd.results15, go_sem, g0, g1, g2, g3]
              · rw [HNM.out]; rfl
              · exact below_all4 (HB5.out.setCell (p := ⟨w.heap.size + 1, 1, none⟩) (by simp) (.string NM)) (Nat.le_refl _)
          · clear ht
            cases hxl : ((X.length : Int) == 0) with
            | true =>
              rcases hk25 with rfl | rfl
              · go_wp2_with (go_at_call 25; refine (HMK.out _ _ _ HSLX.out).mono ?_; rintro e w5 ⟨rfl, hb5⟩; refine Hid.out ?_)
                refine Lib.hid ?_
                have HC5 := Lib.hid (HCM.out.below hb5)
                have hC2 := HCN.out.below hb5
                have HB5 := Lib.hid (HBM.out.trans (hb5.mono HBM.out.size))
                have k0 := HC5.out.get 0 (.int .i64 0)
                have k1 := HC5.out.get 1 (.string ⟨#[]⟩)
                have k2 := HC5.out.get 2 (.string ⟨#[]⟩)
                have k3 := HC5.out.get 3 (.int .i64 0)
                have kz0 := HC5.out.froz 0
                have kz1 := HC5.out.froz 1
                have kz2 := HC5.out.froz 2
                have kz3 := HC5.out.froz 3
                have l0 := hC2.get 0 (.int .i64 2)
                have l1 := hC2.get 1 (.string ⟨#[]⟩)
                have l2 := hC2.get 2 (.string ⟨#[]⟩)
                have l3 := hC2.get 3 (.int .i64 0)
                have lz1 := hC2.froz 1
                clear hb5 hC2 hq0 HMK
                go_wp2_with fail
                have hne : w.heap.size + 1 ≠ w.heap.size := by omega
                refine bodyPost_ret (v := .agg #[.int .i64 2, .string NM, .string ⟨#[]⟩, .int .i64 0]) ?_ rfl ⟨_, ?_, HTS.out, ?_⟩
                · have hfin := Cs.all4 ((HC5.out.other _ 1 (.string NM) hne)) (a' := .int .i64 2) (b' := .string NM) (c' := .string ⟨#[]⟩) (d' := .int .i64 0)
                  have g0 := hfin.get 0 (.int .i64 2)
                  have g1 := hfin.get 1 (.string NM)
                  have g2 := hfin.get 2 (.string ⟨#[]⟩)
                  have g3 := hfin.get 3 (.int .i64 0)
                  generalize (((((w5.setCell ⟨w.heap.size + 1, 1, none⟩ (.string NM)).setCell ⟨w.heap.size, 0, none⟩ (.int .i64 2)).setCell ⟨w.heap.size, 1, none⟩ (.string NM)).setCell ⟨w.heap.size, 2, none⟩ (.string ⟨#[]⟩)).setCell ⟨w.heap.size, 3, none⟩ (.int .i64 0)) = WF at g0 g1 g2 g3 ⊢
                  simp [results, Tryd.results15, go_sem, g0, g1, g2, g3]
                · rw [HNM.out]; rfl
                · exact below_all4 (HB5.out.setCell (p := ⟨w.heap.size + 1, 1, none⟩) (by simp) (.string NM)) (Nat.le_refl _)
              · go_wp2_with (go_at_call 25; refine (HMK.out _ _ _ HSLX.out).mono ?_; rintro e w5 ⟨rfl, hb5⟩; refine Hid.out ?_)
                refine Lib.hid ?_
                have HC5 := Lib.hid (HCM.out.below hb5)
                have hC2 := HCN.out.below hb5
                have HB5 := Lib.hid (HBM.out.trans (hb5.mono HBM.out.size))
                have k0 := HC5.out.get 0 (.int .i64 0)
                have k1 := HC5.out.get 1 (.string ⟨#[]⟩)
                have k2 := HC5.out.get 2 (.string ⟨#[]⟩)
                have k3 := HC5.out.get 3 (.int .i64 0)
                have kz0 := HC5.out.froz 0
                have kz1 := HC5.out.froz 1
                have kz2 := HC5.out.froz 2
                have kz3 := HC5.out.froz 3
                have l0 := hC2.get 0 (.int .i64 5)
                have l1 := hC2.get 1 (.string ⟨#[]⟩)
                have l2 := hC2.get 2 (.string ⟨#[]⟩)
                have l3 := hC2.get 3 (.int .i64 0)
                have lz1 := hC2.froz 1
                clear hb5 hC2 hq0 HMK
                go_wp2_with fail
                have hne : w.heap.size + 1 ≠ w.heap.size := by omega
                refine bodyPost_ret (v := .agg #[.int .i64 5, .string NM, .string ⟨#[]⟩, .int .i64 0]) ?_ rfl ⟨_, ?_, HTS.out, ?_⟩
                · have hfin := Cs.all4 ((HC5.out.other _ 1 (.string NM) hne)) (a' := .int .i64 5) (b' := .string NM) (c' := .string ⟨#[]⟩) (d' := .int .i64 0)
                  have g0 := hfin.get 0 (.int .i64 5)
                  have g1 := hfin.get 1 (.string NM)
                  have g2 := hfin.get 2 (.string ⟨#[]⟩)
                  have g3 := hfin.get 3 (.int .i64 0)
                  generalize (((((w5.setCell ⟨w.heap.size + 1, 1, none⟩ (.string NM)).setCell ⟨w.heap.size, 0, none⟩ (.int .i64 5)).setCell ⟨w.heap.size, 1, none⟩ (.string NM)).setCell ⟨w.heap.size, 2, none⟩ (.string ⟨#[]⟩)).setCell ⟨w.heap.size, 3, none⟩ (.int .i64 0)) = WF at g0 g1 g2 g3 ⊢
                  simp [results, Tryd.results15, go_sem, g0, g1, g2, g3]
                · rw [HNM.out]; rfl
                · exact below_all4 (HB5.out.setCell (p := ⟨w.heap.size + 1, 1, none⟩) (by simp) (.string NM)) (Nat.le_refl _)
            | false =>
              rcases hk25 with rfl | rfl
              · go_wp2_with (go_at_call 25; refine (HMK.out _ _ _ HSLX.out).mono ?_; rintro e w5 ⟨rfl, hb5⟩; refine Hid.out ?_)
                refine Lib.hid ?_
                have HC5 := Lib.hid (HCM.out.below hb5)
                have hC2 := HCN.out.below hb5
                have HB5 := Lib.hid (HBM.out.trans (hb5.mono HBM.out.size))
                have k0 := HC5.out.get 0 (.int .i64 0)
                have k1 := HC5.out.get 1 (.string ⟨#[]⟩)
                have k2 := HC5.out.get 2 (.string ⟨#[]⟩)
                have k3 := HC5.out.get 3 (.int .i64 0)
                have kz0 := HC5.out.froz 0
                have kz1 := HC5.out.froz 1
                have kz2 := HC5.out.froz 2
                have kz3 := HC5.out.froz 3
                have l0 := hC2.get 0 (.int .i64 2)
                have l1 := hC2.get 1 (.string ⟨#[]⟩)
                have l2 := hC2.get 2 (.string ⟨#[]⟩)
                have l3 := hC2.get 3 (.int .i64 0)
                have lz1 := hC2.froz 1
                clear hb5 hC2 hq0 HMK
                go_wp2_with fail
                have hne : w.heap.size + 1 ≠ w.heap.size := by omega
                refine bodyPost_ret (v := .agg #[.int .i64 2, .string NM, .string ⟨#[]⟩, .int .i64 0]) ?_ rfl ⟨_, ?_, HTS.out, ?_⟩
                · have hfin := Cs.all4 ((HC5.out.other _ 1 (.string NM) hne)) (a' := .int .i64 2) (b' := .string NM) (c' := .string ⟨#[]⟩) (d' := .int .i64 0)
                  have g0 := hfin.get 0 (.int .i64 2)
                  have g1 := hfin.get 1 (.string NM)
                  have g2 := hfin.get 2 (.string ⟨#[]⟩)
                  have g3 := hfin.get 3 (.int .i64 0)
                  generalize (((((w5.setCell ⟨w.heap.size + 1, 1, none⟩ (.string NM)).setCell ⟨w.heap.size, 0, none⟩ (.int .i64 2)).setCell ⟨w.heap.size, 1, none⟩ (.string NM)).setCell ⟨w.heap.size, 2, none⟩ (.string ⟨#[]⟩)).setCell ⟨w.heap.size, 3, none⟩ (.int .i64 0)) = WF at g0 g1 g2 g3 ⊢
                  simp [results, Tryd.results15, go_sem, g0, g1, g2, g3]
                · rw [HNM.out]; rfl
                · exact below_all4 (HB5.out.setCell (p := ⟨w.heap.size + 1, 1, none⟩) (by simp) (.string NM)) (Nat.le_refl _)
              · go_wp2_with (go_at_call 25; refine (HMK.out _ _ _ HSLX.out).mono ?_; rintro e w5 ⟨rfl, hb5⟩; refine Hid.out ?_)
                refine Lib.hid ?_
                have HC5 := Lib.hid (HCM.out.below hb5)
                have hC2 := HCN.out.below hb5
                have HB5 := Lib.hid (HBM.out.trans (hb5.mono HBM.out.size))
                have k0 := HC5.out.get 0 (.int .i64 0)
                have k1 := HC5.out.get 1 (.string ⟨#[]⟩)
                have k2 := HC5.out.get 2 (.string ⟨#[]⟩)
                have k3 := HC5.out.get 3 (.int .i64 0)
                have kz0 := HC5.out.froz 0
                have kz1 := HC5.out.froz 1
                have kz2 := HC5.out.froz 2
                have kz3 := HC5.out.froz 3
                have l0 := hC2.get 0 (.int .i64 5)
                have l1 := hC2.get 1 (.string ⟨#[]⟩)
                have l2 := hC2.get 2 (.string ⟨#[]⟩)
                have l3 := hC2.get 3 (.int .i64 0)
                have lz1 := hC2.froz 1
                clear hb5 hC2 hq0 HMK
                go_wp2_with fail
                have hne : w.heap.size + 1 ≠ w.heap.size := by omega
                refine bodyPost_ret (v := .agg #[.int .i64 5, .string NM, .string ⟨#[]⟩, .int .i64 0]) ?_ rfl ⟨_, ?_, HTS.out, ?_⟩
                · have hfin := Cs.all4 ((HC5.out.other _ 1 (.string NM) hne)) (a' := .int .i64 5) (b' := .string NM) (c' := .string ⟨#[]⟩) (d' := .int .i64 0)
                  have g0 := hfin.get 0 (.int .i64 5)
                  have g1 := hfin.get 1 (.string NM)
                  have g2 := hfin.get 2 (.string ⟨#[]⟩)
                  have g3 := hfin.get 3 (.int .i64 0)
                  generalize (((((w5.setCell ⟨w.heap.size + 1, 1, none⟩ (.string NM)).setCell ⟨w.heap.size, 0, none⟩ (.int .i64 5)).setCell ⟨w.heap.size, 1, none⟩ (.string NM)).setCell ⟨w.heap.size, 2, none⟩ (.string ⟨#[]⟩)).setCell ⟨w.heap.size, 3, none⟩ (.int .i64 0)) = WF at g0 g1 g2 g3 ⊢
                  simp [results, Tryd.results15, go_sem, g0, g1, g2, g3]
                · rw [HNM.out]; rfl
                · exact below_all4 (HB5.out.setCell (p := ⟨w.heap.size + 1, 1, none⟩) (by simp) (.string NM)) (Nat.le_refl _)
end Go.Proofs.YtodpaejakgjblaaDoor
namespace Go.Proofs.YtodpaejakgjblaaDoor
open Go.RowKit
set_option linter.unusedVariables false
set_option maxRecDepth 20000

theorem trigA_shape (t : Trig) : ∃ tk TN TA tb, trigA t = .agg #[.int .i64 tk, .string TN, .string TA, .int .i64 tb] ∧ t = toT tk TN TA tb := ⟨t.kind, baL t.name, baL t.addr, t.bits, rfl, by simp [toT, baL]⟩

set_option maxHeartbeats 8000000 in
theorem code_any (kd : Int) (hkd : 0 ≤ kd ∧ kd ≤ 255) (A : Option Addr) (n c : Nat) (zs : List Int) (six : Bool) (bits : Int) (hb : 0 ≤ bits ∧ bits ≤ 255) (w : World)
    (hA : Sl w w.heap.size 1 A n (zs.map (Value.int .u8))) (hz : ∀ z ∈ zs, 0 ≤ z ∧ z < 256) (hn : n ≤ 140737488355328) :
    Calls Tryd.prog 28 #[.agg #[.int .u8 kd, .slice A n c, .bool six, .int .u8 bits]] w fun e w' => ∃ t : Trig, e = .returned (trigA t) ∧ TrigOk kd t ∧ Below w.heap.size w w' := by
  obtain ⟨W0, hW0⟩ : ∃ W0, W0 = (w.alloc (.cells #[.int .u8 kd, .slice A n c, .bool six, .int .u8 bits] 55)).alloc (.cells #[.int .i64 0, .string ⟨#[]⟩, .string ⟨#[]⟩, .int .i64 0] 29) := ⟨_, rfl⟩
  have hc2 : Cs W0 (w.heap.size + 1) [.int .i64 0, .string ⟨#[]⟩, .string ⟨#[]⟩, .int .i64 0] := by
    rw [hW0]
    exact (Cs.new (w.alloc (.cells #[.int .u8 kd, .slice A n c, .bool six, .int .u8 bits] 55)) _ _ _).at_ _ (by simp)
  have hb0 : Below w.heap.size w W0 := by
    rw [hW0]
    have h1 := (Below.refl w.heap.size w).alloc (Nat.le_refl _) (.cells #[.int .u8 kd, .slice A n c, .bool six, .int .u8 bits] 55)
    exact h1.alloc h1.size _
  have htr := trigger13_any kd hkd A n c zs six bits hb W0 ((hA.below hb0).more hb0.size) hz hn
  have HT := Lib.hid htr
  have HC2 := Lib.hid hc2
  have HB0 := Lib.hid hb0
  have HW0 := Lib.hid hW0
  clear htr hc2 hb0 hW0 hA hz hkd hb
  go_enter Tryd.func28, Tryd.ntmps28
  go_wp2_with (go_at_call 15; rw [← HW0.out]; refine HT.out.mono ?_; rintro e w1 ⟨t, rfl, hok, hb1⟩; refine Hid.out ?_)
  refine Lib.hid ?_
  have hC2 := HC2.out.below hb1
  obtain ⟨tk, TN, TA, tb, hsh, htt⟩ := trigA_shape t
  rw [hsh]
  have HOK := Lib.hid hok
  have HSH := Lib.hid hsh
  have HB1 := Lib.hid (HB0.out.trans (hb1.mono HB0.out.size))
  have l0 := hC2.get 0 (.int .i64 0)
  have l1 := hC2.get 1 (.string ⟨#[]⟩)
  have l2 := hC2.get 2 (.string ⟨#[]⟩)
  have l3 := hC2.get 3 (.int .i64 0)
  have lz0 := hC2.froz 0
  have lz1 := hC2.froz 1
  have lz2 := hC2.froz 2
  have lz3 := hC2.froz 3
  have HC := Lib.hid hC2
  clear hC2 hb1 hok hsh htt HC2
  go_wp2_with fail
  refine bodyPost_ret (v := .agg #[.int .i64 tk, .string TN, .string TA, .int .i64 tb]) ?_ rfl ⟨t, by rw [HSH.out], HOK.out, ?_⟩
  · have hfin := Cs.all4 HC.out (a' := .int .i64 tk) (b' := .string TN) (c' := .string TA) (d' := .int .i64 tb)
    have g0 := hfin.get 0 (.int .i64 tk)
    have g1 := hfin.get 1 (.string TN)
    have g2 := hfin.get 2 (.string TA)
    have g3 := hfin.get 3 (.int .i64 tb)
    generalize ((((w1.setCell ⟨w.heap.size + 1, 0, none⟩ (.int .i64 tk)).setCell ⟨w.heap.size + 1, 1, none⟩ (.string TN)).setCell ⟨w.heap.size + 1, 2, none⟩ (.string TA)).setCell ⟨w.heap.size + 1, 3, none⟩ (.int .i64 tb)) = WF at g0 g1 g2 g3 ⊢
    simp [results, Tryd.results28, go_sem, g0, g1, g2, g3]
  · exact below_all4 HB1.out (by omega)
end Go.Proofs.YtodpaejakgjblaaDoor
namespace Go.Proofs.YtodpaejakgjblaaDoor
open Go.RowKit
set_option linter.unusedVariables false
set_option linter.unusedSimpArgs false
set_option maxRecDepth 20000
attribute [local simp] putsF isV wordOf Deps Region.binds Region.wanted Act.put wantedX isB
theorem mk_follows : Tryd.prog.follows .mixedOrders = true := by kernel_rfl
theorem mktail_cons {P : Program} {Q : Exit → Act → World → Prop} (o : Oper) (os : List Oper) (a : Act) (w : World) : tailWp P Q (o :: os) a w = Oper.wp P o a w (fun a' w' => ∃ v, a' = a.put o.dst v ∧ tailWp P Q os a' w') Q := rfl
theorem mktail_nil {P : Program} {Q : Exit → Act → World → Prop} (a : Act) (w : World) : tailWp P Q [] a w = Q .normal a w := rfl
theorem nameZ_is (zs : List Int) (hz : ∀ z ∈ zs, 0 ≤ z ∧ z < 256) : (nameLabels (nameZ zs)).isSome = true := by
  have h := few_labels (wordsZ_ok zs hz) (wordsZ_len zs)
  unfold labelsOf at h
  rw [show (ByteArray.mk (wire (wordsZ zs)).toArray).data.toList = wire (wordsZ zs) by simp] at h
  unfold nameZ
  rw [h]; rfl
def strW (m : Nat) : Value → World → Prop := fun v _ => ∃ s : ByteArray, v = .string s ∧ s.size ≤ m
def trigW' (kd : Int) : Value → World → Prop := fun v _ => ∃ t, v = trigA t ∧ TrigOk kd t
/-- An event that may be. -/
def SeedIs (v : Value) : Prop := ∃ (T : Int) (C N : ByteArray) (ty z tk : Int) (TN TA : ByteArray) (tb ac : Int), v = .agg #[.int .i64 T, .string C, .string N, .int .u16 ty, .int .i64 z, .int .i64 tk, .string TN, .string TA, .int .i64 tb, .int .i64 ac] ∧
  mayE (toE T C N ty z tk TN TA tb ac) = true ∧ C.size ≤ 16 ∧ N.size ≤ 254 ∧ TN.size ≤ 254 ∧ TA.size ≤ 16 ∧ 0 ≤ ty ∧ ty < 65536
def seedW : Value → World → Prop := fun v _ => SeedIs v

set_option maxHeartbeats 16000000 in
theorem make25_any (wh : Int) (hwh : 0 ≤ wh ∧ wh ≤ 4294967295) (A1 : Option Addr) (n1 c1 : Nat) (l1 : List UInt8) (A2 : Option Addr) (n2 c2 : Nat) (zs2 : List Int) (kd : Int) (hkd : 0 ≤ kd ∧ kd ≤ 65535) (zo : Int) (hzo : 0 ≤ zo ∧ zo ≤ 255)
    (k : Int) (hk : 0 ≤ k ∧ k ≤ 255) (A3 : Option Addr) (n3 c3 : Nat) (zs3 : List Int) (six : Bool) (bt : Int) (hbt : 0 ≤ bt ∧ bt ≤ 255) (ac : Int) (hac : 0 ≤ ac ∧ ac ≤ 255) (w : World)
    (hA1 : Sl w w.heap.size 1 A1 n1 (l1.map bv)) (hn1 : n1 ≤ 140737488355328) (hA2 : Sl w w.heap.size 1 A2 n2 (zs2.map (Value.int .u8))) (hz2 : ∀ z ∈ zs2, 0 ≤ z ∧ z < 256) (hn2 : n2 ≤ 140737488355328)
    (hA3 : Sl w w.heap.size 1 A3 n3 (zs3.map (Value.int .u8))) (hz3 : ∀ z ∈ zs3, 0 ≤ z ∧ z < 256) (hn3 : n3 ≤ 140737488355328) :
    Calls Tryd.prog 30 #[.agg #[.int .u32 wh, .slice A1 n1 c1, .slice A2 n2 c2, .int .u16 kd, .int .u8 zo, .int .u8 k, .slice A3 n3 c3, .bool six, .int .u8 bt, .int .u8 ac]] w fun e w' => ∃ v, e = .returned v ∧ SeedIs v ∧ Below w.heap.size w w' := by
  have had := fun w h => addr_any six A1 n1 c1 l1 w h hn1
  have hnm := fun w h => name_any A2 n2 c2 zs2 w h hz2 (by unfold maxLen; omega)
  have hcd := fun (wx : World) h => code_any k hk A3 n3 c3 zs3 six bt hbt wx h hz3 hn3
  obtain ⟨NM, hNM⟩ : ∃ N, N = baL (nameZ zs2) := ⟨_, rfl⟩
  rw [show sv (nameZ zs2) = .string NM by rw [hNM]; rfl] at hnm
  have hNMd : NM.data.toList = nameZ zs2 := by rw [hNM]; simp [baL]
  have hnml : (nameLabels NM.data.toList).isSome = true := by rw [hNMd]; exact nameZ_is zs2 hz2
  have hNMs : NM.size ≤ 254 := by
    obtain ⟨ls, hls⟩ := Option.isSome_iff_exists.1 hnml
    have := ((nameLabels_iff _ _).1 hls).1
    have h2 : NM.size = NM.data.toList.length := by simp
    omega
  have haN : addrN six ≤ 16 := by cases six <;> simp [addrN]
  have hzt : zo.tmod 32 = zo % 32 := Int.tmod_eq_emod_of_nonneg hzo.1
  have hat : ac.tmod 9 = ac % 9 := Int.tmod_eq_emod_of_nonneg hac.1
  have w1 : IntKind.i64.wrap wh = wh := IntWalk.i64_in _ (by omega)
  have w2 : IntKind.i64.wrap (zo % 32) = zo % 32 := IntWalk.i64_in _ (by omega)
  have w3 : IntKind.i64.wrap (ac % 9) = ac % 9 := IntWalk.i64_in _ (by omega)
  have hev : ∀ (C : ByteArray) (t : Trig), C.size ≤ 16 → TrigOk k t → SeedIs (.agg #[.int .i64 wh, .string C, .string NM, .int .u16 kd, .int .i64 (zo % 32), .int .i64 t.kind, .string (baL t.name), .string (baL t.addr), .int .i64 t.bits, .int .i64 (ac % 9)]) := by
    intro C t hC ht
    have hsm := ht.small
    refine ⟨_, _, _, _, _, _, _, _, _, _, rfl, ?_, hC, hNMs, by rw [baL_size]; omega, by rw [baL_size]; omega, hkd.1, by omega⟩
    have htt : toT t.kind (baL t.name) (baL t.addr) t.bits = t := (toT_surj t).symm
    have henc := ht.good.enc
    have hrl := enc_len' henc
    have hcl : C.data.toList.length ≤ 16 := by rw [show C.data.toList.length = C.size by simp]; exact hC
    obtain ⟨ls, hls⟩ := Option.isSome_iff_exists.1 hnml
    refine mayE_iff.2 ⟨⟨_, by show encR (toT t.kind (baL t.name) (baL t.addr) t.bits) = _; rw [htt]; exact henc, hrl⟩, hwh, hcl, ⟨ls, hls, ((nameLabels_iff _ _).1 hls).1⟩, ?_, ?_⟩
    · show 0 ≤ zo % 32 ∧ zo % 32 ≤ 31; omega
    · show 0 ≤ ac % 9 ∧ ac % 9 ≤ 8; omega
  have HEV := Lib.hid hev
  have HAD := Lib.hid had
  have HNM := Lib.hid hnm
  have HCD := Lib.hid hcd
  have HHN := Lib.hid haN
  obtain ⟨W0, hW0⟩ : ∃ W0, W0 = (w.alloc (.cells #[.int .u32 wh, .slice A1 n1 c1, .slice A2 n2 c2, .int .u16 kd, .int .u8 zo, .int .u8 k, .slice A3 n3 c3, .bool six, .int .u8 bt, .int .u8 ac] 64)).alloc (.cells #[.int .i64 0, .string ⟨#[]⟩, .string ⟨#[]⟩, .int .u16 0, .int .i64 0, .int .i64 0, .string ⟨#[]⟩, .string ⟨#[]⟩, .int .i64 0, .int .i64 0] 68) := ⟨_, rfl⟩
  have hC0 : Cs W0 w.heap.size [.int .u32 wh, .slice A1 n1 c1, .slice A2 n2 c2, .int .u16 kd, .int .u8 zo, .int .u8 k, .slice A3 n3 c3, .bool six, .int .u8 bt, .int .u8 ac] := by rw [hW0]; exact (Cs.new w _ _ _).alloc _
  have hD0 : Cs W0 (w.heap.size + 1) [.int .i64 0, .string ⟨#[]⟩, .string ⟨#[]⟩, .int .u16 0, .int .i64 0, .int .i64 0, .string ⟨#[]⟩, .string ⟨#[]⟩, .int .i64 0, .int .i64 0] := by
    rw [hW0]
    exact (Cs.new (w.alloc (.cells #[.int .u32 wh, .slice A1 n1 c1, .slice A2 n2 c2, .int .u16 kd, .int .u8 zo, .int .u8 k, .slice A3 n3 c3, .bool six, .int .u8 bt, .int .u8 ac] 64)) _ _ _).at_ _ (by simp)
  have hB0 : Below w.heap.size w W0 := by
    rw [hW0]
    have h1 := (Below.refl w.heap.size w).alloc (Nat.le_refl _) (.cells #[.int .u32 wh, .slice A1 n1 c1, .slice A2 n2 c2, .int .u16 kd, .int .u8 zo, .int .u8 k, .slice A3 n3 c3, .bool six, .int .u8 bt, .int .u8 ac] 64)
    exact h1.alloc h1.size _
  have H1 := Lib.hid ((hA1.below hB0).more hB0.size)
  have H2 := Lib.hid ((hA2.below hB0).more hB0.size)
  have H3 := Lib.hid ((hA3.below hB0).more hB0.size)
  have HC0 := Lib.hid hC0
  have HD0 := Lib.hid hD0
  have HB0 := Lib.hid hB0
  clear had hnm hcd hNM hNMd hnml hNMs haN hC0 hD0 hB0 hA1 hA2 hA3 hz2 hz3 hn1 hn2 hn3 hwh hkd hk hbt hev
  obtain ⟨za, -⟩ := hzo
  obtain ⟨aa, -⟩ := hac
  go_enter Tryd.func30, Tryd.ntmps30
  go_upto_region 1 with fail
  rw [← hW0]
  clear hW0
  refine wp_region_tail mk_follows (fun x => by simp [putsF, Act.put]; rfl) (fun v => Below W0.heap.size W0 v)
    [isV (.pointer (some ⟨w.heap.size, 0, none⟩)), isV (.int .u32 wh), isV (.int .i64 wh), isV (.pointer (some ⟨w.heap.size, 5, none⟩)), isV (.pointer (some ⟨w.heap.size, 7, none⟩)), isV (.bool six), isV (.pointer (some ⟨w.heap.size, 1, none⟩)), isV (.slice A1 n1 c1), strW 16, isV (.pointer (some ⟨w.heap.size, 2, none⟩)), isV (.slice A2 n2 c2), isV (.string NM), isV (.pointer (some ⟨w.heap.size, 3, none⟩)), isV (.int .u16 kd), isV (.pointer (some ⟨w.heap.size, 4, none⟩)), isV (.int .u8 zo), isV (.int .u8 (zo % 32)), isV (.int .i64 (zo % 32)), isV (.pointer (some ⟨w.heap.size, 5, none⟩)), isV (.agg #[.int .u8 k, .slice A3 n3 c3, .bool six, .int .u8 bt]), trigW' k, isV (.pointer (some ⟨w.heap.size, 9, none⟩)), isV (.int .u8 ac), isV (.int .u8 (ac % 9)), isV (.int .i64 (ac % 9)), seedW]
    26 [] (by kernel_rfl) (by kernel_rfl) (by kernel_rfl) rfl (by kernel_rfl) (by kernel_rfl) ?_ (Below.refl _ _).drew ?_ ?_
  · repeat (first | exact trivial | refine ⟨by first | exact isV_stays _ | exact fun _ _ _ h _ => h, ?_⟩)
  · refine ⟨?_, ?_, ?_, ?_, ?_, ?_, ?_, ?_, ?_, ?_, ?_, ?_, ?_, ?_, ?_, ?_, ?_, ?_, ?_, ?_, ?_, ?_, ?_, ?_, ?_, ?_, skipped rfl, trivial⟩
    all_goals
      intro _ x wx hR hd
      refine ⟨fun _ => ?_, fun hX => by simp at hX⟩
      simp at hd ⊢
    · go_simp; exact nextL _ rfl rfl hR (Below.refl _ _)
    · have hc := HC0.out.below hR
      have k0 := hc.get 0 (.int .u32 wh)
      clear hc
      go_simp; exact nextL _ rfl rfl hR (Below.refl _ _)
    · go_simp; exact nextL _ rfl rfl hR (Below.refl _ _)
    · go_simp; exact nextL _ rfl rfl hR (Below.refl _ _)
    · go_simp; exact nextL _ rfl rfl hR (Below.refl _ _)
    · have hc := HC0.out.below hR
      have k7 := hc.get 7 (.bool six)
      clear hc
      go_simp; exact nextL _ rfl rfl hR (Below.refl _ _)
    · go_simp; exact nextL _ rfl rfl hR (Below.refl _ _)
    · have hc := HC0.out.below hR
      have k1 := hc.get 1 (.slice A1 n1 c1)
      clear hc
      go_simp; exact nextL _ rfl rfl hR (Below.refl _ _)
    · obtain ⟨hd1, hd2⟩ := hd
      go_simp
      go_at_call 36
      refine (HAD.out wx ((H1.out.below hR).more hR.size)).mono ?_
      rintro e wy ⟨s, hs, rfl, hby⟩
      exact nextL _ rfl ⟨s, rfl, by have := HHN.out; omega⟩ (hR.trans (hby.mono hR.size)) hby
    · go_simp; exact nextL _ rfl rfl hR (Below.refl _ _)
    · have hc := HC0.out.below hR
      have k2 := hc.get 2 (.slice A2 n2 c2)
      clear hc
      go_simp; exact nextL _ rfl rfl hR (Below.refl _ _)
    · try obtain ⟨hd1, hd2⟩ := hd
      go_simp
      go_at_call 26
      refine (HNM.out wx ((H2.out.below hR).more hR.size)).mono ?_
      rintro e wy ⟨rfl, hby⟩
      exact nextL _ rfl rfl (hR.trans (hby.mono hR.size)) hby
    · go_simp; exact nextL _ rfl rfl hR (Below.refl _ _)
    · have hc := HC0.out.below hR
      have k3 := hc.get 3 (.int .u16 kd)
      clear hc
      go_simp; exact nextL _ rfl rfl hR (Below.refl _ _)
    · go_simp; exact nextL _ rfl rfl hR (Below.refl _ _)
    · have hc := HC0.out.below hR
      have k4 := hc.get 4 (.int .u8 zo)
      clear hc
      go_simp; exact nextL _ rfl rfl hR (Below.refl _ _)
    · go_simp; exact nextL _ rfl rfl hR (Below.refl _ _)
    · go_simp; exact nextL _ rfl rfl hR (Below.refl _ _)
    · go_simp; exact nextL _ rfl rfl hR (Below.refl _ _)
    · have hc := HC0.out.below hR
      have k5 := hc.get 5 (.int .u8 k)
      have k6 := hc.get 6 (.slice A3 n3 c3)
      have k7 := hc.get 7 (.bool six)
      have k8 := hc.get 8 (.int .u8 bt)
      clear hc
      go_simp; exact nextL _ rfl rfl hR (Below.refl _ _)
    · try obtain ⟨hd1, hd2⟩ := hd
      go_simp
      go_at_call 28
      refine (HCD.out wx ((H3.out.below hR).more hR.size)).mono ?_
      rintro e wy ⟨t, rfl, hok, hby⟩
      exact nextL _ rfl ⟨t, rfl, hok⟩ (hR.trans (hby.mono hR.size)) hby
    · go_simp; exact nextL _ rfl rfl hR (Below.refl _ _)
    · have hc := HC0.out.below hR
      have k9 := hc.get 9 (.int .u8 ac)
      clear hc
      go_simp; exact nextL _ rfl rfl hR (Below.refl _ _)
    · go_simp; exact nextL _ rfl rfl hR (Below.refl _ _)
    · go_simp; exact nextL _ rfl rfl hR (Below.refl _ _)
    · obtain ⟨d1, ⟨C, hxC, hCs⟩, d3, d4, d5, ⟨t, hxt, hok⟩, d7⟩ := hd
      rw [hxC, hxt]
      have hq := HEV.out C t hCs hok
      have hta : trigA t = .agg #[.int .i64 t.kind, .string (baL t.name), .string (baL t.addr), .int .i64 t.bits] := rfl
      rw [hta]
      clear hxt hta hxC
      go_simp; exact nextL _ rfl hq hR (Below.refl _ _)
  intro x w5 hR5 hx _
  have hx25 : SeedIs (x 25) := by simp [AllWords] at hx; exact hx.2.2.2.2.2.2.2.2.2.2.2.2.2.2.2.2.2.2.2.2.2.2.2.2.2
  have hD5 := HD0.out.below hR5
  have HB5 := Lib.hid (HB0.out.trans (hR5.mono HB0.out.size))
  have m0 := hD5.get 0 (.int .i64 0)
  have m1 := hD5.get 1 (.string ⟨#[]⟩)
  have m2 := hD5.get 2 (.string ⟨#[]⟩)
  have m3 := hD5.get 3 (.int .u16 0)
  have m4 := hD5.get 4 (.int .i64 0)
  have m5 := hD5.get 5 (.int .i64 0)
  have m6 := hD5.get 6 (.string ⟨#[]⟩)
  have m7 := hD5.get 7 (.string ⟨#[]⟩)
  have m8 := hD5.get 8 (.int .i64 0)
  have m9 := hD5.get 9 (.int .i64 0)
  have f0 := hD5.froz 0
  have f1 := hD5.froz 1
  have f2 := hD5.froz 2
  have f3 := hD5.froz 3
  have f4 := hD5.froz 4
  have f5 := hD5.froz 5
  have f6 := hD5.froz 6
  have f7 := hD5.froz 7
  have f8 := hD5.froz 8
  have f9 := hD5.froz 9
  have HD5 := Lib.hid hD5
  have HSE := Lib.hid hx25
  obtain ⟨T, C, N, ty, z, tk, TN, TA, tb, av, hxv, -⟩ := hx25
  change tailWp _ _ [_] _ _
  rw [mktail_cons, hxv]
  clear hx hD5 hR5 HAD HNM HCD HHN H1 H2 H3 HC0 HD0 HB0
  go_simp
  rw [mktail_nil]
  go_wp2_with fail
  refine bodyPost_ret (v := .agg #[.int .i64 T, .string C, .string N, .int .u16 ty, .int .i64 z, .int .i64 tk, .string TN, .string TA, .int .i64 tb, .int .i64 av]) ?_ rfl ?_
  · have hfin := Cs.all10 HD5.out (.int .i64 T) (.string C) (.string N) (.int .u16 ty) (.int .i64 z) (.int .i64 tk) (.string TN) (.string TA) (.int .i64 tb) (.int .i64 av)
    have g0 := hfin.get 0 (.int .i64 T)
    have g1 := hfin.get 1 (.string C)
    have g2 := hfin.get 2 (.string N)
    have g3 := hfin.get 3 (.int .u16 ty)
    have g4 := hfin.get 4 (.int .i64 z)
    have g5 := hfin.get 5 (.int .i64 tk)
    have g6 := hfin.get 6 (.string TN)
    have g7 := hfin.get 7 (.string TA)
    have g8 := hfin.get 8 (.int .i64 tb)
    have g9 := hfin.get 9 (.int .i64 av)
    generalize (World.setCell (World.setCell (World.setCell (World.setCell (World.setCell (World.setCell (World.setCell (World.setCell (World.setCell (World.setCell w5 ⟨w.heap.size + 1, 0, none⟩ (.int .i64 T)) ⟨w.heap.size + 1, 1, none⟩ (.string C)) ⟨w.heap.size + 1, 2, none⟩ (.string N)) ⟨w.heap.size + 1, 3, none⟩ (.int .u16 ty)) ⟨w.heap.size + 1, 4, none⟩ (.int .i64 z)) ⟨w.heap.size + 1, 5, none⟩ (.int .i64 tk)) ⟨w.heap.size + 1, 6, none⟩ (.string TN)) ⟨w.heap.size + 1, 7, none⟩ (.string TA)) ⟨w.heap.size + 1, 8, none⟩ (.int .i64 tb)) ⟨w.heap.size + 1, 9, none⟩ (.int .i64 av)) = WF at g0 g1 g2 g3 g4 g5 g6 g7 g8 g9 ⊢
    simp [results, Tryd.results30, go_sem, g0, g1, g2, g3, g4, g5, g6, g7, g8, g9]
  · have hbel := below_all10 HB5.out (Nat.le_succ _) (.int .i64 T) (.string C) (.string N) (.int .u16 ty) (.int .i64 z) (.int .i64 tk) (.string TN) (.string TA) (.int .i64 tb) (.int .i64 av)
    exact ⟨_, rfl, by rw [← hxv]; exact HSE.out, hbel⟩
end Go.Proofs.YtodpaejakgjblaaDoor
namespace Go.Proofs.YtodpaejakgjblaaDoor
open Go.RowKit
set_option linter.unusedVariables false
set_option maxRecDepth 20000
theorem ex25 : mayE (toE 1 ⟨#[]⟩ ⟨#[]⟩ 1 0 1 ⟨#[1, 97]⟩ ⟨#[]⟩ 0 3) = true ∧ evB (toE 1 ⟨#[]⟩ ⟨#[]⟩ 1 0 1 ⟨#[1, 97]⟩ ⟨#[]⟩ 0 3) = [0, 0, 0, 1, 0, 0, 0, 1, 0, 3, 2, 1, 97] := by decide +kernel
theorem ex25n : (makeL [[97]]) = some [1, 97] := by decide +kernel

set_option maxHeartbeats 8000000 in
theorem awake25_any (w : World) (hL : LaidT w) : Calls Tryd.prog 29 #[] w fun e w' => e = .returned (.bool true) ∧ Below w.heap.size w w' := by
  have hM := fun A c w h => makeX_any A 1 c [[97]] w h (by decide) (by decide)
  rw [ex25n] at hM
  have hM : ∀ A c w, Sl w w.heap.size 1 A 1 (([[97]] : List (List UInt8)).map sv) → Calls Tryd.prog 25 #[.slice A 1 c] w fun e w' => e = .returned (.tuple #[.string ⟨#[1, 97]⟩, .bool true]) ∧ Below w.heap.size w w' := hM
  have hE := fun w h => evenc_any 1 ⟨#[]⟩ ⟨#[]⟩ 1 0 1 ⟨#[1, 97]⟩ ⟨#[]⟩ 0 3 w (by decide) (by decide) (by decide) (by decide) (by decide) h
  rw [ex25.1, ex25.2] at hE
  have HM := Lib.hid hM
  have HE := Lib.hid hE
  have HLL := Lib.hid hL
  clear hM hE hL
  go_enter Tryd.func29, Tryd.ntmps29
  go_wp2_with (go_at_call 25; refine (HM.out _ _ _ (Sl.fresh w _ _ 1 _ rfl rfl)).mono ?_; rintro e w1 ⟨rfl, hb1⟩; refine Hid.out ?_)
  refine Lib.hid ?_
  have hB1 := below_alloc _ (Below.refl w.heap.size w) (Nat.le_refl _) hb1
  have HL1 := Lib.hid (HLL.out.below hB1 (Nat.le_refl _))
  have HB1 := Lib.hid hB1
  clear hb1 hB1
  go_wp2_with (go_at_call 31; refine (HE.out _ HL1.out).mono ?_; rintro e w2 ⟨v2, rfl, hob, -, hb2⟩; refine Hid.out ?_)
  refine Lib.hid ?_
  have hob := hob (by first | rfl | trivial)
  obtain ⟨A2, c2, rfl, hx1, hx2, hx3⟩ := hob.slice
  have hcv := Txt.conv (P := Tryd.prog) (w := w2) ⟨hob.sl, fun h => (hx3 h).1⟩ 22 9 5 Tryd.underlying22 Tryd.underlying5 Tryd.underlying9 c2
  change (convert 22 9 (.slice A2 13 c2)).run Tryd.prog w2 = .ok (.string ⟨#[0, 0, 0, 1, 0, 0, 0, 1, 0, 3, 2, 1, 97]⟩) w2 at hcv
  have HB2 := Lib.hid (HB1.out.trans (hb2.mono HB1.out.size))
  clear hob hx3 hb2
  go_wp2_with fail
  go_ret
  exact ⟨rfl, HB2.out⟩
end Go.Proofs.YtodpaejakgjblaaDoor
namespace Go.Proofs.YtodpaejakgjblaaDoor
open Go.RowKit
set_option linter.unusedVariables false
set_option linter.unusedSimpArgs false
set_option maxRecDepth 20000
attribute [local simp] putsF isV wordOf Deps Region.binds Region.wanted Act.put wantedX isB
/-- Make at a world to which the arguments have come unchanged. -/
theorem make25_arg (w : World) (wh : Int) (hwh : (Lit.int .u32 wh).wf = true) (A1 : Option Addr) (n1 c1 : Nat) (zs1 : List Int) (S1 : SlView w A1 n1 c1 (zs1.map (Value.int .u8))) (hl1 : zs1.length = n1) (hw1 : ∀ z ∈ zs1, (Lit.int .u8 z).wf = true) (hc1 : c1 ≤ 140737488351232)
    (A2 : Option Addr) (n2 c2 : Nat) (zs2 : List Int) (S2 : SlView w A2 n2 c2 (zs2.map (Value.int .u8))) (hl2 : zs2.length = n2) (hw2 : ∀ z ∈ zs2, (Lit.int .u8 z).wf = true) (hc2 : c2 ≤ 140737488351232)
    (kd : Int) (hkd : (Lit.int .u16 kd).wf = true) (zo : Int) (hzo : (Lit.int .u8 zo).wf = true) (k : Int) (hk : (Lit.int .u8 k).wf = true)
    (A3 : Option Addr) (n3 c3 : Nat) (zs3 : List Int) (S3 : SlView w A3 n3 c3 (zs3.map (Value.int .u8))) (hl3 : zs3.length = n3) (hw3 : ∀ z ∈ zs3, (Lit.int .u8 z).wf = true) (hc3 : c3 ≤ 140737488351232) (six : Bool) (bt : Int) (hbt : (Lit.int .u8 bt).wf = true)
    (ac : Int) (hac : (Lit.int .u8 ac).wf = true) :
    ∀ wx, Below w.heap.size w wx → Calls Tryd.prog 30 #[.agg #[.int .u32 wh, .slice A1 n1 c1, .slice A2 n2 c2, .int .u16 kd, .int .u8 zo, .int .u8 k, .slice A3 n3 c3, .bool six, .int .u8 bt, .int .u8 ac]] wx fun e w' => ∃ v, e = .returned v ∧ SeedIs v ∧ Below wx.heap.size wx w' := by
  intro wx hb
  have h1 := bounds_u32 hwh
  have h2 := bounds_u16 hkd
  have h3 := bounds_u8 hzo
  have h4 := bounds_u8 hk
  have h5 := bounds_u8 hbt
  have h6 := bounds_u8 hac
  obtain ⟨l1, hl1'⟩ : ∃ l : List UInt8, zs1.map (Value.int .u8) = l.map bv := bytes_of zs1 hw1
  have hA1 := (S1.sl.below hb).more hb.size
  rw [hl1'] at hA1
  exact make25_any wh (by omega) A1 n1 c1 l1 A2 n2 c2 zs2 kd (by omega) zo (by omega) k (by omega) A3 n3 c3 zs3 six bt (by omega) ac (by omega) wx hA1 (by have := S1.le; omega) ((S2.sl.below hb).more hb.size)
    (fun z h => by have := bounds_u8 (hw2 z h); omega) (by have := S2.le; omega) ((S3.sl.below hb).more hb.size) (fun z h => by have := bounds_u8 (hw3 z h); omega) (by have := S3.le; omega)
theorem dec_is {E : Ev} (h : MayE E) (ht : 0 ≤ E.type ∧ E.type < 65536) {v : Value} (hv : DecIs (evB E) v) : ∃ (T : Int) (C N : ByteArray) (ty z tk : Int) (TN TA : ByteArray) (tb ac : Int), v = .tuple #[.agg #[.int .i64 T, .string C, .string N, .int .u16 ty, .int .i64 z, .int .i64 tk, .string TN, .string TA, .int .i64 tb, .int .i64 ac], .bool true] ∧ toE T C N ty z tk TN TA tb ac = E := by
  obtain ⟨T, C, N, ty, z, tk, TN, TA, tb, ac, ok, rfl, hy, hn⟩ := hv
  have hd := dec_ev h ht
  cases ok with
  | false => rw [(hn rfl).1] at hd; cases hd
  | true =>
    obtain ⟨h1, -⟩ := hy rfl
    rw [h1] at hd
    exact ⟨_, _, _, _, _, _, _, _, _, _, rfl, Option.some.inj hd⟩
end Go.Proofs.YtodpaejakgjblaaDoor
