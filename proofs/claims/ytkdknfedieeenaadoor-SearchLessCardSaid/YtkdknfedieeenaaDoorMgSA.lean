/- Texts that walks stand on, one behind the other. -/
import Derived.Test.YtkdknfedieeenaaDoorBase
import Derived.Maps.Own
import Derived.Test.YtkdknfedieeenaaDoorOwnF
import Derived.Test.YtkdknfedieeenaaDoorNameW
import Derived.Test.YtkdknfedieeenaaDoorOb
import Derived.Test.YtkdknfedieeenaaDoorReg2
import Derived.StillTailTactics
import Derived.Outline
import Derived.Test.YtkdknfedieeenaaDoorView
import Derived.Lib.SmallJoins
import Derived.Deep.Strs
import Derived.Test.YtkdknfedieeenaaDoorReg
import Derived.Test.YtkdknfedieeenaaDoorActE
import Derived.Test.YtkdknfedieeenaaDoorCs
import Derived.Test.YtkdknfedieeenaaDoorObz
import Derived.Test.YtkdknfedieeenaaDoorOrd
import Derived.Lib.AppendZeros
import Derived.Lib.SliceRun
namespace Go.Proofs.YtkdknfedieeenaaDoor
open Go.RowKit
set_option linter.unusedVariables false

/-- The map's block has these entries. -/
def SM (w : World) (b : Nat) (es : List (ByteArray × Value)) : Prop := ∃ es' clock, w.heap[b]? = some (.map es' clock) ∧ es'.toList.map (fun e => (e.key, e.val)) = es.map (fun p => (Value.string p.1, p.2))
def smGet (es : List (ByteArray × Value)) (s : ByteArray) : Option Value := (es.find? fun p => s.data.toList == p.1.data.toList).map (·.2)
def smHas (es : List (ByteArray × Value)) (s : ByteArray) : Bool := es.any fun p => s.data.toList == p.1.data.toList
theorem ba_beq (a b : ByteArray) : (a == b) = (a.data.toList == b.data.toList) := by
  have h : (a == b) = (a.data == b.data) := by cases a; cases b; rfl
  rw [h, Bool.eq_iff_iff, beq_iff_eq, beq_iff_eq]
  exact ⟨fun e => by rw [e], fun e => Array.ext' e⟩
theorem sm_now (s : ByteArray) : ∀ (es : List (ByteArray × Value)) (l : List MapEntry) (i : Nat), l.map (fun e => (e.key, e.val)) = es.map (fun p => (Value.string p.1, p.2)) →
    (smHas es s = false ∧ smGet es s = none ∧ Instr.findNow .string (.string s) l i = some none) ∨ ∃ j v, smHas es s = true ∧ smGet es s = some v ∧ Instr.findNow .string (.string s) l i = some (some (j, v))
  | [], l, i, h => by
    have : l = [] := by simpa using h
    subst this
    exact .inl ⟨rfl, rfl, rfl⟩
  | p :: es, [], i, h => by simp at h
  | p :: es, e :: l, i, h => by
    simp only [List.map_cons, List.cons.injEq, Prod.mk.injEq] at h
    obtain ⟨⟨h1, h2⟩, h3⟩ := h
    cases hq : (s.data.toList == p.1.data.toList) with
    | true =>
      refine .inr ⟨i, p.2, by simp only [smHas, List.any_cons, hq, Bool.true_or], by simp only [smGet, List.find?_cons, hq, Option.map_some], ?_⟩
      unfold Instr.findNow
      rw [h1]
      simp only [Instr.sameNow, ba_beq, hq, h2]
    | false =>
      have hf : Instr.findNow .string (.string s) (e :: l) i = Instr.findNow .string (.string s) l (i + 1) := by
        conv => lhs; unfold Instr.findNow
        rw [h1]
        simp only [Instr.sameNow, ba_beq, hq]
      rw [hf]
      have e1 : smHas (p :: es) s = smHas es s := by simp only [smHas, List.any_cons, hq, Bool.false_or]
      have e2 : smGet (p :: es) s = smGet es s := by simp only [smGet, List.find?_cons, hq]
      rw [e1, e2]
      exact sm_now s es l (i + 1) h3
section
variable {w w' : World} {b : Nat} {es : List (ByteArray × Value)} {P : Program} {t k e : TypeId}
theorem SM.lt (h : SM w b es) : b < w.heap.size := by
  obtain ⟨es', clock, hb, _⟩ := h
  exact (Array.getElem?_eq_some_iff.1 hb).1
theorem SM.new (w : World) : SM (w.alloc (.map #[] 0)) w.heap.size [] := ⟨#[], 0, (MapKept.heap_alloc w _).1, rfl⟩
theorem SM.block (h : SM w b es) (hb : w'.heap[b]? = w.heap[b]?) : SM w' b es := by
  obtain ⟨es', clock, h1, h2⟩ := h
  exact ⟨es', clock, hb.trans h1, h2⟩
theorem SM.below (h : SM w b es) (hb : Below w.heap.size w w') : SM w' b es := h.block (hb.block b h.lt)
theorem SM.drewN (h : SM w b es) (n : Nat) : SM (w.drewN n) b es := h
/-- 'v, ok := m[s]'. -/
theorem SM.lookup (h : SM w b es) (ht : P.underlying t = some (.map k e)) (hk : P.underlying k = some .string) {z : Value} (hz : (zeroValue e).run P w = .ok z w) (s : ByteArray) :
    (Instr.lookup t (.map (some b)) (.string s) true).run P w = .ok (.tuple #[(smGet es s).getD z, .bool (smHas es s)]) w := by
  obtain ⟨es', clock, hb, hm⟩ := h
  have hck : ∀ c, (Instr.checkKey c 10000 k (.string s)).run P w = .ok () w := fun c => MapKept.run_checkKey hk (by simp [MapKept.IsKey]) c 9999
  rcases sm_now s es es'.toList 0 hm with ⟨h1, h2, h3⟩ | ⟨j, v, h1, h2, h3⟩
  · have hf := MapKept.run_findKey (w := w) hk h3
    rw [h1, h2]
    simp [Instr.lookup, run_underlying ht, MapKept.run_getObj_map hb, hck, hf, hz, Result.andThen]
  · have hf := MapKept.run_findKey (w := w) hk h3
    rw [h1, h2]
    simp [Instr.lookup, run_underlying ht, MapKept.run_getObj_map hb, hck, hf, Result.andThen]
/-- 'm[s]'. -/
theorem SM.lookup1 (h : SM w b es) (ht : P.underlying t = some (.map k e)) (hk : P.underlying k = some .string) {z : Value} (hz : (zeroValue e).run P w = .ok z w) (s : ByteArray) :
    (Instr.lookup t (.map (some b)) (.string s) false).run P w = .ok ((smGet es s).getD z) w := by
  obtain ⟨es', clock, hb, hm⟩ := h
  have hck : ∀ c, (Instr.checkKey c 10000 k (.string s)).run P w = .ok () w := fun c => MapKept.run_checkKey hk (by simp [MapKept.IsKey]) c 9999
  rcases sm_now s es es'.toList 0 hm with ⟨h1, h2, h3⟩ | ⟨j, v, h1, h2, h3⟩
  · have hf := MapKept.run_findKey (w := w) hk h3
    rw [h2]
    simp [Instr.lookup, run_underlying ht, MapKept.run_getObj_map hb, hck, hf, hz, Result.andThen]
  · have hf := MapKept.run_findKey (w := w) hk h3
    rw [h2]
    simp [Instr.lookup, run_underlying ht, MapKept.run_getObj_map hb, hck, hf, Result.andThen]
/-- 'm[s] = v' of a new s. -/
theorem SM.insert (h : SM w b es) (ht : P.underlying t = some (.map k e)) (hk : P.underlying k = some .string) (s : ByteArray) (v : Value) (hs : smHas es s = false) :
    ∃ w', (Instr.mapUpdate t (.map (some b)) (.string s) v).run P w = .ok () w' ∧ SM w' b (es ++ [(s, v)]) ∧ w.grownBy w' (some b) := by
  obtain ⟨es', clock, hb, hm⟩ := h
  have hck : ∀ c, (Instr.checkKey c 10000 k (.string s)).run P w = .ok () w := fun c => MapKept.run_checkKey hk (by simp [MapKept.IsKey]) c 9999
  rcases sm_now s es es'.toList 0 hm with ⟨h1, h2, h3⟩ | ⟨j, v', h1, h2, h3⟩
  · have hf := MapKept.run_findKey (w := w) hk h3
    refine ⟨{ w with heap := w.heap.setIfInBounds b (.map (es'.push ⟨.string s, v, clock⟩) (clock + 1)) }, ?_, ?_, ?_⟩
    · simp [Instr.mapUpdate, run_underlying ht, MapKept.run_getObj_map hb, hck, hf, MapKept.run_setObj_map _ hb, Result.andThen]
    · exact ⟨_, _, (MapKept.heap_set hb).1, by simp [hm]⟩
    · exact ⟨rfl, rfl, rfl, by simp, fun i _ hi => (MapKept.heap_set hb).2 i (fun e => hi (by rw [e]))⟩
  · rw [hs] at h1; cases h1
end
/-- 'm[s] = v' of a map's literal, at the operation. -/
theorem wpList_insert_sm {P : Program} (w : World) {ops : Array Oper} {rest : List Oper} {o : Oper} {a : Act} {Q : Exit → Act → World → Prop}
    (hg : o.guard = none) (m x v : Operand) (t : TypeId) (hop : o.op = Op.insert t m x v) (k e : TypeId) (ht : P.underlying t = some (.map k e)) (hk : P.underlying k = some .string) (b : Nat) (es : List (ByteArray × Value))
    (hm : a.eval m = .map (some b)) (hown : SM w b es) (s : ByteArray) (val : Value) (hx : a.eval x = .string s) (hv : a.eval v = val) (hs : smHas es s = false)
    (hK : ∀ w', SM w' b (es ++ [(s, val)]) → w.grownBy w' (some b) → wpList P ops Q rest (a.put o.dst undef) w') :
    wpList P ops Q (o :: rest) a w := by
  refine wpList_plain hg fun K' hK' => ?_
  obtain ⟨w', hrun, r1, r2⟩ := hown.insert ht hk s val hs
  unfold Oper.wp
  simp [execOp, hop, hm, hx, hv, hrun, Result.andThen]
  exact hK' _ _ (hK w' r1 r2)
end Go.Proofs.YtkdknfedieeenaaDoor
namespace Go.Proofs.YtkdknfedieeenaaDoor
open Go.RowKit
set_option linter.unusedVariables false
set_option maxRecDepth 20000

def kindL : List (ByteArray × Value) := [(⟨#[114, 112, 122, 45, 99, 108, 105, 101, 110, 116, 45, 105, 112]⟩, .int .i64 0), (⟨#[114, 112, 122, 45, 105, 112]⟩, .int .i64 3), (⟨#[114, 112, 122, 45, 110, 115, 105, 112]⟩, .int .i64 6), (⟨#[114, 112, 122, 45, 110, 115, 100, 110, 97, 109, 101]⟩, .int .i64 4)]
theorem kinds_any (w : World) : Calls Tryd.prog 39 #[] w fun e w' => ∃ b, e = .returned (.map (some b)) ∧ SM w' b kindL ∧ Below w.heap.size w w' := by
  have hmk : (Instr.makeMap 94 none).run Tryd.prog w = .ok (.map (some w.heap.size)) (w.alloc (.map #[] 0)) := rfl
  have ut := Tryd.underlying94
  have uk := Tryd.underlying9
  have h0 := SM.new w
  have b0 := (Below.refl w.heap.size w).alloc (Nat.le_refl _) (.map #[] 0)
  obtain ⟨w1, e1, h1, g1⟩ := h0.insert ut uk ⟨#[114, 112, 122, 45, 99, 108, 105, 101, 110, 116, 45, 105, 112]⟩ (.int .i64 0) (by decide)
  have b1 := below_grown b0 g1 b0.size (Nat.le_refl _)
  obtain ⟨w2, e2, h2, g2⟩ := h1.insert ut uk ⟨#[114, 112, 122, 45, 105, 112]⟩ (.int .i64 3) (by decide)
  have b2 := below_grown b1 g2 b1.size (Nat.le_refl _)
  obtain ⟨w3, e3, h3, g3⟩ := h2.insert ut uk ⟨#[114, 112, 122, 45, 110, 115, 105, 112]⟩ (.int .i64 6) (by decide)
  have b3 := below_grown b2 g3 b2.size (Nat.le_refl _)
  obtain ⟨w4, e4, h4, g4⟩ := h3.insert ut uk ⟨#[114, 112, 122, 45, 110, 115, 100, 110, 97, 109, 101]⟩ (.int .i64 4) (by decide)
  have b4 := below_grown b3 g4 b3.size (Nat.le_refl _)
  clear ut uk h0 h1 h2 h3 g1 g2 g3 g4 b0 b1 b2 b3
  go_enter Tryd.func39, Tryd.ntmps39
  go_wp2_with fail
  go_ret
  exact ⟨_, rfl, h4, b4⟩
theorem kindL_get (l : List UInt8) : smHas kindL (baL l) = (kindOf l).isSome ∧ (smGet kindL (baL l)).getD (.int .i64 0) = .int .i64 ((kindOf l).getD 0) := by
  have hd : (baL l).data.toList = l := by simp [baL]
  have c1 : ∀ (x : List UInt8), (l == x) = decide (l = x) := fun x => by rw [Bool.eq_iff_iff]; simp
  unfold smHas smGet kindL kindOf
  simp only [List.any_cons, List.any_nil, List.find?_cons, List.find?_nil, hd, c1]
  by_cases h1 : l = cClient
  · subst h1; exact ⟨rfl, rfl⟩
  · by_cases h2 : l = cAnswer
    · subst h2; exact ⟨rfl, rfl⟩
    · by_cases h3 : l = cNsip
      · subst h3; exact ⟨rfl, rfl⟩
      · by_cases h4 : l = cNsname
        · subst h4; exact ⟨rfl, rfl⟩
        · have e1 : decide (l = [114, 112, 122, 45, 99, 108, 105, 101, 110, 116, 45, 105, 112]) = false := decide_eq_false h1
          have e2 : decide (l = [114, 112, 122, 45, 105, 112]) = false := decide_eq_false h2
          have e3 : decide (l = [114, 112, 122, 45, 110, 115, 105, 112]) = false := decide_eq_false h3
          have e4 : decide (l = [114, 112, 122, 45, 110, 115, 100, 110, 97, 109, 101]) = false := decide_eq_false h4
          rw [if_neg h1, if_neg h2, if_neg h3, if_neg h4]
          simp only [e1, e2, e3, e4]
          exact ⟨rfl, rfl⟩

def trigC (t : Trig) : List Value := [.int .i64 t.kind, sv t.name, sv t.addr, .int .i64 t.bits]
def noTrig : Trig := ⟨0, [], [], 0⟩
def trigV (o : Option Trig) : Value := .tuple #[.agg (trigC (o.getD noTrig)).toArray, .bool o.isSome]
theorem Cs.all4 {w : World} {P : Nat} {a b c d a' b' c' d' : Value} (h : Cs w P [a, b, c, d]) : Cs ((((w.setCell ⟨P, 0, none⟩ a').setCell ⟨P, 1, none⟩ b').setCell ⟨P, 2, none⟩ c').setCell ⟨P, 3, none⟩ d') P [a', b', c', d'] :=
  (((h.set' 0 a' (by simp)).set' 1 b' (by simp)).set' 2 c' (by simp)).set' 3 d' (by simp)
theorem below_all4 {w W : World} {P B : Nat} {a' b' c' d' : Value} (h : Below B W w) (hP : B ≤ P) : Below B W ((((w.setCell ⟨P, 0, none⟩ a').setCell ⟨P, 1, none⟩ b').setCell ⟨P, 2, none⟩ c').setCell ⟨P, 3, none⟩ d') :=
  (((h.setCell (p := ⟨P, 0, none⟩) hP a').setCell (p := ⟨P, 1, none⟩) hP b').setCell (p := ⟨P, 2, none⟩) hP c').setCell (p := ⟨P, 3, none⟩) hP d'

theorem makeX_any (A : Option Addr) (n c : Nat) (X : List (List UInt8)) (w : World) (hA : Sl w w.heap.size 1 A n (X.map sv)) (hsz : ∀ x ∈ X, x.length ≤ maxLen) (hn : n ≤ maxLen) :
    Calls Tryd.prog 11 #[.slice A n c] w fun e w' => e = .returned (.tuple #[sv ((makeL X).getD []), .bool (makeL X).isSome]) ∧ Below w.heap.size w w' := by
  have h := make_any A n c (X.map baL) w (by rw [baL_strings]; exact hA) (by intro t ht; obtain ⟨x, hx, rfl⟩ := List.mem_map.1 ht; rw [show (baL x).size = x.length by simp [baL, ByteArray.size]]; exact hsz x hx) hn
  unfold nameOf makeOf at h
  rw [bytesOf_baL] at h
  exact h

set_option maxHeartbeats 8000000 in
theorem named_any (A : Option Addr) (n c : Nat) (X : List (List UInt8)) (ke kw : Int) (w : World) (hA : Sl w w.heap.size 1 A n (X.map sv)) (hnc : n ≤ c) (hsz : ∀ x ∈ X, x.length ≤ maxLen) (hn : n ≤ maxLen) :
    Calls Tryd.prog 40 #[.slice A n c, .int .i64 ke, .int .i64 kw] w fun e w' => e = .returned (trigV (namedR X ke kw)) ∧ Below w.heap.size w w' := by
  have hX := hA.strs_len
  have hn' := hn
  unfold maxLen at hn
  cases X with
  | nil =>
    obtain rfl : n = 0 := by simpa using hX.symm
    rw [show namedR [] ke kw = none from rfl]
    go_enter Tryd.func40, Tryd.ntmps40
    go_wp2_with fail
    exact bodyPost_ret (v := .tuple #[.agg #[.int .i64 0, .string ⟨#[]⟩, .string ⟨#[]⟩, .int .i64 0], .bool false]) (by simp [results, Tryd.results40, go_sem]) rfl ⟨rfl, (Below.refl _ _).alloc (Nat.le_refl _) _⟩
  | cons l r =>
    have hn1 : 0 < n := by simp at hX; omega
    obtain ⟨b, off, rfl, hb, hc⟩ := hA.2 hn1
    have h0 := hc 0 (sv l) rfl
    obtain ⟨S, hS⟩ : ∃ S, S = baL l := ⟨_, rfl⟩
    have hcell : (w.alloc (.cells #[.int .i64 0, .string ⟨#[]⟩, .string ⟨#[]⟩, .int .i64 0] 33)).cell? ⟨b, off, none⟩ = some (.string S) := by
      rw [World.cell?_alloc_lt w _ _ hb, hS]; exact h0
    have hcs := Cs.new w #[.int .i64 0, .string ⟨#[]⟩, .string ⟨#[]⟩, .int .i64 0] 33 [.int .i64 0, .string ⟨#[]⟩, .string ⟨#[]⟩, .int .i64 0]
    have hbel0 : Below w.heap.size w (w.alloc (.cells #[.int .i64 0, .string ⟨#[]⟩, .string ⟨#[]⟩, .int .i64 0] 33)) := (Below.refl _ _).alloc (Nat.le_refl _) _
    have hA0 := (hA.below hbel0).more hbel0.size
    have htl : ∀ A', (A' = some ⟨b, off + 1, none⟩ ∨ n = 1) → Sl (w.alloc (.cells #[.int .i64 0, .string ⟨#[]⟩, .string ⟨#[]⟩, .int .i64 0] 33)) (w.alloc (.cells #[.int .i64 0, .string ⟨#[]⟩, .string ⟨#[]⟩, .int .i64 0] 33)).heap.size 1 A' (n - 1) (r.map sv) := by
      intro A' h
      rcases h with rfl | h1
      · have := Sl.dropO (k := 1) (n := n - 1) (by rw [show 1 + (n - 1) = n by omega]; exact hA0)
        simpa using this
      · have hr : r = [] := by
          have : r.length = 0 := by simp at hX; omega
          exact List.eq_nil_of_length_eq_zero this
        rw [hr, h1]
        exact Sl.nil _ _ _ _
    have hszr : ∀ x ∈ r, x.length ≤ maxLen := fun x hx => hsz x (by simp [hx])
    by_cases hst : l = star
    · have heq : (S.toList == [42]) = true := by rw [str_is, hS, hst]; rfl
      have hres : namedR (l :: r) ke kw = some ⟨kw, (makeL r).getD [], [], 0⟩ := by simp only [namedR, if_pos hst]
      rw [hres]
      obtain ⟨M, hM⟩ : ∃ M, M = baL ((makeL r).getD []) := ⟨_, rfl⟩
      have hmk := fun q A' h => makeX_any A' (n - 1) (c - 1) r ((w.alloc (.cells #[.int .i64 0, .string ⟨#[]⟩, .string ⟨#[]⟩, .int .i64 0] 33)).drewN q) ((htl A' h).drewN q) hszr (by omega)
      rw [show sv ((makeL r).getD []) = .string M by rw [hM]; rfl] at hmk
      have hgoal : trigV (some ⟨kw, (makeL r).getD [], [], 0⟩) = .tuple #[.agg #[.int .i64 kw, .string M, .string ⟨#[]⟩, .int .i64 0], .bool true] := by rw [hM]; rfl
      rw [hgoal]
      have hcond : (if c = 1 then some (⟨b, off, none⟩ : Addr) else some ⟨b, off + 1, none⟩) = some ⟨b, off + 1, none⟩ ∨ n = 1 := by
        by_cases h : c = 1
        · right; omega
        · left; rw [if_neg h]
      have HMK := Lib.hid hmk
      have HCS := Lib.hid hcs
      have HB0 := Lib.hid hbel0
      have HCO := Lib.hid hcond
      clear hmk hgoal hM hres hst hszr htl hA0 hA hc h0 hX hsz hS hcs hbel0 hcond
      have q1 : (1 : Int) ≤ n := by omega
      go_enter Tryd.func40, Tryd.ntmps40
      go_upto_region 5 with fail
      go_quiet (fail)
      have HCO2 := HCO.out
      generalize (if c = 1 then some (⟨b, off, none⟩ : Addr) else some ⟨b, off + 1, none⟩) = A' at HCO2 ⊢
      have HM2 := Lib.hid (HMK.out nq A' HCO2)
      have HCS2 := Lib.hid (HCS.out.drewN nq)
      have HB2 := Lib.hid (HB0.out.trans ((drewN_below _ nq).mono HB0.out.size))
      generalize (w.alloc (.cells #[.int .i64 0, .string ⟨#[]⟩, .string ⟨#[]⟩, .int .i64 0] 33)).drewN nq = W at HM2 HCS2 HB2 ⊢
      clear HMK HCO HCO2 HCS HB0
      go_wp2_with (go_at_call 11; refine HM2.out.mono ?_; rintro e w1 ⟨rfl, hb1⟩; refine Hid.out ?_)
      refine Lib.hid ?_
      have hC1 := HCS2.out.below hb1
      have k0 := hC1.get 0 (.int .i64 0)
      have k1 := hC1.get 1 (.string ⟨#[]⟩)
      have k2 := hC1.get 2 (.string ⟨#[]⟩)
      have k3 := hC1.get 3 (.int .i64 0)
      have z0 := hC1.froz 0
      have z1 := hC1.froz 1
      have z2 := hC1.froz 2
      have z3 := hC1.froz 3
      have HC1 := Lib.hid hC1
      have HB1 := Lib.hid (HB2.out.trans (hb1.mono HB2.out.size))
      clear hC1 hb1 HCS2 HB2
      go_wp2_with fail
      refine bodyPost_ret (v := .tuple #[.agg #[.int .i64 kw, .string M, .string ⟨#[]⟩, .int .i64 0], .bool true]) ?_ rfl ⟨rfl, below_all4 HB1.out (Nat.le_refl _)⟩
      have hfin := HC1.out.all4 (a' := .int .i64 kw) (b' := .string M) (c' := .string ⟨#[]⟩) (d' := .int .i64 0)
      have g0 := hfin.get 0 (.int .i64 kw)
      have g1 := hfin.get 1 (.string M)
      have g2 := hfin.get 2 (.string ⟨#[]⟩)
      have g3 := hfin.get 3 (.int .i64 0)
      generalize (((w1.setCell ⟨w.heap.size, 0, none⟩ (.int .i64 kw)).setCell ⟨w.heap.size, 1, none⟩ (.string M)).setCell ⟨w.heap.size, 2, none⟩ (.string ⟨#[]⟩)).setCell ⟨w.heap.size, 3, none⟩ (.int .i64 0) = WF at g0 g1 g2 g3 ⊢
      simp [results, Tryd.results40, go_sem, g0, g1, g2, g3]
    · have heq : (S.toList == [42]) = false := by rw [str_is, hS, beq_eq_false_iff_ne]; exact fun h => hst (by simpa [baL, star] using h)
      have hres : namedR (l :: r) ke kw = some ⟨ke, (makeL (l :: r)).getD [], [], 0⟩ := by simp only [namedR, if_neg hst]
      rw [hres]
      obtain ⟨M, hM⟩ : ∃ M, M = baL ((makeL (l :: r)).getD []) := ⟨_, rfl⟩
      have hmk := makeX_any (some ⟨b, off, none⟩) n c (l :: r) (w.alloc (.cells #[.int .i64 0, .string ⟨#[]⟩, .string ⟨#[]⟩, .int .i64 0] 33)) hA0 hsz hn'
      rw [show sv ((makeL (l :: r)).getD []) = .string M by rw [hM]; rfl] at hmk
      have hgoal : trigV (some ⟨ke, (makeL (l :: r)).getD [], [], 0⟩) = .tuple #[.agg #[.int .i64 ke, .string M, .string ⟨#[]⟩, .int .i64 0], .bool true] := by rw [hM]; rfl
      rw [hgoal]
      have HM2 := Lib.hid hmk
      have HCS2 := Lib.hid hcs
      have HB2 := Lib.hid hbel0
      clear hmk hgoal hM hres hst hszr htl hA0 hA hc h0 hX hsz hS hcs hbel0
      have q1 : (1 : Int) ≤ n := by omega
      go_enter Tryd.func40, Tryd.ntmps40
      go_wp2_with (go_at_call 11; refine HM2.out.mono ?_; rintro e w1 ⟨rfl, hb1⟩; refine Hid.out ?_)
      refine Lib.hid ?_
      have hC1 := HCS2.out.below hb1
      have k0 := hC1.get 0 (.int .i64 0)
      have k1 := hC1.get 1 (.string ⟨#[]⟩)
      have k2 := hC1.get 2 (.string ⟨#[]⟩)
      have k3 := hC1.get 3 (.int .i64 0)
      have z0 := hC1.froz 0
      have z1 := hC1.froz 1
      have z2 := hC1.froz 2
      have z3 := hC1.froz 3
      have HC1 := Lib.hid hC1
      have HB1 := Lib.hid (HB2.out.trans (hb1.mono HB2.out.size))
      clear hC1 hb1 HCS2 HB2
      go_wp2_with fail
      refine bodyPost_ret (v := .tuple #[.agg #[.int .i64 ke, .string M, .string ⟨#[]⟩, .int .i64 0], .bool true]) ?_ rfl ⟨rfl, below_all4 HB1.out (Nat.le_refl _)⟩
      have hfin := HC1.out.all4 (a' := .int .i64 ke) (b' := .string M) (c' := .string ⟨#[]⟩) (d' := .int .i64 0)
      have g0 := hfin.get 0 (.int .i64 ke)
      have g1 := hfin.get 1 (.string M)
      have g2 := hfin.get 2 (.string ⟨#[]⟩)
      have g3 := hfin.get 3 (.int .i64 0)
      generalize (((w1.setCell ⟨w.heap.size, 0, none⟩ (.int .i64 ke)).setCell ⟨w.heap.size, 1, none⟩ (.string M)).setCell ⟨w.heap.size, 2, none⟩ (.string ⟨#[]⟩)).setCell ⟨w.heap.size, 3, none⟩ (.int .i64 0) = WF at g0 g1 g2 g3 ⊢
      simp [results, Tryd.results40, go_sem, g0, g1, g2, g3]
end Go.Proofs.YtkdknfedieeenaaDoor
namespace Go.Proofs.YtkdknfedieeenaaDoor
open Go.RowKit
set_option linter.unusedVariables false
set_option maxRecDepth 20000

theorem trigV_shape (o : Option Trig) : ∃ tk TN TA tb ok, trigV o = .tuple #[.agg #[.int .i64 tk, .string TN, .string TA, .int .i64 tb], .bool ok] :=
  ⟨(o.getD noTrig).kind, baL (o.getD noTrig).name, baL (o.getD noTrig).addr, (o.getD noTrig).bits, o.isSome, rfl⟩
theorem addrV_shape (o : Option (List UInt8 × Int)) : ∃ TA tb ok, addrV o = .tuple #[.agg #[.string TA, .int .i64 tb], .bool ok] := by
  cases o with
  | none => exact ⟨_, _, _, rfl⟩
  | some p => exact ⟨baL p.1, p.2, true, rfl⟩
theorem labels_le {s : ByteArray} {X : List (List UInt8)} (h : labelsOf s = some X) : X.length ≤ 254 ∧ ∀ x ∈ X, x.length ≤ 63 := by
  obtain ⟨h1, h2⟩ := labels_ok h
  have : ∀ L : List (List UInt8), L.length ≤ (wire L).length := by
    intro L
    induction L with
    | nil => simp [wire]
    | cons x L ih => rw [wire_cons]; simp; omega
  refine ⟨Nat.le_trans (this X) h1.2, fun x hx => ?_⟩
  have := h1.1 x hx
  simp only [okLabel, Bool.and_eq_true, decide_eq_true_eq] at this
  omega
theorem decR_kind {X : List (List UInt8)} (h : X ≠ []) {s : ByteArray} (hs : labelsOf s = some X) : decR s.data.toList = decL X := by
  unfold decR
  rw [show nameLabels s.data.toList = some X from hs]
  cases X with
  | nil => exact absurd rfl h
  | cons => rfl

set_option maxHeartbeats 8000000 in
theorem decode_any (s : ByteArray) (w : World) (hs : s.size ≤ 140737488355328) (hL : LaidT w) :
    Calls Tryd.prog 31 #[.string s] w fun e w' => e = .returned (trigV (decR s.data.toList)) ∧ Below w.heap.size w w' := by
  have hlab := fun w => labels_any s w (by unfold maxLen; omega)
  have hcs := Cs.new w #[.int .i64 0, .string ⟨#[]⟩, .string ⟨#[]⟩, .int .i64 0] 33 [.int .i64 0, .string ⟨#[]⟩, .string ⟨#[]⟩, .int .i64 0]
  have hbel0 : Below w.heap.size w (w.alloc (.cells #[.int .i64 0, .string ⟨#[]⟩, .string ⟨#[]⟩, .int .i64 0] 33)) := (Below.refl _ _).alloc (Nat.le_refl _) _
  have HCS := Lib.hid hcs
  have HB0 := Lib.hid hbel0
  have HL0 := Lib.hid (hL.alloc (.cells #[.int .i64 0, .string ⟨#[]⟩, .string ⟨#[]⟩, .int .i64 0] 33))
  clear hcs hbel0 hL
  by_cases hbad : labelsL s = []
  · have hd : decR s.data.toList = none := by
      unfold decR
      unfold labelsL labelsOf at hbad
      cases hq : nameLabels s.data.toList with
      | none => rfl
      | some X =>
        rw [hq] at hbad
        obtain rfl : X = [] := hbad
        rfl
    rw [hd]
    have hgoal : trigV none = .tuple #[.agg #[.int .i64 0, .string ⟨#[]⟩, .string ⟨#[]⟩, .int .i64 0], .bool false] := rfl
    rw [hgoal]
    rw [hbad] at hlab
    have HLAB := Lib.hid hlab
    clear hlab hbad hd hgoal
    cases hso : (labelsOf s).isSome
    all_goals
      have HSO := Lib.hid hso
      go_enter Tryd.func31, Tryd.ntmps31
      go_wp2_with (go_at_call 38; refine (HLAB.out _).mono ?_; rintro e w1 ⟨v1, rfl, hbuf⟩; refine Hid.out ?_)
      refine Lib.hid ?_
      have hC1 := HCS.out.below hbuf.below
      have k0 := hC1.get 0 (.int .i64 0)
      have k1 := hC1.get 1 (.string ⟨#[]⟩)
      have k2 := hC1.get 2 (.string ⟨#[]⟩)
      have k3 := hC1.get 3 (.int .i64 0)
      have z0 := hC1.froz 0
      have z1 := hC1.froz 1
      have z2 := hC1.froz 2
      have z3 := hC1.froz 3
      have HC1 := Lib.hid hC1
      have HB1 := Lib.hid (HB0.out.trans (hbuf.below.mono HB0.out.size))
      obtain ⟨A1, c1, rfl, hb1, hb2, hb3⟩ := hbuf.slice
      clear hC1 hbuf hb3
      go_wp2_with fail
      refine bodyPost_ret (v := .tuple #[.agg #[.int .i64 0, .string ⟨#[]⟩, .string ⟨#[]⟩, .int .i64 0], .bool false]) ?_ rfl ⟨rfl, below_all4 HB1.out (Nat.le_refl _)⟩
      have hfin := HC1.out.all4 (a' := .int .i64 0) (b' := .string ⟨#[]⟩) (c' := .string ⟨#[]⟩) (d' := .int .i64 0)
      have g0 := hfin.get 0 (.int .i64 0)
      have g1 := hfin.get 1 (.string ⟨#[]⟩)
      have g2 := hfin.get 2 (.string ⟨#[]⟩)
      have g3 := hfin.get 3 (.int .i64 0)
      generalize (((w1.setCell ⟨w.heap.size, 0, none⟩ (.int .i64 0)).setCell ⟨w.heap.size, 1, none⟩ (.string ⟨#[]⟩)).setCell ⟨w.heap.size, 2, none⟩ (.string ⟨#[]⟩)).setCell ⟨w.heap.size, 3, none⟩ (.int .i64 0) = WF at g0 g1 g2 g3 ⊢
      simp [results, Tryd.results31, go_sem, g0, g1, g2, g3]
  · obtain ⟨X, hX⟩ : ∃ X, labelsOf s = some X := by
      cases hq : labelsOf s with
      | none => exact absurd (by unfold labelsL; rw [hq]; rfl) hbad
      | some X => exact ⟨X, rfl⟩
    have hXL : labelsL s = X := by unfold labelsL; rw [hX]; rfl
    rw [hXL] at hbad hlab
    obtain ⟨hle1, hle2⟩ := labels_le hX
    rw [decR_kind hbad hX]
    rw [show (labelsOf s).isSome = true by rw [hX]; rfl] at hlab
    have hpos : 0 < X.length := List.length_pos_iff.2 hbad
    have hsplit := last_split [] hbad
    obtain ⟨n, hn⟩ : ∃ n, n = X.length := ⟨_, rfl⟩
    rw [← hn] at hlab hle1 hpos
    obtain ⟨D, hD⟩ : ∃ D, D = X.dropLast := ⟨_, rfl⟩
    obtain ⟨y, hy⟩ : ∃ y, y = X.getLastD [] := ⟨_, rfl⟩
    have hDl : D.length = n - 1 := by rw [hD, List.length_dropLast, ← hn]
    have hdec : decL X = match kindOf y with
      | none => namedR X 1 2
      | some k => if k = 4 then namedR D 4 5 else (addrR D).map fun p => ⟨k, [], p.1, p.2⟩ := by unfold decL; rw [← hy, ← hD]; cases kindOf y <;> rfl
    rw [← hD, ← hy] at hsplit
    have hlast : X[n - 1]? = some y := by
      have h := congrArg (fun L => L[n - 1]?) hsplit
      rw [h, List.getElem?_append_right (by omega), hDl, Nat.sub_self]
      rfl
    have hDle : ∀ x ∈ D, x.length ≤ 63 := fun x hx => hle2 x (by rw [hsplit]; simp [hx])
    obtain ⟨hk1, hk2⟩ := kindL_get y
    have HLAB := Lib.hid hlab
    have HLAST := Lib.hid hlast
    have HSP := Lib.hid hsplit
    have HDL := Lib.hid hDl
    have HXL := Lib.hid hn
    have HLE2 := Lib.hid hle2
    have HDLE := Lib.hid hDle
    have HDEC := Lib.hid hdec
    have HK1 := Lib.hid hk1
    have HK2 := Lib.hid hk2
    obtain ⟨RES, hRES⟩ : ∃ RES, RES = trigV (decL X) := ⟨_, rfl⟩
    rw [← hRES]
    have HRES := Lib.hid hRES
    have m1 : (0 : Int) ≤ (n : Int) - 1 := by omega
    have m2 : ((n : Int) - 1).toNat = n - 1 := by omega
    have m3 : (n : Int) - 1 < n := by omega
    have m4 : (n : Int) - 1 ≤ n := by omega
    have m5 : IntKind.i64.wrap ((n : Int) - 1) = (n : Int) - 1 := IntWalk.i64_in _ (by omega)
    clear hlab hlast hsplit hDl hn hle2 hDle hdec hk1 hk2 hRES hX hXL hbad hD hy
    go_enter Tryd.func31, Tryd.ntmps31
    go_wp2_with (go_at_call 38; refine (HLAB.out _).mono ?_; rintro e w1 ⟨v1, rfl, hbuf⟩; refine Hid.out ?_)
    refine Lib.hid ?_
    have HC1 := Lib.hid (HCS.out.below hbuf.below)
    have HB1 := Lib.hid (HB0.out.trans (hbuf.below.mono HB0.out.size))
    have HL1 := Lib.hid (HL0.out.below hbuf.below (Nat.le_refl _))
    obtain ⟨A1, c1, rfl, hb1, hb2, hb3⟩ := hbuf.slice
    have hsl := hbuf.sl
    obtain ⟨b, off, rfl, hbw, hcell⟩ := hsl.2 hpos
    have hlc := hcell (n - 1) (sv y) (by rw [List.getElem?_map, HLAST.out]; rfl)
    obtain ⟨YB, hYB⟩ : ∃ YB, YB = baL y := ⟨_, rfl⟩
    rw [show sv y = .string YB by rw [hYB]; rfl] at hlc
    have hsa : Sl w1 w1.heap.size 1 (some ⟨b, off, none⟩) (n - 1) (D.map sv) := by
      refine ⟨by simp [HDL.out], fun _ => ⟨b, off, rfl, hbw, fun j u hu => hcell j u ?_⟩⟩
      rw [HSP.out, List.map_append, List.getElem?_append_left (List.getElem?_eq_some_iff.1 hu).1]
      exact hu
    have HSA := Lib.hid hsa
    have HSL := Lib.hid hsl
    have HYB := Lib.hid hYB
    clear hbuf hb3 hsl hcell hsa hYB HCS HB0 HL0
    go_upto_region 4 with fail
    go_quiet (fail)
    have HC2 := Lib.hid (HC1.out.drewN nq)
    have HB2 := Lib.hid (HB1.out.trans ((drewN_below w1 nq).mono HB1.out.size))
    have HL2 := Lib.hid (HL1.out.below (drewN_below w1 nq) (Nat.le_refl _))
    have HSA2 := Lib.hid (HSA.out.drewN nq)
    have HSL2 := Lib.hid (HSL.out.drewN nq)
    have hw12 : w1.heap.size ≤ (w1.drewN nq).heap.size := Nat.le_refl _
    have HSA3 : Hid (Sl (w1.drewN nq) (w1.drewN nq).heap.size 1 (some ⟨b, off, none⟩) (n - 1) (D.map sv)) := HSA2
    have HSL3 : Hid (Sl (w1.drewN nq) (w1.drewN nq).heap.size 1 (some ⟨b, off, none⟩) n (X.map sv)) := HSL2
    generalize w1.drewN nq = w2 at *
    clear HC1 HB1 HL1 HSA HSL HSA2 HSL2
    have HKI := Lib.hid (fun w => kinds_any w)
    go_wp2_with (go_at_call 39; refine (HKI.out _).mono ?_; rintro e w3 ⟨bm, rfl, hsm, hb3⟩; refine Hid.out ?_)
    refine Lib.hid ?_
    have hlk := hsm.lookup (P := Tryd.prog) Tryd.underlying94 Tryd.underlying9 (z := .int .i64 0) (by rfl) YB
    rw [HYB.out, HK1.out, HK2.out, ← HYB.out] at hlk
    have HC3 := Lib.hid (HC2.out.below hb3)
    have HB3 := Lib.hid (HB2.out.trans (hb3.mono HB2.out.size))
    have HL3 := Lib.hid (HL2.out.below hb3 (Nat.le_refl _))
    have HSA4 := Lib.hid ((HSA3.out.below hb3).more hb3.size)
    have HSL4 := Lib.hid ((HSL3.out.below hb3).more hb3.size)
    clear hb3 hsm HC2 HB2 HL2 HSA3 HSL3
    have hx63 : ∀ x ∈ X, x.length ≤ maxLen := fun x hx => by have := HLE2.out x hx; unfold maxLen; omega
    have hd63 : ∀ x ∈ D, x.length ≤ maxLen := fun x hx => by have := HDLE.out x hx; unfold maxLen; omega
    have hn63 : n ≤ maxLen := by unfold maxLen; omega
    cases hko : kindOf y with
    | none =>
      rw [hko] at hlk
      have hdx : decL X = namedR X 1 2 := by rw [HDEC.out, hko]
      obtain ⟨tk, TN, TA, tb, ok, hsh⟩ := trigV_shape (namedR X 1 2)
      have hnm := named_any (some ⟨b, off, none⟩) n c1 X 1 2 w3 HSL4.out hb1 hx63 hn63
      rw [hsh] at hnm
      have HRE := Lib.hid (HRES.out.trans (by rw [hdx, hsh]))
      have HNM := Lib.hid hnm
      simp only [Option.getD_none, Option.isSome_none] at hlk
      clear hnm hsh hdx hko HDEC HK1 HK2 HKI HSA4 HSL4 HL3 HLAB HLAST HSP
      go_wp2_with (go_at_call 40; refine HNM.out.mono ?_; rintro e w4 ⟨rfl, hb4⟩; refine Hid.out ?_)
      refine Lib.hid ?_
      have hC4 := HC3.out.below hb4
      have k0 := hC4.get 0 (.int .i64 0)
      have k1 := hC4.get 1 (.string ⟨#[]⟩)
      have k2 := hC4.get 2 (.string ⟨#[]⟩)
      have k3 := hC4.get 3 (.int .i64 0)
      have z0 := hC4.froz 0
      have z1 := hC4.froz 1
      have z2 := hC4.froz 2
      have z3 := hC4.froz 3
      have HC4 := Lib.hid hC4
      have HB4 := Lib.hid (HB3.out.trans (hb4.mono HB3.out.size))
      clear hC4 hb4 HC3 HB3
      go_wp2_with fail
      rw [HRE.out]
      refine bodyPost_ret (v := .tuple #[.agg #[.int .i64 tk, .string TN, .string TA, .int .i64 tb], .bool ok]) ?_ rfl ⟨rfl, below_all4 HB4.out (Nat.le_refl _)⟩
      have hfin := HC4.out.all4 (a' := .int .i64 tk) (b' := .string TN) (c' := .string TA) (d' := .int .i64 tb)
      have g0 := hfin.get 0 (.int .i64 tk)
      have g1 := hfin.get 1 (.string TN)
      have g2 := hfin.get 2 (.string TA)
      have g3 := hfin.get 3 (.int .i64 tb)
      generalize (((w4.setCell ⟨w.heap.size, 0, none⟩ (.int .i64 tk)).setCell ⟨w.heap.size, 1, none⟩ (.string TN)).setCell ⟨w.heap.size, 2, none⟩ (.string TA)).setCell ⟨w.heap.size, 3, none⟩ (.int .i64 tb) = WF at g0 g1 g2 g3 ⊢
      simp [results, Tryd.results31, go_sem, g0, g1, g2, g3]
    | some k =>
      rw [hko] at hlk
      simp only [Option.getD_some, Option.isSome_some] at hlk
      by_cases hk4 : k = 4
      · subst hk4
        have hdx : decL X = namedR D 4 5 := by rw [HDEC.out, hko]; rfl
        obtain ⟨tk, TN, TA, tb, ok, hsh⟩ := trigV_shape (namedR D 4 5)
        have hnm := named_any (some ⟨b, off, none⟩) (n - 1) c1 D 4 5 w3 HSA4.out (by omega) hd63 (by omega)
        rw [hsh] at hnm
        have HRE := Lib.hid (HRES.out.trans (by rw [hdx, hsh]))
        have HNM := Lib.hid hnm
        clear hnm hsh hdx hko HDEC HK1 HK2 HKI HSA4 HSL4 HL3 HLAB HLAST HSP
        go_wp2_with (go_at_call 40; refine HNM.out.mono ?_; rintro e w4 ⟨rfl, hb4⟩; refine Hid.out ?_)
        refine Lib.hid ?_
        have hC4 := HC3.out.below hb4
        have k0 := hC4.get 0 (.int .i64 0)
        have k1 := hC4.get 1 (.string ⟨#[]⟩)
        have k2 := hC4.get 2 (.string ⟨#[]⟩)
        have k3 := hC4.get 3 (.int .i64 0)
        have z0 := hC4.froz 0
        have z1 := hC4.froz 1
        have z2 := hC4.froz 2
        have z3 := hC4.froz 3
        have HC4 := Lib.hid hC4
        have HB4 := Lib.hid (HB3.out.trans (hb4.mono HB3.out.size))
        clear hC4 hb4 HC3 HB3
        go_wp2_with fail
        rw [HRE.out]
        refine bodyPost_ret (v := .tuple #[.agg #[.int .i64 tk, .string TN, .string TA, .int .i64 tb], .bool ok]) ?_ rfl ⟨rfl, below_all4 HB4.out (Nat.le_refl _)⟩
        have hfin := HC4.out.all4 (a' := .int .i64 tk) (b' := .string TN) (c' := .string TA) (d' := .int .i64 tb)
        have g0 := hfin.get 0 (.int .i64 tk)
        have g1 := hfin.get 1 (.string TN)
        have g2 := hfin.get 2 (.string TA)
        have g3 := hfin.get 3 (.int .i64 tb)
        generalize (((w4.setCell ⟨w.heap.size, 0, none⟩ (.int .i64 tk)).setCell ⟨w.heap.size, 1, none⟩ (.string TN)).setCell ⟨w.heap.size, 2, none⟩ (.string TA)).setCell ⟨w.heap.size, 3, none⟩ (.int .i64 tb) = WF at g0 g1 g2 g3 ⊢
        simp [results, Tryd.results31, go_sem, g0, g1, g2, g3]
      · have e4 : ((k : Int) == 4) = false := by rw [beq_eq_false_iff_ne]; exact hk4
        have hdx : decL X = (addrR D).map fun p => ⟨k, [], p.1, p.2⟩ := by rw [HDEC.out, hko]; simp only [if_neg hk4]
        have had := address13_any (some ⟨b, off, none⟩) (n - 1) c1 (D.map baL) w3 (by rw [baL_strings]; exact HSA4.out) (by omega) (by
          intro t ht
          obtain ⟨x, hx, rfl⟩ := List.mem_map.1 ht
          have := HDLE.out x hx
          rw [show (baL x).size = x.length by simp [baL, ByteArray.size]]; omega) (by omega) HL3.out
        rw [bytesOf_baL] at had
        cases hao : addrR D with
        | none =>
          rw [hao] at had hdx
          have had : Calls Tryd.prog 41 #[.slice (some ⟨b, off, none⟩) (n - 1) c1] w3 fun e w' => e = .returned (.tuple #[.agg #[.string ⟨#[]⟩, .int .i64 0], .bool false]) ∧ Below w3.heap.size w3 w' := had
          have HRE : Hid (RES = .tuple #[.agg #[.int .i64 0, .string ⟨#[]⟩, .string ⟨#[]⟩, .int .i64 0], .bool false]) := Lib.hid (HRES.out.trans (by rw [hdx]; rfl))
          have HAD := Lib.hid had
          clear had hdx hao hko hk4 HDEC HK1 HK2 HKI HSA4 HSL4 HL3 HLAB HLAST HSP
          go_wp2_with (go_at_call 41; refine HAD.out.mono ?_; rintro e w4 ⟨rfl, hb4⟩; refine Hid.out ?_)
          refine Lib.hid ?_
          have hC4 := (HC3.out.below hb4).alloc (.cells #[.string ⟨#[]⟩, .int .i64 0] 31)
          have k0 := hC4.get 0 (.int .i64 0)
          have k1 := hC4.get 1 (.string ⟨#[]⟩)
          have k2 := hC4.get 2 (.string ⟨#[]⟩)
          have k3 := hC4.get 3 (.int .i64 0)
          have z0 := hC4.froz 0
          have z1 := hC4.froz 1
          have z2 := hC4.froz 2
          have z3 := hC4.froz 3
          have HC4 := Lib.hid hC4
          have hB4 := HB3.out.trans (hb4.mono HB3.out.size)
          have HB4 := Lib.hid (hB4.alloc hB4.size (.cells #[.string ⟨#[]⟩, .int .i64 0] 31))
          clear hC4 hb4 HC3 HB3 hB4
          go_wp2_with fail
          rw [HRE.out]
          refine bodyPost_ret (v := .tuple #[.agg #[.int .i64 0, .string ⟨#[]⟩, .string ⟨#[]⟩, .int .i64 0], .bool false]) ?_ rfl ⟨rfl, below_all4 HB4.out (Nat.le_refl _)⟩
          have hfin := HC4.out.all4 (a' := .int .i64 0) (b' := .string ⟨#[]⟩) (c' := .string ⟨#[]⟩) (d' := .int .i64 0)
          have g0 := hfin.get 0 (.int .i64 0)
          have g1 := hfin.get 1 (.string ⟨#[]⟩)
          have g2 := hfin.get 2 (.string ⟨#[]⟩)
          have g3 := hfin.get 3 (.int .i64 0)
          generalize ((((w4.alloc (.cells #[.string ⟨#[]⟩, .int .i64 0] 31)).setCell ⟨w.heap.size, 0, none⟩ (.int .i64 0)).setCell ⟨w.heap.size, 1, none⟩ (.string ⟨#[]⟩)).setCell ⟨w.heap.size, 2, none⟩ (.string ⟨#[]⟩)).setCell ⟨w.heap.size, 3, none⟩ (.int .i64 0) = WF at g0 g1 g2 g3 ⊢
          simp [results, Tryd.results31, go_sem, g0, g1, g2, g3]
        | some p =>
          obtain ⟨pa, pb⟩ := p
          rw [hao] at had hdx
          obtain ⟨TA, hTA⟩ : ∃ TA, TA = baL pa := ⟨_, rfl⟩
          have had : Calls Tryd.prog 41 #[.slice (some ⟨b, off, none⟩) (n - 1) c1] w3 fun e w' => e = .returned (.tuple #[.agg #[.string TA, .int .i64 pb], .bool true]) ∧ Below w3.heap.size w3 w' := by rw [hTA]; exact had
          have HRE : Hid (RES = .tuple #[.agg #[.int .i64 k, .string ⟨#[]⟩, .string TA, .int .i64 pb], .bool true]) := Lib.hid (HRES.out.trans (by rw [hdx, hTA]; rfl))
          have HAD := Lib.hid had
          clear had hdx hao hko hk4 hTA HDEC HK1 HK2 HKI HSA4 HSL4 HL3 HLAB HLAST HSP
          go_wp2_with (go_at_call 41; refine HAD.out.mono ?_; rintro e w4 ⟨rfl, hb4⟩; refine Hid.out ?_)
          refine Lib.hid ?_
          have hC4 := (HC3.out.below hb4).alloc (.cells #[.string TA, .int .i64 pb] 31)
          have hne : w4.heap.size ≠ w.heap.size := by have := HC3.out.lt; have := hb4.size; omega
          have k0 := hC4.get 0 (.int .i64 0)
          have k1 := hC4.get 1 (.string ⟨#[]⟩)
          have k2 := hC4.get 2 (.string ⟨#[]⟩)
          have k3 := hC4.get 3 (.int .i64 0)
          have z0 := hC4.froz 0
          have z1 := hC4.froz 1
          have z2 := hC4.froz 2
          have z3 := hC4.froz 3
          have HC4 := Lib.hid hC4
          have hB4 := HB3.out.trans (hb4.mono HB3.out.size)
          have HB4 := Lib.hid (hB4.alloc hB4.size (.cells #[.string TA, .int .i64 pb] 31))
          clear hC4 hb4 HC3 HB3 hB4
          go_wp2_with fail
          rw [HRE.out]
          refine bodyPost_ret (v := .tuple #[.agg #[.int .i64 k, .string ⟨#[]⟩, .string TA, .int .i64 pb], .bool true]) ?_ rfl ⟨rfl, below_all4 HB4.out (Nat.le_refl _)⟩
          have hfin := HC4.out.all4 (a' := .int .i64 k) (b' := .string ⟨#[]⟩) (c' := .string TA) (d' := .int .i64 pb)
          have g0 := hfin.get 0 (.int .i64 k)
          have g1 := hfin.get 1 (.string ⟨#[]⟩)
          have g2 := hfin.get 2 (.string TA)
          have g3 := hfin.get 3 (.int .i64 pb)
          generalize ((((w4.alloc (.cells #[.string TA, .int .i64 pb] 31)).setCell ⟨w.heap.size, 0, none⟩ (.int .i64 k)).setCell ⟨w.heap.size, 1, none⟩ (.string ⟨#[]⟩)).setCell ⟨w.heap.size, 2, none⟩ (.string TA)).setCell ⟨w.heap.size, 3, none⟩ (.int .i64 pb) = WF at g0 g1 g2 g3 ⊢
          simp [results, Tryd.results31, go_sem, g0, g1, g2, g3]
end Go.Proofs.YtkdknfedieeenaaDoor
namespace Go.Proofs.YtkdknfedieeenaaDoor
open Go.RowKit
set_option linter.unusedVariables false
set_option linter.unusedSimpArgs false
set_option maxRecDepth 20000
attribute [local simp] putsF isV wordOf Deps Region.binds Region.wanted Act.put wantedX isB
theorem wire_six : ∀ (ls : List (List UInt8)), (∀ x ∈ ls, x.length ≤ 6) → (wire ls).length ≤ 7 * ls.length
  | [], _ => by simp [wire]
  | x :: ls, h => by
    have h1 := wire_six ls (fun y hy => h y (by simp [hy]))
    have h2 := h x (by simp)
    rw [wire_cons, List.length_append, List.length_cons, List.length_cons]; omega
theorem nameZ_le (zs : List Int) (hz : ∀ z ∈ zs, 0 ≤ z ∧ z < 256) : (nameZ zs).length ≤ 254 := by
  have h1 := wire_six (wordsZ zs) (fun x hx => (wordsZ_ok zs hz x hx).2.2)
  have h2 := wordsZ_len zs
  unfold nameZ
  omega
theorem ite_int7 {a b x y : Int} (h : b ≤ a) : (if a < b then x else y) = y := by rw [if_neg (by omega)]
theorem ite_nat7 {a b : Nat} {x y : Int} (h : b ≤ a) : (if a < b then x else y) = y := by rw [if_neg (by omega)]
attribute [local simp] ite_int7 ite_nat7
/-- The type and the data by a number, of a name's bytes, and a text. -/
def dataOf (q : Nat) (X s : ByteArray) : Nat × ByteArray :=
  if q = 0 ∨ q = 1 then (1, (s ++ ByteArray.mk #[1, 2, 3, 4]).extract 0 4)
  else if q = 2 then (2, X) else if q = 3 then (5, X)
  else if q = 4 then (6, X ++ ByteArray.mk #[0] ++ X ++ ByteArray.mk #[0] ++ (s ++ ByteArray.mk #[48, 49, 50, 51, 52, 53, 54, 55, 56, 57, 48, 49, 50, 51, 52, 53, 54, 55, 56, 57]).extract 0 20)
  else if q = 5 then (16, ByteArray.mk #[UInt8.ofNat s.size] ++ s.extract 0 s.size)
  else if q = 6 then (28, (s ++ ByteArray.mk #[48, 49, 50, 51, 52, 53, 54, 55, 56, 57, 97, 98, 99, 100, 101, 102]).extract 0 16)
  else (99, s.extract 0 s.size)
theorem data_follows : Tryd.prog.follows .mixedOrders = true := by kernel_rfl
/-- Some data. -/
def IsData (q : Nat) (X s : ByteArray) (e : Ending) : Prop := ∃ (t : Nat) (d : ByteArray), e = .returned (.tuple #[.int .u16 t, .string d]) ∧ t < 65536 ∧ d.size ≤ 600 ∧ dataOf q X s = (t, d)
end Go.Proofs.YtkdknfedieeenaaDoor
namespace Go.Proofs.YtkdknfedieeenaaDoor
open Go.ChangeShapes Go.WideShapes Go.ChangeAt Go.RowKit Go.Deep
set_option linter.unusedVariables false
theorem choose_list1 {α γ : Type} {f : γ → α} {p : γ → Prop} : ∀ (vs : List α), (∀ j, j < vs.length → ∃ x, vs[j]? = some (f x) ∧ p x) → ∃ xs : List γ, vs = xs.map f ∧ ∀ x ∈ xs, p x
  | [], _ => ⟨[], rfl, by simp⟩
  | v :: vs, h => by
    obtain ⟨x, hx, hp⟩ := h 0 (by simp)
    obtain ⟨xs, h1, h3⟩ := choose_list1 (f := f) (p := p) vs (fun j hj => by
      obtain ⟨x, a, c⟩ := h (j + 1) (by simpa using hj)
      exact ⟨x, by simpa using a, c⟩)
    simp at hx
    refine ⟨x :: xs, by simp [h1, hx], ?_⟩
    intro z hz
    rcases List.mem_cons.1 hz with rfl | hz
    · exact hp
    · exact h3 z hz
/-- A row: where it lies, how long it is, its room, its bytes. -/
abbrev RowT := Option Addr × Nat × Nat × List UInt8
def rowV (r : RowT) : Value := .slice r.1 r.2.1 r.2.2.1
def RowOk (w : World) (r : RowT) : Prop := SlView w r.1 r.2.1 r.2.2.1 (r.2.2.2.map bv) ∧ r.2.2.2.length = r.2.1
section
variable {H : Type} {enc : TypeId × Value → H} {P : Program} {w : World} {d : DataW H} {p : List MemPlace}
theorem view_rows {t e b : TypeId} (ht : P.underlying t = some (.slice e)) (he : P.underlying e = some (.slice b)) (hb : P.underlying b = some (.int .u8)) (hc : P.cellsOf e = 1) (hcb : P.cellsOf b = 1) {m : Nat} {cs : List Value}
    (h : DataW.trod enc P w 0 (fun _ => true) true m t cs = some (d, p)) :
    ∃ A n c, ∃ rs : List RowT, ∃ el : List (DataW H), cs = [.slice A n c] ∧ SlView w A n c (rs.map rowV) ∧ rs.length = n ∧ (∀ r ∈ rs, RowOk w r) ∧ el.length = n ∧ ((d = .nil ∧ n = 0 ∧ c = 0) ∨ ∃ sp, d = .slice el sp ∧ sp.length = c - n) := by
  obtain ⟨A, n, c, vs, hcs, hS, hl, hd⟩ := view_slice1 ht hc h
  rcases hd with ⟨rfl, rfl, rfl⟩ | ⟨el, sp, rfl, hel, hsp, hj⟩
  · obtain rfl : vs = [] := List.eq_nil_of_length_eq_zero hl
    exact ⟨A, 0, 0, [], [], hcs, hS, rfl, by simp, rfl, .inl ⟨rfl, rfl, rfl⟩⟩
  · obtain ⟨rs, h1, h3⟩ := choose_list1 (f := rowV) (p := RowOk w) vs (fun j hjj => by
      obtain ⟨u, D, pl, m', a, b', ht'⟩ := hj j (by omega)
      obtain ⟨A', n', c', zs, e1, hS', hl', hz', _⟩ := view_ints he hb hcb ht'
      simp only [List.cons.injEq, and_true] at e1
      obtain ⟨l, hl2⟩ := bytes_of zs hz'
      rw [hl2] at hS'
      refine ⟨(A', n', c', l), by rw [a, e1]; rfl, hS', ?_⟩
      have := congrArg List.length hl2
      simp at this
      show l.length = n'
      omega)
    subst h1
    exact ⟨A, n, c, rs, el, hcs, hS, by simpa using hl, h3, hel, .inr ⟨sp, rfl, hsp⟩⟩
/-- The bytes of all rows. -/
def sumR (rs : List RowT) : Nat := (rs.map fun r => r.2.1).sum
theorem sumR_cons (r : RowT) (rs : List RowT) : sumR (r :: rs) = r.2.1 + sumR rs := by simp [sumR]
theorem bulk_row {D : DataW H} {n' c' : Nat} {zs : List Int} (hl : zs.length = n') (h : (D = .nil ∧ n' = 0 ∧ c' = 0) ∨ ∃ sp, D = .slice (zs.map fun z => DataW.lit (.int .u8 z)) sp ∧ sp.length = c' - n') : n' ≤ Rows.uptoBulk D := by
  rcases h with ⟨rfl, rfl, rfl⟩ | ⟨sp, rfl, _⟩
  · omega
  · rw [bulk_slice]
    have := bulk_len (zs.map fun z => DataW.lit (H := H) (.int .u8 z))
    simp at this; omega
theorem sum_bulk : ∀ (xs : List (RowT × DataW H)), (∀ x ∈ xs, x.1.2.1 ≤ Rows.uptoBulk x.2) → sumR (xs.map (·.1)) ≤ Rows.uptoBulkAll (xs.map (·.2))
  | [], _ => by simp [sumR]
  | x :: xs, h => by
    have h4 := sum_bulk xs (fun z hz => h z (by simp [hz]))
    have h5 := h x (by simp)
    rw [List.map_cons, List.map_cons, sumR_cons, bulk_cons]
    omega
theorem view_rows2 {t e b : TypeId} (ht : P.underlying t = some (.slice e)) (he : P.underlying e = some (.slice b)) (hb : P.underlying b = some (.int .u8)) (hc : P.cellsOf e = 1) (hcb : P.cellsOf b = 1) {m : Nat} {cs : List Value}
    (h : DataW.trod enc P w 0 (fun _ => true) true m t cs = some (d, p)) :
    ∃ A n c, ∃ rs : List RowT, ∃ el : List (DataW H), cs = [.slice A n c] ∧ SlView w A n c (rs.map rowV) ∧ rs.length = n ∧ (∀ r ∈ rs, RowOk w r) ∧ el.length = n ∧ ((d = .nil ∧ n = 0 ∧ c = 0) ∨ ∃ sp, d = .slice el sp ∧ sp.length = c - n) ∧ sumR rs ≤ Rows.uptoBulkAll el := by
  obtain ⟨A, n, c, vs, hcs, hS, hl, hd⟩ := view_slice1 ht hc h
  rcases hd with ⟨rfl, rfl, rfl⟩ | ⟨el, sp, rfl, hel, hsp, hj⟩
  · obtain rfl : vs = [] := List.eq_nil_of_length_eq_zero hl
    exact ⟨A, 0, 0, [], [], hcs, hS, rfl, by simp, rfl, .inl ⟨rfl, rfl, rfl⟩, by simp [sumR]⟩
  · obtain ⟨xs, h1, h2, h3⟩ := choose_list2 (γ := RowT × DataW H) (f := fun x => rowV x.1) (g := fun x => x.2) (p := fun x => RowOk w x.1 ∧ x.1.2.1 ≤ Rows.uptoBulk x.2) vs el (by omega) (fun j hjj => by
      obtain ⟨u, D, pl, m', a, b', ht'⟩ := hj j (by omega)
      obtain ⟨A', n', c', zs, e1, hS', hl', hz', hd'⟩ := view_ints he hb hcb ht'
      simp only [List.cons.injEq, and_true] at e1
      obtain ⟨l, hl2⟩ := bytes_of zs hz'
      rw [hl2] at hS'
      refine ⟨((A', n', c', l), D), by rw [a, e1]; rfl, b', ⟨hS', ?_⟩, bulk_row hl' hd'⟩
      have := congrArg List.length hl2
      simp at this
      show l.length = n'
      omega)
    subst h1 h2
    refine ⟨A, n, c, xs.map (·.1), _, hcs, by rw [List.map_map]; exact hS, by simpa using hl, ?_, by simpa using hl, .inr ⟨sp, rfl, hsp⟩, ?_⟩
    · intro r hr
      obtain ⟨x, hx, rfl⟩ := List.mem_map.1 hr
      exact (h3 x hx).1
    · exact sum_bulk xs (fun x hx => (h3 x hx).2)
theorem weightsAll_mem {e : TypeId} {D : DataW H} {n : Nat} : ∀ {l : List (DataW H)}, D ∈ l → n ∈ D.weights P e → n ∈ DataW.weightsAll P e l
  | x :: l, h, hn => by
    unfold DataW.weightsAll
    rcases List.mem_cons.1 h with rfl | h
    · exact List.mem_append.2 (.inl hn)
    · exact List.mem_append.2 (.inr (weightsAll_mem h hn))
theorem row_sized {ts : List TypeId} {ds : List (DataW H)} (h : (DataW.weightsEach P ts ds).all (· ≤ reachBytes) = true) {j : Nat} {t e : TypeId} {el sp : List (DataW H)} (ht : ts[j]? = some t) (hd : ds[j]? = some (.slice el sp)) (hu : P.underlying t = some (.slice e))
    {D : DataW H} {n : Nat} (hD : D ∈ el) (hn : n ∈ D.weights P e) : n ≤ reachBytes := by
  refine sized_any h ht hd ?_
  simp only [DataW.weights, hu, List.mem_cons, List.mem_append]
  exact .inr (.inl (weightsAll_mem hD hn))
theorem view_rows3 {t e b : TypeId} (ht : P.underlying t = some (.slice e)) (he : P.underlying e = some (.slice b)) (hb : P.underlying b = some (.int .u8)) (hc : P.cellsOf e = 1) (hcb : P.cellsOf b = 1) (hbb : P.bytesOf b = 1) {m : Nat} {cs : List Value}
    (h : DataW.trod enc P w 0 (fun _ => true) true m t cs = some (d, p)) :
    ∃ A n c, ∃ rs : List RowT, ∃ el : List (DataW H), cs = [.slice A n c] ∧ SlView w A n c (rs.map rowV) ∧ rs.length = n ∧ (∀ r ∈ rs, RowOk w r ∧ (r.2.2.1 = 0 ∨ ∃ D ∈ el, r.2.2.1 ∈ D.weights P e)) ∧ el.length = n ∧ ((d = .nil ∧ n = 0 ∧ c = 0) ∨ ∃ sp, d = .slice el sp ∧ sp.length = c - n) := by
  obtain ⟨A, n, c, vs, hcs, hS, hl, hd⟩ := view_slice1 ht hc h
  rcases hd with ⟨rfl, rfl, rfl⟩ | ⟨el, sp, rfl, hel, hsp, hj⟩
  · obtain rfl : vs = [] := List.eq_nil_of_length_eq_zero hl
    exact ⟨A, 0, 0, [], [], hcs, hS, rfl, by simp, rfl, .inl ⟨rfl, rfl, rfl⟩⟩
  · obtain ⟨xs, h1, h2, h3⟩ := choose_list2 (γ := RowT × DataW H) (f := fun x => rowV x.1) (g := fun x => x.2) (p := fun x => RowOk w x.1 ∧ (x.1.2.2.1 = 0 ∨ x.1.2.2.1 ∈ x.2.weights P e)) vs el (by omega) (fun j hjj => by
      obtain ⟨u, D, pl, m', a, b', ht'⟩ := hj j (by omega)
      obtain ⟨A', n', c', zs, e1, hS', hl', hz', hd'⟩ := view_ints he hb hcb ht'
      simp only [List.cons.injEq, and_true] at e1
      obtain ⟨l, hl2⟩ := bytes_of zs hz'
      rw [hl2] at hS'
      have hle := hS'.le
      refine ⟨((A', n', c', l), D), by rw [a, e1]; rfl, b', ⟨hS', ?_⟩, ?_⟩
      · have := congrArg List.length hl2
        simp at this
        show l.length = n'
        omega
      · show c' = 0 ∨ c' ∈ D.weights P e
        rcases hd' with ⟨_, _, h0⟩ | ⟨sp', rfl, hsp'⟩
        · exact .inl h0
        · right
          simp only [DataW.weights, he, List.mem_cons, List.length_map, hl', hsp', hbb]
          left; omega)
    subst h1 h2
    refine ⟨A, n, c, xs.map (·.1), _, hcs, by rw [List.map_map]; exact hS, by simpa using hl, ?_, by simpa using hl, .inr ⟨sp, rfl, hsp⟩⟩
    intro r hr
    obtain ⟨x, hx, rfl⟩ := List.mem_map.1 hr
    refine ⟨(h3 x hx).1, ?_⟩
    rcases (h3 x hx).2 with h4 | h4
    · exact .inl h4
    · exact .inr ⟨x.2, List.mem_map.2 ⟨x, hx, rfl⟩, h4⟩
end
end Go.Proofs.YtkdknfedieeenaaDoor
namespace Go.Proofs.YtkdknfedieeenaaDoor
open Go.ChangeShapes Go.WideShapes Go.ChangeAt Go.RowKit Go.Deep
set_option linter.unusedVariables false
/-- A deed: its kind, its bytes, two numbers. -/
abbrev DeedT := Int × RowT × Int × Int
/-- The deeds lie one behind the other, four cells each. -/
structure Deeds4 (w : World) (A : Option Addr) (n c : Nat) (ds : List DeedT) : Prop where
  len : ds.length = n
  none_ : A = none → n = 0 ∧ c = 0
  le : n ≤ c
  max : c ≤ maxLen
  cells : 0 < n → ∃ b off, A = some ⟨b, off, none⟩ ∧ b < w.heap.size ∧ ∀ i a, ds[i]? = some a → w.cell? ⟨b, off + i * 4, none⟩ = some (.int .u8 a.1) ∧ w.cell? ⟨b, off + i * 4 + 1, none⟩ = some (rowV a.2.1) ∧ w.cell? ⟨b, off + i * 4 + 2, none⟩ = some (.int .u8 a.2.2.1) ∧ w.cell? ⟨b, off + i * 4 + 3, none⟩ = some (.int .i8 a.2.2.2)
  ok : ∀ a ∈ ds, (Lit.int .u8 a.1).wf = true ∧ RowOk w a.2.1 ∧ (Lit.int .u8 a.2.2.1).wf = true ∧ (Lit.int .i8 a.2.2.2).wf = true
/-- A deed: its kind, its bytes, a number. -/
abbrev Deed3 := Int × RowT × Int
/-- The deeds lie one behind the other, three cells each. -/
structure Deeds3 (w : World) (A : Option Addr) (n c : Nat) (ds : List Deed3) : Prop where
  len : ds.length = n
  none_ : A = none → n = 0 ∧ c = 0
  le : n ≤ c
  max : c ≤ maxLen
  cells : 0 < n → ∃ b off, A = some ⟨b, off, none⟩ ∧ b < w.heap.size ∧ ∀ i a, ds[i]? = some a → w.cell? ⟨b, off + i * 3, none⟩ = some (.int .u8 a.1) ∧ w.cell? ⟨b, off + i * 3 + 1, none⟩ = some (rowV a.2.1) ∧ w.cell? ⟨b, off + i * 3 + 2, none⟩ = some (.int .i8 a.2.2)
  ok : ∀ a ∈ ds, (Lit.int .u8 a.1).wf = true ∧ RowOk w a.2.1 ∧ (Lit.int .i8 a.2.2).wf = true
theorem choose_idx {γ : Type} : ∀ (n : Nat) {p : Nat → γ → Prop}, (∀ j, j < n → ∃ x, p j x) → ∃ xs : List γ, xs.length = n ∧ ∀ j x, xs[j]? = some x → p j x
  | 0, _, _ => ⟨[], rfl, by intro j x h; simp at h⟩
  | n + 1, p, h => by
    obtain ⟨x, hx⟩ := h 0 (by omega)
    obtain ⟨xs, h1, h2⟩ := choose_idx n (p := fun j => p (j + 1)) (fun j hj => h (j + 1) (by omega))
    refine ⟨x :: xs, by simp [h1], fun j y hy => ?_⟩
    cases j with
    | zero => simp at hy; subst hy; exact hx
    | succ j => exact h2 j y (by simpa using hy)
section
variable {H : Type} {enc : TypeId × Value → H} {P : Program} {w : World} {d : DataW H} {p : List MemPlace}
theorem view_deeds4 {t e b : TypeId} {f0 f1 f2 f3 : Field} (ht : P.underlying t = some (.slice e)) (hs : P.underlying e = some (.struct #[f0, f1, f2, f3])) (hone : oneCellFields P #[f0, f1, f2, f3] = true) (hC : P.cellsOf e = 4)
    (h0 : P.underlying f0.type = some (.int .u8)) (h1 : P.underlying f1.type = some (.slice b)) (hb : P.underlying b = some (.int .u8)) (hcb : P.cellsOf b = 1) (hbb : P.bytesOf b = 1) (h2 : P.underlying f2.type = some (.int .u8)) (h3 : P.underlying f3.type = some (.int .i8)) {m : Nat} {cs : List Value}
    (h : DataW.trod enc P w 0 (fun _ => true) true m t cs = some (d, p)) :
    ∃ A n c, ∃ ds : List DeedT, ∃ el : List (DataW H), cs = [.slice A n c] ∧ Deeds4 w A n c ds ∧ el.length = n ∧ ((d = .nil ∧ n = 0 ∧ c = 0) ∨ ∃ sp, d = .slice el sp ∧ sp.length = c - n) ∧
      ∀ a ∈ ds, a.2.1.2.2.1 = 0 ∨ ∃ D ∈ el, a.2.1.2.2.1 ∈ D.weights P e := by
  rcases open_slice ht h with ⟨rfl, hx⟩ | ⟨a, len, cap, m', n', D, Pl, rfl, hbase, hl, hm, hmm, hx, hi⟩
  · simp only [Prod.mk.injEq] at hx
    exact ⟨none, 0, 0, [], [], rfl, ⟨rfl, fun _ => ⟨rfl, rfl⟩, Nat.le_refl _, Nat.zero_le _, fun h => absurd h (by omega), by simp⟩, rfl, .inl ⟨hx.1, rfl, rfl⟩, by simp⟩
  · simp only [if_true] at hmm
    simp only [Prod.mk.injEq] at hx
    have key : ∀ j, j < len → ∃ x : DeedT, (w.cell? (a.add (j * 4)) = some (.int .u8 x.1) ∧ w.cell? (a.add (j * 4 + 1)) = some (rowV x.2.1) ∧ w.cell? (a.add (j * 4 + 2)) = some (.int .u8 x.2.2.1) ∧ w.cell? (a.add (j * 4 + 3)) = some (.int .i8 x.2.2.2)) ∧
        ((Lit.int .u8 x.1).wf = true ∧ RowOk w x.2.1 ∧ (Lit.int .u8 x.2.2.1).wf = true ∧ (Lit.int .i8 x.2.2.2).wf = true) ∧ (x.2.1.2.2.1 = 0 ∨ x.2.1.2.2.1 ∈ (D j).weights P e) := by
      intro j hj
      obtain ⟨cs', g1, g2⟩ := hi j (by omega)
      rw [hC] at g1
      obtain ⟨_, hlen, hcell⟩ := World.cells?_some g1
      match cs', hlen with
      | [v0, v1, v2, v3], _ =>
        obtain ⟨y0, y1, y2, y3, k, hy, _, t0, t1, t2, t3⟩ := Joins.trod_struct4 hs g2
        obtain ⟨o0, k0⟩ := hone_of hone 0 f0 rfl
        obtain ⟨o1, k1⟩ := hone_of hone 1 f1 rfl
        obtain ⟨o2, k2⟩ := hone_of hone 2 f2 rfl
        obtain ⟨o3, k3⟩ := hone_of hone 3 f3 rfl
        rw [o0, k0] at t0
        rw [o1, k1] at t1
        rw [o2, k2] at t2
        rw [o3, k3] at t3
        simp only [List.drop_zero, List.take_succ_cons, List.take_zero, List.drop_succ_cons] at t0 t1 t2 t3
        obtain ⟨z0, e0, -, w0⟩ := DataW.trod_int h0 t0
        obtain ⟨A', n2, c', zs, e1, hS', hl', hz', hd'⟩ := view_ints h1 hb hcb t1
        obtain ⟨z2, e2, -, w2⟩ := DataW.trod_int h2 t2
        obtain ⟨z3, e3, -, w3⟩ := DataW.trod_int h3 t3
        simp only [List.cons.injEq, and_true] at e0 e1 e2 e3
        subst e0 e1 e2 e3
        obtain ⟨l, hl2⟩ := bytes_of zs hz'
        rw [hl2] at hS'
        have hle := hS'.le
        refine ⟨(z0, (A', n2, c', l), z2, z3), ⟨?_, ?_, ?_, ?_⟩, ⟨w0, ⟨hS', ?_⟩, w2, w3⟩, ?_⟩
        · have q := hcell 0 (by omega); rw [Addr.add_add] at q; exact q
        · have q := hcell 1 (by omega); rw [Addr.add_add] at q; exact q
        · have q := hcell 2 (by omega); rw [Addr.add_add] at q; exact q
        · have q := hcell 3 (by omega); rw [Addr.add_add] at q; exact q
        · have := congrArg List.length hl2
          simp at this
          show l.length = n2
          omega
        · show c' = 0 ∨ c' ∈ (D j).weights P e
          rcases hd' with ⟨_, _, h00⟩ | ⟨sp', hy1, hsp'⟩
          · exact .inl h00
          · right
            have hDj : D j = .agg [y0.1, y1.1, y2.1, y3.1] := by
              have := congrArg Prod.fst hy
              exact this
            rw [hDj]
            simp only [DataW.weights, hs, DataW.weightsEach, List.map_cons, List.map_nil]
            rw [hy1]
            simp [DataW.weights, h1, hl', hsp', hbb]
            right; left
            omega
    obtain ⟨ds, hal, has⟩ := choose_idx len key
    refine ⟨some a, len, cap, ds, (List.range len).map D, rfl, ⟨hal, (fun h => by cases h), hl, hm, fun hn => ?_, ?_⟩, by simp, .inr ⟨_, hx.1, by simp; omega⟩, ?_⟩
    · obtain ⟨b', off, spot⟩ := a
      obtain ⟨x0, hx0⟩ : ∃ x, ds[0]? = some x := ⟨_, List.getElem?_eq_getElem (by omega)⟩
      have g0 := (has 0 x0 hx0).1.1
      have hspot : spot = none := by simpa [Addr.add] using World.cell?_spot g0
      subst hspot
      refine ⟨b', off, rfl, ?_, fun i x hx' => ?_⟩
      · have := World.block_lt_of_cell? w _ g0
        rwa [Addr.add_lit] at this
      · obtain ⟨q0, q1, q2, q3⟩ := (has i x hx').1
        rw [Addr.add_lit] at q0 q1 q2 q3
        exact ⟨q0, by rw [Nat.add_assoc]; exact q1, by rw [Nat.add_assoc]; exact q2, by rw [Nat.add_assoc]; exact q3⟩
    · intro x hx'
      obtain ⟨i, hi', rfl⟩ := List.getElem_of_mem hx'
      exact (has i _ (List.getElem?_eq_getElem hi')).2.1
    · intro x hx'
      obtain ⟨i, hi', rfl⟩ := List.getElem_of_mem hx'
      rcases (has i _ (List.getElem?_eq_getElem hi')).2.2 with h4 | h4
      · exact .inl h4
      · exact .inr ⟨D i, List.mem_map.2 ⟨i, by simp; omega, rfl⟩, h4⟩
theorem sum_idx {γ : Type} (f : γ → Nat) : ∀ (ds : List γ) (D : Nat → DataW H), (∀ j x, ds[j]? = some x → f x ≤ Rows.uptoBulk (D j)) → (ds.map f).sum ≤ Rows.uptoBulkAll ((List.range ds.length).map D)
  | [], _, _ => by simp
  | x :: ds, D, h => by
    have h1 := sum_idx f ds (fun j => D (j + 1)) (fun j y hy => h (j + 1) y (by simpa using hy))
    have h2 := h 0 x rfl
    rw [List.length_cons, List.range_succ_eq_map, List.map_cons, List.map_cons, List.map_map, List.sum_cons, bulk_cons]
    have h3 : (List.range ds.length).map (D ∘ Nat.succ) = (List.range ds.length).map (fun j => D (j + 1)) := rfl
    rw [h3]; omega
theorem view_deeds3 {t e b : TypeId} {f0 f1 f2 : Field} (ht : P.underlying t = some (.slice e)) (hs : P.underlying e = some (.struct #[f0, f1, f2])) (hone : oneCellFields P #[f0, f1, f2] = true) (hC : P.cellsOf e = 3)
    (h0 : P.underlying f0.type = some (.int .u8)) (h1 : P.underlying f1.type = some (.slice b)) (hb : P.underlying b = some (.int .u8)) (hcb : P.cellsOf b = 1) (hbb : P.bytesOf b = 1) (h2 : P.underlying f2.type = some (.int .i8)) {m : Nat} {cs : List Value}
    (h : DataW.trod enc P w 0 (fun _ => true) true m t cs = some (d, p)) :
    ∃ A n c, ∃ ds : List Deed3, ∃ el : List (DataW H), cs = [.slice A n c] ∧ Deeds3 w A n c ds ∧ el.length = n ∧ ((d = .nil ∧ n = 0 ∧ c = 0) ∨ ∃ sp, d = .slice el sp ∧ sp.length = c - n) ∧
      (∀ a ∈ ds, a.2.1.2.2.1 = 0 ∨ ∃ D ∈ el, a.2.1.2.2.1 ∈ D.weights P e) ∧ (ds.map fun a => a.2.1.2.1).sum ≤ Rows.uptoBulkAll el := by
  rcases open_slice ht h with ⟨rfl, hx⟩ | ⟨a, len, cap, m', n', D, Pl, rfl, hbase, hl, hm, hmm, hx, hi⟩
  · simp only [Prod.mk.injEq] at hx
    exact ⟨none, 0, 0, [], [], rfl, ⟨rfl, fun _ => ⟨rfl, rfl⟩, Nat.le_refl _, Nat.zero_le _, fun h => absurd h (by omega), by simp⟩, rfl, .inl ⟨hx.1, rfl, rfl⟩, by simp, by simp⟩
  · simp only [if_true] at hmm
    simp only [Prod.mk.injEq] at hx
    have key : ∀ j, j < len → ∃ x : Deed3, (w.cell? (a.add (j * 3)) = some (.int .u8 x.1) ∧ w.cell? (a.add (j * 3 + 1)) = some (rowV x.2.1) ∧ w.cell? (a.add (j * 3 + 2)) = some (.int .i8 x.2.2)) ∧
        ((Lit.int .u8 x.1).wf = true ∧ RowOk w x.2.1 ∧ (Lit.int .i8 x.2.2).wf = true) ∧ (x.2.1.2.2.1 = 0 ∨ x.2.1.2.2.1 ∈ (D j).weights P e) ∧ x.2.1.2.1 ≤ Rows.uptoBulk (D j) := by
      intro j hj
      obtain ⟨cs', g1, g2⟩ := hi j (by omega)
      rw [hC] at g1
      obtain ⟨_, hlen, hcell⟩ := World.cells?_some g1
      match cs', hlen with
      | [v0, v1, v2], _ =>
        obtain ⟨y0, y1, y2, k, hy, _, t0, t1, t2⟩ := Go.Deep.trod_struct3 hs g2
        obtain ⟨o0, k0⟩ := hone_of hone 0 f0 rfl
        obtain ⟨o1, k1⟩ := hone_of hone 1 f1 rfl
        obtain ⟨o2, k2⟩ := hone_of hone 2 f2 rfl
        rw [o0, k0] at t0
        rw [o1, k1] at t1
        rw [o2, k2] at t2
        simp only [List.drop_zero, List.take_succ_cons, List.take_zero, List.drop_succ_cons] at t0 t1 t2
        obtain ⟨z0, e0, -, w0⟩ := DataW.trod_int h0 t0
        obtain ⟨A', n2, c', zs, e1, hS', hl', hz', hd'⟩ := view_ints h1 hb hcb t1
        obtain ⟨z2, e2, -, w2⟩ := DataW.trod_int h2 t2
        simp only [List.cons.injEq, and_true] at e0 e1 e2
        subst e0 e1 e2
        obtain ⟨l, hl2⟩ := bytes_of zs hz'
        rw [hl2] at hS'
        have hle := hS'.le
        refine ⟨(z0, (A', n2, c', l), z2), ⟨?_, ?_, ?_⟩, ⟨w0, ⟨hS', ?_⟩, w2⟩, ?_, ?_⟩
        · have q := hcell 0 (by omega); rw [Addr.add_add] at q; exact q
        · have q := hcell 1 (by omega); rw [Addr.add_add] at q; exact q
        · have q := hcell 2 (by omega); rw [Addr.add_add] at q; exact q
        · have := congrArg List.length hl2
          simp at this
          show l.length = n2
          omega
        · show c' = 0 ∨ c' ∈ (D j).weights P e
          rcases hd' with ⟨_, _, h00⟩ | ⟨sp', hy1, hsp'⟩
          · exact .inl h00
          · right
            have hDj : D j = .agg [y0.1, y1.1, y2.1] := by
              have := congrArg Prod.fst hy
              exact this
            rw [hDj]
            simp only [DataW.weights, hs, DataW.weightsEach, List.map_cons, List.map_nil]
            rw [hy1]
            simp [DataW.weights, h1, hl', hsp', hbb]
            right; left
            omega
        · have hDj : D j = .agg [y0.1, y1.1, y2.1] := by
            have := congrArg Prod.fst hy
            exact this
          rw [hDj, bulk_agg, bulk_cons, bulk_cons]
          have h9 := bulk_row hl' hd'
          show n2 ≤ _
          omega
    obtain ⟨ds, hal, has⟩ := choose_idx len key
    refine ⟨some a, len, cap, ds, (List.range len).map D, rfl, ⟨hal, (fun h => by cases h), hl, hm, fun hn => ?_, ?_⟩, by simp, .inr ⟨_, hx.1, by simp; omega⟩, ?_, by have h9 := sum_idx (fun a : Deed3 => a.2.1.2.1) ds D (fun j x hx => (has j x hx).2.2.2); rw [hal] at h9; exact h9⟩
    · obtain ⟨b', off, spot⟩ := a
      obtain ⟨x0, hx0⟩ : ∃ x, ds[0]? = some x := ⟨_, List.getElem?_eq_getElem (by omega)⟩
      have g0 := (has 0 x0 hx0).1.1
      have hspot : spot = none := by simpa [Addr.add] using World.cell?_spot g0
      subst hspot
      refine ⟨b', off, rfl, ?_, fun i x hx' => ?_⟩
      · have := World.block_lt_of_cell? w _ g0
        rwa [Addr.add_lit] at this
      · obtain ⟨q0, q1, q2⟩ := (has i x hx').1
        rw [Addr.add_lit] at q0 q1 q2
        exact ⟨q0, by rw [Nat.add_assoc]; exact q1, by rw [Nat.add_assoc]; exact q2⟩
    · intro x hx'
      obtain ⟨i, hi', rfl⟩ := List.getElem_of_mem hx'
      exact (has i _ (List.getElem?_eq_getElem hi')).2.1
    · intro x hx'
      obtain ⟨i, hi', rfl⟩ := List.getElem_of_mem hx'
      rcases (has i _ (List.getElem?_eq_getElem hi')).2.2.1 with h4 | h4
      · exact .inl h4
      · exact .inr ⟨D i, List.mem_map.2 ⟨i, by simp; omega, rfl⟩, h4⟩
end
end Go.Proofs.YtkdknfedieeenaaDoor
namespace Go.Proofs.YtkdknfedieeenaaDoor
open Go.ChangeShapes Go.WideShapes Go.ChangeAt Go.RowKit Go.Deep
set_option linter.unusedVariables false
/-- A record by numbers: name, kind, time, data, text. -/
abbrev ActT := RowT × Int × Int × RowT × ByteArray
/-- They lie one behind the other, five cells each. -/
structure Acts5 (w : World) (A : Option Addr) (n c : Nat) (ds : List ActT) : Prop where
  len : ds.length = n
  none_ : A = none → n = 0 ∧ c = 0
  le : n ≤ c
  max : c ≤ maxLen
  cells : 0 < n → ∃ b off, A = some ⟨b, off, none⟩ ∧ b < w.heap.size ∧ ∀ i a, ds[i]? = some a → w.cell? ⟨b, off + i * 5, none⟩ = some (rowV a.1) ∧ w.cell? ⟨b, off + i * 5 + 1, none⟩ = some (.int .u8 a.2.1) ∧ w.cell? ⟨b, off + i * 5 + 2, none⟩ = some (.int .u32 a.2.2.1) ∧
    w.cell? ⟨b, off + i * 5 + 3, none⟩ = some (rowV a.2.2.2.1) ∧ w.cell? ⟨b, off + i * 5 + 4, none⟩ = some (.string a.2.2.2.2)
  ok : ∀ a ∈ ds, RowOk w a.1 ∧ (Lit.int .u8 a.2.1).wf = true ∧ (Lit.int .u32 a.2.2.1).wf = true ∧ RowOk w a.2.2.2.1 ∧ a.2.2.2.2.size ≤ maxLen
section
variable {H : Type} {enc : TypeId × Value → H} {P : Program} {w : World} {d : DataW H} {p : List MemPlace}
theorem view_acts5 {t e b0 b3 : TypeId} {f0 f1 f2 f3 f4 : Field} (ht : P.underlying t = some (.slice e)) (hs : P.underlying e = some (.struct #[f0, f1, f2, f3, f4])) (hone : oneCellFields P #[f0, f1, f2, f3, f4] = true) (hC : P.cellsOf e = 5)
    (h0 : P.underlying f0.type = some (.slice b0)) (hb0 : P.underlying b0 = some (.int .u8)) (hcb0 : P.cellsOf b0 = 1) (hbb0 : P.bytesOf b0 = 1) (h1 : P.underlying f1.type = some (.int .u8)) (h2 : P.underlying f2.type = some (.int .u32))
    (h3 : P.underlying f3.type = some (.slice b3)) (hb3 : P.underlying b3 = some (.int .u8)) (hcb3 : P.cellsOf b3 = 1) (hbb3 : P.bytesOf b3 = 1) (h4 : P.underlying f4.type = some .string) {m : Nat} {cs : List Value}
    (h : DataW.trod enc P w 0 (fun _ => true) true m t cs = some (d, p)) :
    ∃ A n c, ∃ ds : List ActT, ∃ el : List (DataW H), cs = [.slice A n c] ∧ Acts5 w A n c ds ∧ el.length = n ∧ ((d = .nil ∧ n = 0 ∧ c = 0) ∨ ∃ sp, d = .slice el sp ∧ sp.length = c - n) ∧
      ∀ a ∈ ds, (a.1.2.2.1 = 0 ∨ ∃ D ∈ el, a.1.2.2.1 ∈ D.weights P e) ∧ (a.2.2.2.1.2.2.1 = 0 ∨ ∃ D ∈ el, a.2.2.2.1.2.2.1 ∈ D.weights P e) := by
  rcases open_slice ht h with ⟨rfl, hx⟩ | ⟨a, len, cap, m', n', D, Pl, rfl, hbase, hl, hm, hmm, hx, hi⟩
  · simp only [Prod.mk.injEq] at hx
    exact ⟨none, 0, 0, [], [], rfl, ⟨rfl, fun _ => ⟨rfl, rfl⟩, Nat.le_refl _, Nat.zero_le _, fun h => absurd h (by omega), by simp⟩, rfl, .inl ⟨hx.1, rfl, rfl⟩, by simp⟩
  · simp only [if_true] at hmm
    simp only [Prod.mk.injEq] at hx
    have key : ∀ j, j < len → ∃ x : ActT, (w.cell? (a.add (j * 5)) = some (rowV x.1) ∧ w.cell? (a.add (j * 5 + 1)) = some (.int .u8 x.2.1) ∧ w.cell? (a.add (j * 5 + 2)) = some (.int .u32 x.2.2.1) ∧ w.cell? (a.add (j * 5 + 3)) = some (rowV x.2.2.2.1) ∧ w.cell? (a.add (j * 5 + 4)) = some (.string x.2.2.2.2)) ∧
        (RowOk w x.1 ∧ (Lit.int .u8 x.2.1).wf = true ∧ (Lit.int .u32 x.2.2.1).wf = true ∧ RowOk w x.2.2.2.1 ∧ x.2.2.2.2.size ≤ maxLen) ∧ (x.1.2.2.1 = 0 ∨ x.1.2.2.1 ∈ (D j).weights P e) ∧ (x.2.2.2.1.2.2.1 = 0 ∨ x.2.2.2.1.2.2.1 ∈ (D j).weights P e) := by
      intro j hj
      obtain ⟨cs', g1, g2⟩ := hi j (by omega)
      rw [hC] at g1
      obtain ⟨_, hlen, hcell⟩ := World.cells?_some g1
      match cs', hlen with
      | [v0, v1, v2, v3, v4], _ =>
        obtain ⟨ys, k, _, hy, _, hyl, hf⟩ := DataW.trod_struct hs g2
        match ys, hyl with
        | [y0, y1, y2, y3, y4], _ =>
        have t0 := hf 0 f0 rfl
        have t1 := hf 1 f1 rfl
        have t2 := hf 2 f2 rfl
        have t3 := hf 3 f3 rfl
        have t4 := hf 4 f4 rfl
        obtain ⟨o0, k0⟩ := hone_of hone 0 f0 rfl
        obtain ⟨o1, k1⟩ := hone_of hone 1 f1 rfl
        obtain ⟨o2, k2⟩ := hone_of hone 2 f2 rfl
        obtain ⟨o3, k3⟩ := hone_of hone 3 f3 rfl
        obtain ⟨o4, k4⟩ := hone_of hone 4 f4 rfl
        rw [o0, k0] at t0
        rw [o1, k1] at t1
        rw [o2, k2] at t2
        rw [o3, k3] at t3
        rw [o4, k4] at t4
        simp only [List.drop_zero, List.take_succ_cons, List.take_zero, List.drop_succ_cons, List.getElem?_cons_zero, List.getElem?_cons_succ] at t0 t1 t2 t3 t4
        obtain ⟨A', n2, c', zs, e0, hS', hl', hz', hd'⟩ := view_ints h0 hb0 hcb0 t0
        obtain ⟨z1, e1, -, w1⟩ := DataW.trod_int h1 t1
        obtain ⟨z2, e2, -, w2⟩ := DataW.trod_int h2 t2
        obtain ⟨A3, n3, c3, zs3, e3, hS3, hl3, hz3, hd3⟩ := view_ints h3 hb3 hcb3 t3
        obtain ⟨z4, e4, -, w4⟩ := DataW.trod_string h4 t4
        simp only [List.cons.injEq, and_true] at e0 e1 e2 e3 e4
        subst e0 e1 e2 e3 e4
        obtain ⟨l, hl2⟩ := bytes_of zs hz'
        obtain ⟨l3, hl4⟩ := bytes_of zs3 hz3
        rw [hl2] at hS'
        rw [hl4] at hS3
        have hle := hS'.le
        have hle3 := hS3.le
        have hDj : D j = .agg [y0.1, y1.1, y2.1, y3.1, y4.1] := by
          have := congrArg Prod.fst hy
          simpa using this
        refine ⟨((A', n2, c', l), z1, z2, (A3, n3, c3, l3), z4), ⟨?_, ?_, ?_, ?_, ?_⟩, ⟨⟨hS', ?_⟩, w1, w2, ⟨hS3, ?_⟩, w4⟩, ?_, ?_⟩
        · have q := hcell 0 (by omega); rw [Addr.add_add] at q; exact q
        · have q := hcell 1 (by omega); rw [Addr.add_add] at q; exact q
        · have q := hcell 2 (by omega); rw [Addr.add_add] at q; exact q
        · have q := hcell 3 (by omega); rw [Addr.add_add] at q; exact q
        · have q := hcell 4 (by omega); rw [Addr.add_add] at q; exact q
        · have := congrArg List.length hl2
          simp at this
          show l.length = n2
          omega
        · have := congrArg List.length hl4
          simp at this
          show l3.length = n3
          omega
        · show c' = 0 ∨ c' ∈ (D j).weights P e
          rcases hd' with ⟨_, _, h00⟩ | ⟨sp', hy1, hsp'⟩
          · exact .inl h00
          · right
            rw [hDj]
            simp only [DataW.weights, hs, DataW.weightsEach, List.map_cons, List.map_nil]
            rw [hy1]
            simp [DataW.weights, h0, hl', hsp', hbb0]
            left
            omega
        · show c3 = 0 ∨ c3 ∈ (D j).weights P e
          rcases hd3 with ⟨_, _, h00⟩ | ⟨sp', hy1, hsp'⟩
          · exact .inl h00
          · right
            rw [hDj]
            simp only [DataW.weights, hs, DataW.weightsEach, List.map_cons, List.map_nil]
            rw [hy1]
            simp [DataW.weights, h3, hl3, hsp', hbb3]
            right; right; right; left
            omega
    obtain ⟨ds, hal, has⟩ := choose_idx len key
    refine ⟨some a, len, cap, ds, (List.range len).map D, rfl, ⟨hal, (fun h => by cases h), hl, hm, fun hn => ?_, ?_⟩, by simp, .inr ⟨_, hx.1, by simp; omega⟩, ?_⟩
    · obtain ⟨b', off, spot⟩ := a
      obtain ⟨x0, hx0⟩ : ∃ x, ds[0]? = some x := ⟨_, List.getElem?_eq_getElem (by omega)⟩
      have g0 := (has 0 x0 hx0).1.1
      have hspot : spot = none := by simpa [Addr.add] using World.cell?_spot g0
      subst hspot
      refine ⟨b', off, rfl, ?_, fun i x hx' => ?_⟩
      · have := World.block_lt_of_cell? w _ g0
        rwa [Addr.add_lit] at this
      · obtain ⟨q0, q1, q2, q3, q4⟩ := (has i x hx').1
        rw [Addr.add_lit] at q0 q1 q2 q3 q4
        exact ⟨q0, by rw [Nat.add_assoc]; exact q1, by rw [Nat.add_assoc]; exact q2, by rw [Nat.add_assoc]; exact q3, by rw [Nat.add_assoc]; exact q4⟩
    · intro x hx'
      obtain ⟨i, hi', rfl⟩ := List.getElem_of_mem hx'
      exact (has i _ (List.getElem?_eq_getElem hi')).2.1
    · intro x hx'
      obtain ⟨i, hi', rfl⟩ := List.getElem_of_mem hx'
      obtain ⟨g0, g3⟩ := (has i _ (List.getElem?_eq_getElem hi')).2.2
      have hD : D i ∈ (List.range len).map D := List.mem_map.2 ⟨i, by simp; omega, rfl⟩
      exact ⟨g0.imp id fun q => ⟨D i, hD, q⟩, g3.imp id fun q => ⟨D i, hD, q⟩⟩
end
end Go.Proofs.YtkdknfedieeenaaDoor
namespace Go.Proofs.YtkdknfedieeenaaDoor
open Go.RowKit
set_option linter.unusedVariables false
/-- The world goes on: nothing that was there turns but block g. -/
def GoesBut (g : Nat) (w w' : World) : Prop := w.heap.size ≤ w'.heap.size ∧ ∀ k, k < w.heap.size → k ≠ g → w'.heap[k]? = w.heap[k]?
theorem GoesBut.refl (g : Nat) (w : World) : GoesBut g w w := ⟨Nat.le_refl _, fun _ _ _ => rfl⟩
theorem GoesBut.alloc (g : Nat) (w : World) (o : Obj) : GoesBut g w (w.alloc o) := ⟨by simp, fun k hk _ => Below.heap_alloc w o k hk⟩
theorem GoesBut.set (g j : Nat) (w : World) (u : Value) : GoesBut g w (w.setCell ⟨g, j, none⟩ u) := ⟨by simp, fun k _ hk => Below.heap_setCell w _ u k hk⟩
theorem GoesBut.below {g : Nat} {w w' : World} (h : Below w.heap.size w w') : GoesBut g w w' := ⟨h.size, fun k hk _ => h.block k hk⟩
theorem GoesBut.cell {g : Nat} {w w' : World} (h : GoesBut g w w') {b j : Nat} (hb : b < w.heap.size) (hg : b ≠ g) : w'.cell? ⟨b, j, none⟩ = w.cell? ⟨b, j, none⟩ := World.cell?_of_block (w := w) (h.2 b hb hg)
def AllStayX (Ext : World → World → Prop) : List (Value → World → Prop) → Prop
  | [] => True
  | p :: ps => (∀ v w w', p v w → Ext w w' → p v w') ∧ AllStayX Ext ps
theorem AllStayX.mem {Ext : World → World → Prop} : ∀ {l : List (Value → World → Prop)}, AllStayX Ext l → ∀ p ∈ l, ∀ v w w', p v w → Ext w w' → p v w'
  | q :: l, h, p, hp => by
    rcases List.mem_cons.1 hp with rfl | hp
    · exact h.1
    · exact AllStayX.mem h.2 p hp
theorem isV_stayX (Ext : World → World → Prop) (u : Value) : ∀ v w w', isV u v w → Ext w w' → isV u v w' := fun _ _ _ h _ => h
section
variable {P : Program} {ops : Array Oper} {Q : Exit → Act → World → Prop}
theorem wp_region_ext {id : Nat} {base : Act} {w0 : World} (hm : P.follows .mixedOrders = true) {FF : (Nat → Value) → Act} (hFF : ∀ x, putsF x 0 (ops.toList.map (·.dst)) base = FF x) (R : World → Prop) (Ext : World → World → Prop) (Ws : List (Value → World → Prop))
    (hn : noTwice (ops.toList.map (·.dst)) = true) (hg : guardsIn ops base.tmps.size = true) (hwf : wellFormed ops = true) (hlen : Ws.length = ops.size) (stays : AllStayX Ext Ws) (refl : ∀ w, Ext w w) (start : R w0.drew)
    (steps : OpStepsG P ops Q Ws R Ext FF 0 ops.toList)
    (fin : ∀ (x : Nat → Value) (w : World), R w → AllWords Ws x w 0 Ws → Q .normal (FF x) w) :
    (Code.region id ops true).wp P Q base w0 :=
  wp_region_words hm Ws R Ext hn hwf hlen stays.mem refl start (OpStepsG.steps hn hg hFF ops.toList 0 (fun _ h => h) steps) (fun x w hr hw => by rw [hFF x]; exact fin x w hr hw)
end
theorem next_of {A a' : Act} {d : Option Tmp} {p : Value → World → Prop} {R : World → Prop} {Ext : World → World → Prop} {w w' : World} (v : Value) (ha : a' = A.put d v) (hp : p v w') (hR : R w') (he : Ext w w') : Next A d p R Ext w a' w' := ⟨v, ha, hp, hR, he⟩
end Go.Proofs.YtkdknfedieeenaaDoor
namespace Go.Proofs.YtkdknfedieeenaaDoor
set_option linter.unusedVariables false
section
variable {P : Program} {ops : Array Oper} {Q : Exit → Act → World → Prop}
/-- A region that draws its order, by one word on all that has been done: which operations, what their slots hold, and the world. -/
theorem wp_region_joint {id : Nat} {base : Act} {w0 : World} (hm : P.follows .mixedOrders = true) (J : (Nat → Bool) → (Nat → Value) → World → Prop)
    (hn : noTwice (ops.toList.map (·.dst)) = true) (hwf : wellFormed ops = true)
    (start : ∀ x, J (fun _ => false) x w0.drew)
    (steps : ∀ i (hi : i < ops.size) (d : Nat → Bool) (x : Nat → Value) (w : World), J d x w → d i = false → (∀ e ∈ (ops[i]).after.toList, Region.binds .any e = true → d e.on = true) →
      if Region.wanted ops[i] (yielded ops (putsF x 0 (ops.toList.map (·.dst)) base).tmps) = true
      then Oper.wp P ops[i] (putsF x 0 (ops.toList.map (·.dst)) base) w (fun a' w' => ∃ v, a' = (putsF x 0 (ops.toList.map (·.dst)) base).put (ops[i]).dst v ∧ J (fun j => if j = i then true else d j) (fun j => if j = i then v else x j) w') Q
      else J (fun j => if j = i then true else d j) (fun j => if j = i then undef else x j) w)
    (fin : ∀ (d : Nat → Bool) (x : Nat → Value) (w : World), (∀ i, i < ops.size → d i = true) → J d x w → Q .normal (putsF x 0 (ops.toList.map (·.dst)) base) w) :
    (Code.region id ops true).wp P Q base w0 := by
  -- if nothing is ready all has come up
  have hall : ∀ listed : Array Bool, listed.size = ops.size → Region.ready .any ops listed = [] → ∀ i, i < ops.size → listed.getD i false = true := by
    intro listed hs hr i
    induction i using Nat.strongRecOn with
    | _ i ih =>
      intro hi
      cases hli : listed.getD i false with
      | true => rfl
      | false =>
        exfalso
        have hmem : i ∈ Region.ready .any ops listed := by
          unfold Region.ready
          rw [List.mem_filter]
          refine ⟨by simpa using hi, ?_⟩
          have hd : listed.getD i true = false := by
            simp [Array.getD, hs, hi] at hli ⊢; exact hli
          rw [hd]
          simp only [Bool.not_false, Bool.true_and, Array.getElem?_eq_getElem hi, Option.map_some, Option.getD_some]
          rw [Array.all_eq_true']
          intro e he
          by_cases hb : Region.binds .any e = true
          · have hlt : e.on < i := by
              unfold wellFormed at hwf
              rw [List.all_eq_true] at hwf
              have := hwf (ops[i], i) (by rw [List.mem_zipIdx_iff_getElem?]; simp [hi])
              simp only [Array.all_eq_true'] at this
              have := this e he
              simpa [hb] using this
            simp [hb, ih e.on hlt (by omega)]
          · simp [hb]
        rw [hr] at hmem
        cases hmem
  have main : ∀ (fuel : Nat) (listed : Array Bool) (x : Nat → Value) (w : World), listed.size = ops.size → (List.range ops.size).countP (fun i => !listed.getD i false) ≤ fuel →
      J (fun i => listed.getD i false) x w → wpAny P .any ops Q fuel listed (putsF x 0 (ops.toList.map (·.dst)) base) w := by
    intro fuel
    have hfin : ∀ (listed : Array Bool) (x : Nat → Value) (w : World), listed.size = ops.size → J (fun i => listed.getD i false) x w → Region.ready .any ops listed = [] → Q .normal (putsF x 0 (ops.toList.map (·.dst)) base) w := by
      intro listed x w hs hJ hr
      exact fin _ x w (fun i hi => hall listed hs hr i hi) hJ
    induction fuel with
    | zero =>
      intro listed x w hs hc hJ
      have hr : Region.ready .any ops listed = [] := by
        unfold Region.ready
        rw [List.filter_eq_nil_iff]
        intro i hi
        have h0 := Nat.le_zero.1 hc
        rw [List.countP_eq_zero] at h0
        have := h0 i hi
        have hi' : i < ops.size := by simpa using hi
        simp [Array.getD, hs, hi'] at this ⊢
        simp [this]
      exact ⟨hr, hfin listed x w hs hJ hr⟩
    | succ fuel ih =>
      intro listed x w hs hc hJ
      refine ⟨hfin listed x w hs hJ, fun i hi => ?_⟩
      unfold Region.ready at hi
      rw [List.mem_filter] at hi
      obtain ⟨hir, hi2⟩ := hi
      have hio : i < ops.size := by simpa using hir
      simp only [Bool.and_eq_true, Bool.not_eq_true', Array.getElem?_eq_getElem hio, Option.map_some, Option.getD_some] at hi2
      obtain ⟨hli, haft⟩ := hi2
      have hli' : listed[i]'(by omega) = false := by simpa [Array.getD, hs, hio] using hli
      have hop := steps i hio (fun i => listed.getD i false) x w hJ (by simp [Array.getD, hs, hio, hli']) (fun e he hb => by
        rw [Array.all_eq_true'] at haft
        have := haft e (by simpa using he)
        simpa [hb] using this)
      have hds : (ops.toList.map (·.dst))[i]? = some (ops[i]).dst := by simp [hio]
      have next : ∀ v w', J (fun j => if j = i then true else listed.getD j false) (fun j => if j = i then v else x j) w' → wpAny P .any ops Q fuel (listed.setIfInBounds i true) ((putsF x 0 (ops.toList.map (·.dst)) base).put (ops[i]).dst v) w' := by
        intro v w' hJ'
        have hset := putsF_set x (ops.toList.map (·.dst)) 0 i base (ops[i]).dst v hn hds
        rw [Nat.zero_add] at hset
        rw [← hset]
        have hJ2 : J (fun j => (listed.setIfInBounds i true).getD j false) (fun j => if j = i then v else x j) w' := by
          have : (fun j => (listed.setIfInBounds i true).getD j false) = (fun j => if j = i then true else listed.getD j false) := by
            funext j; exact getD_set listed i j (by omega)
          rw [this]; exact hJ'
        refine ih _ _ w' (by simpa using hs) ?_ hJ2
        have hlt : (List.range ops.size).countP (fun j => !(listed.setIfInBounds i true).getD j false) < (List.range ops.size).countP (fun j => !listed.getD j false) := by
          have hsub : ∀ (l : List Nat), (∀ j ∈ l, j < ops.size) → l.Nodup → i ∈ l → l.countP (fun j => !(listed.setIfInBounds i true).getD j false) < l.countP (fun j => !listed.getD j false) := by
            intro l
            induction l with
            | nil => intro _ _ h; cases h
            | cons y l ihl =>
              intro hlt' hnd hmem
              have hy : y < ops.size := hlt' y (by simp)
              have heq : ∀ j, j < ops.size → (listed.setIfInBounds i true).getD j false = if j = i then true else listed.getD j false := fun j _ => getD_set listed i j (by omega)
              by_cases hyi : y = i
              · subst hyi
                have hsame : l.countP (fun j => !(listed.setIfInBounds y true).getD j false) = l.countP (fun j => !listed.getD j false) := by
                  apply List.countP_congr
                  intro j hj
                  have hne : j ≠ y := fun e => by subst e; exact (List.nodup_cons.1 hnd).1 hj
                  rw [heq j (hlt' j (by simp [hj])), if_neg hne]
                rw [List.countP_cons, List.countP_cons, hsame, heq y hy, if_pos rfl]
                have : listed.getD y false = false := by simp [Array.getD, hs, hy, hli']
                simp [this]
              · have hm' : i ∈ l := by
                  rcases List.mem_cons.1 hmem with h | h
                  · exact absurd h.symm hyi
                  · exact h
                have := ihl (fun j hj => hlt' j (by simp [hj])) (List.nodup_cons.1 hnd).2 hm'
                rw [List.countP_cons, List.countP_cons, heq y hy, if_neg hyi]
                omega
          exact hsub _ (fun j hj => by simpa using hj) List.nodup_range (by simpa using hio)
        omega
      unfold wpOp
      simp only [Array.getElem?_eq_getElem hio]
      split
      · rename_i hw
        rw [if_pos hw] at hop
        exact .inl (Oper.wp_mono (fun a' w' ⟨v, e, hv⟩ => by rw [e]; exact next v w' hv) hop)
      · rename_i hw
        rw [if_neg hw] at hop
        exact next undef w hop
  refine wp_region_any hm ?_
  have h0 := putsF_held (ops.toList.map (·.dst)) 0 base (held base (ops.toList.map (·.dst))) (fun i => by simp) hn
  rw [← h0]
  refine main ops.size _ _ _ (by simp) ?_ ?_
  · refine Nat.le_trans (List.countP_le_length ..) (by simp)
  · have : (fun i => (Array.replicate ops.size false).getD i false) = fun _ => false := by
      funext i
      simp only [Array.getD, Array.size_replicate]
      split
      · simp
      · rfl
    rw [this]; exact start _
end
end Go.Proofs.YtkdknfedieeenaaDoor
namespace Go.Proofs.YtkdknfedieeenaaDoor
open Go.RowKit
set_option linter.unusedVariables false
/-- Each operation that is neither K nor late is a source of one further on that is not late, or of K. -/
def ancOk (ops : Array Oper) (K : Nat) (late : List Nat) : Bool :=
  (List.range ops.size).all fun i => i == K || late.contains i || (List.range (K + 1)).any fun j => decide (i < j) && !late.contains j && (match ops[j]? with | some o => o.after.toList.any fun e => e.on == i && Region.binds .any e | none => false)
def AllWordsIf (c : Nat → Bool) (Ws : List (Value → World → Prop)) (x : Nat → Value) (w : World) : Nat → List (Value → World → Prop) → Prop
  | _, [] => True
  | i, p :: ps => (c i = true → p (x i) w) ∧ AllWordsIf c Ws x w (i + 1) ps
theorem allWordsIf_of {c : Nat → Bool} {Ws : List (Value → World → Prop)} {x : Nat → Value} {w : World} : ∀ (ps : List (Value → World → Prop)) (k : Nat), (∀ j, j < ps.length → ps[j]? = Ws[k + j]?) → (∀ i, i < Ws.length → c i = true → wordOf Ws i (x i) w) → AllWordsIf c Ws x w k ps
  | [], _, _, _ => trivial
  | p :: ps, k, h, hw => by
    refine ⟨fun hc => ?_, allWordsIf_of ps (k + 1) (fun j hj => ?_) hw⟩
    · have h0 := h 0 (by simp)
      simp at h0
      have hk : k < Ws.length := by
        rcases Nat.lt_or_ge k Ws.length with h1 | h1
        · exact h1
        · rw [List.getElem?_eq_none h1] at h0; cases h0
      have := hw k hk hc
      unfold wordOf at this
      rw [← h0] at this
      exact this
    · have := h (j + 1) (by simpa using hj)
      rw [show k + 1 + j = k + (j + 1) by omega, ← this]
      simp
section
variable {P : Program} {ops : Array Oper} {Q : Exit → Act → World → Prop}
/-- As OpStepsG, but those that are skipped. -/
def OpStepsB (P : Program) (ops : Array Oper) (Q : Exit → Act → World → Prop) (Ws : List (Value → World → Prop)) (R : World → Prop) (Ext : World → World → Prop) (FF : (Nat → Value) → Act) (skip : Nat → Bool) : Nat → List Oper → Prop
  | _, [] => True
  | i, o :: os => (skip i = false → OpStepG P ops Q Ws R Ext FF i o) ∧ OpStepsB P ops Q Ws R Ext FF skip (i + 1) os
theorem OpStepsB.get {Ws : List (Value → World → Prop)} {R : World → Prop} {Ext : World → World → Prop} {FF : (Nat → Value) → Act} {skip : Nat → Bool} : ∀ {l : List Oper} {k : Nat}, OpStepsB P ops Q Ws R Ext FF skip k l → ∀ i o, l[i]? = some o → skip (k + i) = false → OpStepG P ops Q Ws R Ext FF (k + i) o
  | [], _, _, i, o, h, _ => by simp at h
  | p :: l, k, hs, 0, o, h, hk => by simp at h; subst h; exact hs.1 hk
  | p :: l, k, hs, i + 1, o, h, hk => by
    have := OpStepsB.get hs.2 i o (by simpa using h) (by rwa [show k + 1 + i = k + (i + 1) by omega])
    rwa [show k + 1 + i = k + (i + 1) by omega] at this
theorem OpStepG.one {Ws : List (Value → World → Prop)} {R : World → Prop} {Ext : World → World → Prop} {base : Act} {FF : (Nat → Value) → Act} (hn : noTwice (ops.toList.map (·.dst)) = true) (hg : guardsIn ops base.tmps.size = true)
    (hFF : ∀ x, putsF x 0 (ops.toList.map (·.dst)) base = FF x) {i : Nat} {o : Oper} (ho : o ∈ ops.toList) (h : OpStepG P ops Q Ws R Ext FF i o) : OpStep P ops Q Ws R Ext base i o :=
  (OpStepsG.steps hn hg hFF [o] i (fun q hq => by simp at hq; subst hq; exact ho) ⟨h, trivial⟩).1
theorem wp_region_store {id : Nat} {base : Act} {w0 : World} (hm : P.follows .mixedOrders = true) {FF : (Nat → Value) → Act} (hFF : ∀ x, putsF x 0 (ops.toList.map (·.dst)) base = FF x) (R1 R2 : World → Prop) (Ext : World → World → Prop) (Ws : List (Value → World → Prop))
    (K : Nat) (late : List Nat) (hn : noTwice (ops.toList.map (·.dst)) = true) (hg : guardsIn ops base.tmps.size = true) (hwf : wellFormed ops = true) (hlen : Ws.length = ops.size) (hanc : ancOk ops K late = true) (hK : (ops[K]?).map (·.guard) = some none)
    (stays : AllStayX Ext Ws) (refl : ∀ w, Ext w w) (start : R1 w0.drew)
    (steps : OpStepsB P ops Q Ws R1 Ext FF (fun i => i == K) 0 ops.toList)
    (steps2 : OpStepsB P ops Q Ws R2 Ext FF (fun i => !late.contains i) 0 ops.toList)
    (store : ∀ (x : Nat → Value) (w : World), R1 w → AllWordsIf (fun i => !(i == K || late.contains i)) Ws x w 0 Ws → ∀ o, ops[K]? = some o → Oper.wp P o (FF x) w (Next (FF x) o.dst (wordOf Ws K) R2 Ext w) Q)
    (fin : ∀ (x : Nat → Value) (w : World), R2 w → AllWords Ws x w 0 Ws → Q .normal (FF x) w) :
    (Code.region id ops true).wp P Q base w0 := by
  have hanc' : ∀ i, i < ops.size → i = K ∨ i ∈ late ∨ ∃ j o, i < j ∧ j ≤ K ∧ j ∉ late ∧ ops[j]? = some o ∧ ∃ e ∈ o.after.toList, e.on = i ∧ Region.binds .any e = true := by
    intro i hi
    unfold ancOk at hanc
    rw [List.all_eq_true] at hanc
    have := hanc i (by simpa using hi)
    simp only [Bool.or_eq_true, beq_iff_eq, List.any_eq_true, List.mem_range, Bool.and_eq_true, decide_eq_true_eq, Bool.not_eq_true'] at this
    rcases this with (h | h) | ⟨j, hj, ⟨h1, h2⟩, h3⟩
    · exact .inl h
    · exact .inr (.inl (by simpa using h))
    · right; right
      cases ho : ops[j]? with
      | none => rw [ho] at h3; simp at h3
      | some o =>
        rw [ho] at h3
        simp only [List.any_eq_true, Bool.and_eq_true, beq_iff_eq] at h3
        exact ⟨j, o, h1, by omega, by simpa using h2, ho, h3⟩
  have hword : ∀ (i : Nat), i < ops.size → ∀ v w w', wordOf Ws i v w → Ext w w' → wordOf Ws i v w' := by
    intro i hi v w w' hw he
    unfold wordOf at hw ⊢
    cases hp : Ws[i]? with
    | none => trivial
    | some p =>
      rw [hp] at hw
      exact stays.mem p (List.mem_of_getElem? hp) _ _ _ hw he
  refine wp_region_joint hm (fun d x w => (∀ i, i < ops.size → d i = true → wordOf Ws i (x i) w) ∧ (∀ i o, ops[i]? = some o → d i = true → ∀ e ∈ o.after.toList, Region.binds .any e = true → d e.on = true) ∧ (d K = false → R1 w) ∧ (d K = true → R2 w)) hn hwf ?_ ?_ ?_
  · exact fun x => ⟨by simp, by simp, fun _ => start, by simp⟩
  · rintro i hi d x w ⟨hw, hc, h1, h2⟩ hd hdeps
    have hoi : ops[i]? = some ops[i] := Array.getElem?_eq_getElem hi
    have hmem : ops[i] ∈ ops.toList := by simp
    have hD : Deps (wordOf Ws) x w (ops[i]).after.toList := Deps.of (fun e he hb => by
      have hdon := hdeps e he hb
      have hlt : e.on < i := by
        unfold wellFormed at hwf
        rw [List.all_eq_true] at hwf
        have := hwf (ops[i], i) (by rw [List.mem_zipIdx_iff_getElem?]; simp [hi])
        simp only [Array.all_eq_true'] at this
        have := this e (by simpa using he)
        simpa [hb] using this
      exact hw _ (by omega) hdon)
    have hcl : ∀ j o, ops[j]? = some o → (if j = i then true else d j) = true → ∀ e ∈ o.after.toList, Region.binds .any e = true → (if e.on = i then true else d e.on) = true := by
      intro j o hjo hdj e he hb
      by_cases hei : e.on = i
      · simp [hei]
      · rw [if_neg hei]
        by_cases hji : j = i
        · subst hji
          rw [hoi] at hjo
          obtain rfl := Option.some.inj hjo
          exact hdeps e he hb
        · rw [if_neg hji] at hdj
          exact hc j o hjo hdj e he hb
    have put : ∀ v w', wordOf Ws i v w' → Ext w w' → ∀ j, j < ops.size → (if j = i then true else d j) = true → wordOf Ws j (if j = i then v else x j) w' := by
      intro v w' hv he j hj hdj
      by_cases hji : j = i
      · subst hji; simpa using hv
      · rw [if_neg hji] at hdj ⊢
        exact hword j hj _ _ _ (hw j hj hdj) he
    by_cases hiK : i = K
    · subst hiK
      have hall : ∀ k j, j + k = i → j ∉ late → d j = true ∨ j = i := by
        intro k
        induction k using Nat.strongRecOn with
        | _ k ih =>
          intro j hjk hjl
          by_cases hji : j = i
          · exact .inr hji
          · left
            rcases hanc' j (by omega) with h | h | ⟨q, o, q1, q2, q3, q4, e, e1, e2, e3⟩
            · exact absurd h hji
            · exact absurd h hjl
            · rcases ih (i - q) (by omega) q (by omega) q3 with h | h
              · rw [← e2]; exact hc q o q4 h e e1 e3
              · subst h
                rw [hoi] at q4
                obtain rfl := Option.some.inj q4
                rw [← e2]; exact hdeps e e1 e3
      have hst := store x w (h1 hd) (allWordsIf_of Ws 0 (fun j _ => by simp) (fun j hj hcj => by
        simp only [Bool.not_eq_true', Bool.or_eq_false_iff, beq_eq_false_iff_ne] at hcj
        obtain ⟨c1, c2⟩ := hcj
        have hjl : j ∉ late := by simpa using c2
        rcases hanc' j (by omega) with h | h | ⟨q, o, q1, q2, q3, q4, e, e1, e2, e3⟩
        · exact absurd h c1
        · exact absurd h hjl
        · rcases hall (i - j) j (by omega) hjl with h | h
          · exact hw j (by omega) h
          · exact absurd h c1)) _ hoi
      have hgn : (ops[i]).guard = none := by rw [hoi] at hK; simpa using hK
      have hwt : Region.wanted ops[i] (yielded ops (putsF x 0 (ops.toList.map (·.dst)) base).tmps) = true := by unfold Region.wanted; rw [hgn]
      rw [if_pos hwt]
      rw [hFF x]
      refine Oper.wp_mono ?_ hst
      rintro a' w' ⟨v, rfl, hv, hR, he⟩
      exact ⟨v, rfl, put v w' hv he, hcl, by simp, fun _ => hR⟩
    · rcases (Bool.eq_false_or_eq_true (d K)).symm with hdK | hdK
      ·
        have hs := OpStepG.one hn hg hFF hmem (OpStepsB.get steps i ops[i] (by simp [hi]) (by simp [hiK]))
        rw [Nat.zero_add] at hs
        have := hs x w (h1 hdK) hD
        split
        · rename_i hwt
          rw [if_pos hwt] at this
          refine Oper.wp_mono ?_ this
          rintro a' w' ⟨v, rfl, hv, hR, he⟩
          refine ⟨v, rfl, put v w' hv he, hcl, fun _ => hR, fun h => ?_⟩
          have hKi : ¬ K = i := fun e => hiK e.symm
          simp [hKi, hdK] at h
        · rename_i hwt
          rw [if_neg hwt] at this
          refine ⟨put undef w this (refl w), hcl, fun _ => h1 hdK, fun h => ?_⟩
          have hKi : ¬ K = i := fun e => hiK e.symm
          simp [hKi, hdK] at h
      ·
        have hKi : ¬ K = i := fun e => hiK e.symm
        have hil : i ∈ late := by
          rcases Nat.lt_or_ge K ops.size with hKs | hKs
          · have hall : ∀ k j, j + k = K → j ∉ late → d j = true := by
              intro k
              induction k using Nat.strongRecOn with
              | _ k ih =>
                intro j hjk hjl
                by_cases hji : j = K
                · subst hji; exact hdK
                · rcases hanc' j (by omega) with h | h | ⟨q, o, q1, q2, q3, q4, e, e1, e2, e3⟩
                  · exact absurd h hji
                  · exact absurd h hjl
                  · have h := ih (K - q) (by omega) q (by omega) q3
                    rw [← e2]; exact hc q o q4 h e e1 e3
            by_cases hil : i ∈ late
            · exact hil
            · exfalso
              rcases hanc' i hi with h | h | ⟨q, o, q1, q2, q3, q4, e, e1, e2, e3⟩
              · exact hiK h
              · exact hil h
              · have := hall (K - i) i (by omega) hil
                rw [hd] at this; cases this
          · rw [Array.getElem?_eq_none hKs] at hK; cases hK
        have hs := OpStepG.one hn hg hFF hmem (OpStepsB.get steps2 i ops[i] (by simp [hi]) (by simp [hil]))
        rw [Nat.zero_add] at hs
        have := hs x w (h2 hdK) hD
        split
        · rename_i hwt
          rw [if_pos hwt] at this
          refine Oper.wp_mono ?_ this
          rintro a' w' ⟨v, rfl, hv, hR, he⟩
          refine ⟨v, rfl, put v w' hv he, hcl, fun h => ?_, fun _ => hR⟩
          simp [hKi, hdK] at h
        · rename_i hwt
          rw [if_neg hwt] at this
          refine ⟨put undef w this (refl w), hcl, fun h => ?_, fun _ => h2 hdK⟩
          simp [hKi, hdK] at h
  · rintro d x w hall ⟨hw, hc, h1, h2⟩
    have hKs : K < ops.size := by
      rcases Nat.lt_or_ge K ops.size with h | h
      · exact h
      · rw [Array.getElem?_eq_none h] at hK; cases hK
    rw [hFF x]
    exact fin x w (h2 (hall K hKs)) (allWords_of Ws 0 (fun j _ => by simp) (fun j hj => hw j (by omega) (hall j (by omega))))
end
theorem GoesBut.then_set {g : Nat} {w w' : World} (h : GoesBut g w w') (j : Nat) (u : Value) : GoesBut g w (w'.setCell ⟨g, j, none⟩ u) := ⟨by simpa using h.1, fun k hk hne => (Below.heap_setCell w' _ u k hne).trans (h.2 k hk hne)⟩
theorem GoesBut.trans {g : Nat} {w w' w2 : World} (h : GoesBut g w w') (h' : GoesBut g w' w2) : GoesBut g w w2 := ⟨Nat.le_trans h.1 h'.1, fun k hk hne => (h'.2 k (Nat.lt_of_lt_of_le hk h.1) hne).trans (h.2 k hk hne)⟩
/-- From skip to step, written out. -/
theorem skipped {p : Prop} {b : Bool} (hb : b = true) : b = false → p := fun h => by rw [hb] at h; cases h
end Go.Proofs.YtkdknfedieeenaaDoor
namespace Go.Proofs.YtkdknfedieeenaaDoor
open Go.RowKit
set_option linter.unusedVariables false
set_option linter.unusedSimpArgs false
set_option maxRecDepth 20000
attribute [local simp] putsF isV wordOf Deps Region.binds Region.wanted Act.put wantedX isB
def intsB (l : List UInt8) : List Int := l.map fun b => (b.toNat : Int)
theorem intsB_bv (l : List UInt8) : (intsB l).map (Value.int .u8) = l.map bv := by unfold intsB; rw [List.map_map]; rfl
theorem intsB_ok (l : List UInt8) : ∀ z ∈ intsB l, 0 ≤ z ∧ z < 256 := by
  intro z hz
  obtain ⟨b, _, rfl⟩ := List.mem_map.1 hz
  have := b.toNat_lt
  omega
def nmB (l : List UInt8) : ByteArray := ⟨(nameZ (intsB l)).toArray⟩
/-- A text's first 30 bytes. -/
def txtB (s : ByteArray) : ByteArray := s.extract 0 (min s.size 30)
def recOf (a : ActT) : RecT := (nmB a.1.2.2.2, ((dataOf (a.2.1.toNat % 8) (nmB a.2.2.2.1.2.2.2) (txtB a.2.2.2.2)).1 : Int), a.2.2.1, (dataOf (a.2.1.toNat % 8) (nmB a.2.2.2.1.2.2.2) (txtB a.2.2.2.2)).2)
def actCells (a : ActT) : List Value := [rowV a.1, .int .u8 a.2.1, .int .u32 a.2.2.1, rowV a.2.2.2.1, .string a.2.2.2.2]
def actA (a : ActT) : Value := .agg #[rowV a.1, .int .u8 a.2.1, .int .u32 a.2.2.1, rowV a.2.2.2.1, .string a.2.2.2.2]
structure ActOk (w : World) (a : ActT) : Prop where
  r1 : Sl w w.heap.size 1 a.1.1 a.1.2.1 (a.1.2.2.2.map bv)
  n1 : a.1.2.1 ≤ maxLen
  k : 0 ≤ a.2.1 ∧ a.2.1 < 256
  t : 0 ≤ a.2.2.1 ∧ a.2.2.1 < 4294967296
  r2 : Sl w w.heap.size 1 a.2.2.2.1.1 a.2.2.2.1.2.1 (a.2.2.2.1.2.2.2.map bv)
  n2 : a.2.2.2.1.2.1 ≤ maxLen
  s : a.2.2.2.2.size ≤ maxLen
theorem ActOk.below {w w' : World} {a : ActT} (h : ActOk w a) (hb : Below w.heap.size w w') : ActOk w' a :=
  ⟨(h.r1.below hb).more hb.size, h.n1, h.k, h.t, (h.r2.below hb).more hb.size, h.n2, h.s⟩
end Go.Proofs.YtkdknfedieeenaaDoor
namespace Go.Proofs.YtkdknfedieeenaaDoor
open Go.RowKit
set_option linter.unusedVariables false
set_option linter.unusedSimpArgs false
set_option maxRecDepth 20000
/-- The records' cells, one behind the other. -/
def flatR (rs : List RecT) : List Value := rs.flatMap recCells
theorem flatR_len (rs : List RecT) : (flatR rs).length = rs.length * 4 := by
  unfold flatR
  induction rs with
  | nil => rfl
  | cons r rs ih => rw [List.flatMap_cons, List.length_append, ih, List.length_cons, show (recCells r).length = 4 from rfl]; omega
theorem flatR_snoc (rs : List RecT) (r : RecT) : flatR (rs ++ [r]) = flatR rs ++ recCells r := by unfold flatR; simp
theorem flatR_one : ∀ (rs : List RecT), ∀ u ∈ flatR rs, u.oneCell' = true := by
  intro rs u hu
  obtain ⟨r, -, hr⟩ := List.mem_flatMap.1 hu
  unfold recCells at hr
  simp at hr
  rcases hr with rfl | rfl | rfl | rfl <;> rfl
theorem flatR_get : ∀ (rs : List RecT) (i : Nat) (r : RecT), rs[i]? = some r → (flatR rs)[i * 4]? = some (.string r.1) ∧ (flatR rs)[i * 4 + 1]? = some (.int .u16 r.2.1) ∧ (flatR rs)[i * 4 + 2]? = some (.int .u32 r.2.2.1) ∧ (flatR rs)[i * 4 + 3]? = some (.string r.2.2.2)
  | [], i, r, h => by simp at h
  | q :: rs, 0, r, h => by simp at h; subst h; exact ⟨rfl, rfl, rfl, rfl⟩
  | q :: rs, i + 1, r, h => by
    have := flatR_get rs i r (by simpa using h)
    have e : flatR (q :: rs) = recCells q ++ flatR rs := rfl
    have l : (recCells q).length = 4 := rfl
    rw [e]
    refine ⟨?_, ?_, ?_, ?_⟩ <;> rw [List.getElem?_append_right (by rw [l]; omega), l]
    · rw [show (i + 1) * 4 - 4 = i * 4 by omega]; exact this.1
    · rw [show (i + 1) * 4 + 1 - 4 = i * 4 + 1 by omega]; exact this.2.1
    · rw [show (i + 1) * 4 + 2 - 4 = i * 4 + 2 by omega]; exact this.2.2.1
    · rw [show (i + 1) * 4 + 3 - 4 = i * 4 + 3 by omega]; exact this.2.2.2
/-- Cells that lie as records are records. -/
theorem Sl.recs {w : World} {C n : Nat} {A : Option Addr} {rs : List RecT} (h : Sl w C 4 A n (flatR rs)) (hC : C ≤ w.heap.size) (hn : rs.length = n) : Recs w A rs := by
  intro i r hr
  have hi := (List.getElem?_eq_some_iff.1 hr).1
  obtain ⟨b, off, rfl, hb, hc⟩ := h.2 (by omega)
  obtain ⟨g0, g1, g2, g3⟩ := flatR_get rs i r hr
  exact ⟨b, off, rfl, by omega, hc _ _ g0, by have := hc _ _ g1; rwa [← Nat.add_assoc] at this, by have := hc _ _ g2; rwa [← Nat.add_assoc] at this, by have := hc _ _ g3; rwa [← Nat.add_assoc] at this⟩
theorem OBM.recs {B n c : Nat} {W w : World} {A : Option Addr} {rs : List RecT} (h : OBM 4 B W (.slice A n c) n (flatR rs) w) (hn : rs.length = n) : Recs w A rs := h.sl.recs (Nat.le_refl _) hn
/-- Records by numbers, five cells each. -/
structure ActsAt (w : World) (A : Option Addr) (n : Nat) (ds : List ActT) : Prop where
  len : ds.length = n
  ok : ∀ a ∈ ds, ActOk w a
  cells : ∀ i a, ds[i]? = some a → ∃ b off, A = some ⟨b, off, none⟩ ∧ b < w.heap.size ∧ w.cell? ⟨b, off + i * 5, none⟩ = some (rowV a.1) ∧ w.cell? ⟨b, off + i * 5 + 1, none⟩ = some (.int .u8 a.2.1) ∧ w.cell? ⟨b, off + i * 5 + 2, none⟩ = some (.int .u32 a.2.2.1) ∧
    w.cell? ⟨b, off + i * 5 + 3, none⟩ = some (rowV a.2.2.2.1) ∧ w.cell? ⟨b, off + i * 5 + 4, none⟩ = some (.string a.2.2.2.2)
theorem ActsAt.below {w w' : World} {A : Option Addr} {n : Nat} {ds : List ActT} (h : ActsAt w A n ds) (hb : Below w.heap.size w w') : ActsAt w' A n ds := by
  refine ⟨h.len, fun a ha => (h.ok a ha).below hb, fun i a hi => ?_⟩
  obtain ⟨b, off, rfl, hlt, g0, g1, g2, g3, g4⟩ := h.cells i a hi
  exact ⟨b, off, rfl, Nat.lt_of_lt_of_le hlt hb.size, (hb.cell (p := ⟨b, _, none⟩) hlt).trans g0, (hb.cell (p := ⟨b, _, none⟩) hlt).trans g1, (hb.cell (p := ⟨b, _, none⟩) hlt).trans g2, (hb.cell (p := ⟨b, _, none⟩) hlt).trans g3, (hb.cell (p := ⟨b, _, none⟩) hlt).trans g4⟩
theorem u8_wf {z : Int} (h : (Lit.int .u8 z).wf = true) : 0 ≤ z ∧ z < 256 := by
  have : IntKind.u8.min ≤ z ∧ z ≤ IntKind.u8.max := by simpa [Lit.wf] using h
  have a : IntKind.u8.min = 0 := rfl
  have b : IntKind.u8.max = 255 := rfl
  omega
theorem u32_wf {z : Int} (h : (Lit.int .u32 z).wf = true) : 0 ≤ z ∧ z < 4294967296 := by
  have : IntKind.u32.min ≤ z ∧ z ≤ IntKind.u32.max := by simpa [Lit.wf] using h
  have a : IntKind.u32.min = 0 := rfl
  have b : IntKind.u32.max = 4294967295 := rfl
  omega
theorem Acts5.at_ {w : World} {A : Option Addr} {n c : Nat} {ds : List ActT} (h : Acts5 w A n c ds) : ActsAt w A n ds := by
  refine ⟨h.len, fun a ha => ?_, fun i a hi => ?_⟩
  · obtain ⟨h1, h2, h3, h4, h5⟩ := h.ok a ha
    exact ⟨h1.1.sl, Nat.le_trans h1.1.le h1.1.max, u8_wf h2, u32_wf h3, h4.1.sl, Nat.le_trans h4.1.le h4.1.max, h5⟩
  · have hlt := (List.getElem?_eq_some_iff.1 hi).1
    obtain ⟨b, off, he, hb, hc⟩ := h.cells (by have := h.len; omega)
    exact ⟨b, off, he, hb, hc i a hi⟩
theorem Acts5.most {w : World} {A : Option Addr} {n c : Nat} {ds : List ActT} (h : Acts5 w A n c ds) : n ≤ maxLen := Nat.le_trans h.le h.max
/-- The records of numbers, up to so many. -/
def recsOf (ds : List ActT) (most : Nat) : List RecT := (ds.take most).map recOf
theorem recsOf_len (ds : List ActT) (most : Nat) : (recsOf ds most).length = min most ds.length := by unfold recsOf; simp
theorem recsOf_next {ds : List ActT} {most k : Nat} {a : ActT} (hk : k < most) (ha : ds[k]? = some a) : recsOf (ds.take (k + 1)) most = recsOf (ds.take k) most ++ [recOf a] := by
  unfold recsOf
  rw [List.take_take, List.take_take, Nat.min_eq_right (by omega), Nat.min_eq_right (by omega), List.take_add_one, ha]
  simp
theorem recsOf_more {ds : List ActT} {most k : Nat} (hk : ¬ k < most) : recsOf (ds.take (k + 1)) most = recsOf (ds.take k) most := by
  unfold recsOf
  rw [List.take_take, List.take_take, Nat.min_eq_left (by omega), Nat.min_eq_left (by omega)]
end Go.Proofs.YtkdknfedieeenaaDoor
namespace Go.Proofs.YtkdknfedieeenaaDoor
open Go.RowKit
set_option linter.unusedVariables false
set_option maxRecDepth 20000
end Go.Proofs.YtkdknfedieeenaaDoor
namespace Go.Proofs.YtkdknfedieeenaaDoor
open Go.RowKit
set_option linter.unusedVariables false
/-- What is said of a slot, by what is done. -/
abbrev WordX := (Nat → Bool) → Value → World → Prop
def wordX (Ws : List WordX) (d : Nat → Bool) (i : Nat) (v : Value) (w : World) : Prop := match Ws[i]? with | some p => p d v w | none => True
def setD (d : Nat → Bool) (i : Nat) : Nat → Bool := fun j => if j = i then true else d j
def leD (d d' : Nat → Bool) : Prop := ∀ j, d j = true → d' j = true
theorem setD_le (d : Nat → Bool) (i : Nat) : leD d (setD d i) := fun j h => by unfold setD; split <;> simp_all
theorem setD_self (d : Nat → Bool) (i : Nat) : setD d i i = true := by simp [setD]
theorem setD_ne (d : Nat → Bool) {i j : Nat} (h : j ≠ i) : setD d i j = d j := by simp [setD, h]
def StaysX (p : WordX) : Prop := ∀ d d' v w w', leD d d' → Goes w w' → p d v w → p d' v w'
def AllStaysX : List WordX → Prop
  | [] => True
  | p :: ps => StaysX p ∧ AllStaysX ps
theorem AllStaysX.mem : ∀ {l : List WordX}, AllStaysX l → ∀ p ∈ l, StaysX p
  | [], _, p, hp => by cases hp
  | q :: l, h, p, hp => by
    rcases List.mem_cons.1 hp with rfl | hp
    · exact h.1
    · exact AllStaysX.mem h.2 p hp
/-- What is said of all slots that are done. -/
def DoneX (d : Nat → Bool) (x : Nat → Value) (w : World) : Nat → List WordX → Prop
  | _, [] => True
  | i, p :: ps => (d i = true → p d (x i) w) ∧ DoneX d x w (i + 1) ps
/-- What was said holds still, behind operation K. -/
def KeepX (d : Nat → Bool) (K : Nat) (x : Nat → Value) (w w' : World) : Nat → List WordX → Prop
  | _, [] => True
  | i, p :: ps => (i ≠ K → d i = true → p d (x i) w → p (setD d K) (x i) w') ∧ KeepX d K x w w' (i + 1) ps
def AllX (x : Nat → Value) (w : World) : Nat → List WordX → Prop
  | _, [] => True
  | i, p :: ps => p (fun _ => true) (x i) w ∧ AllX x w (i + 1) ps
theorem doneX_of {Ws : List WordX} {d : Nat → Bool} {x : Nat → Value} {w : World} : ∀ (ps : List WordX) (k : Nat), (∀ j, j < ps.length → ps[j]? = Ws[k + j]?) → (∀ i, i < Ws.length → d i = true → wordX Ws d i (x i) w) → DoneX d x w k ps
  | [], _, _, _ => trivial
  | p :: ps, k, h, hw => by
    refine ⟨fun hd => ?_, doneX_of ps (k + 1) (fun j hj => ?_) hw⟩
    · have h0 := h 0 (by simp)
      simp at h0
      have hk : k < Ws.length := by
        rcases Nat.lt_or_ge k Ws.length with h1 | h1
        · exact h1
        · rw [List.getElem?_eq_none h1] at h0; cases h0
      have := hw k hk hd
      unfold wordX at this
      rw [← h0] at this
      exact this
    · have := h (j + 1) (by simpa using hj)
      rw [show k + 1 + j = k + (j + 1) by omega, ← this]
      simp
theorem allX_of {Ws : List WordX} {d : Nat → Bool} {x : Nat → Value} {w : World} (stays : AllStaysX Ws) : ∀ (ps : List WordX) (k : Nat), (∀ j, j < ps.length → ps[j]? = Ws[k + j]?) → (∀ i, i < Ws.length → wordX Ws d i (x i) w) → AllX x w k ps
  | [], _, _, _ => trivial
  | p :: ps, k, h, hw => by
    refine ⟨?_, allX_of stays ps (k + 1) (fun j hj => ?_) hw⟩
    · have h0 := h 0 (by simp)
      simp at h0
      have hk : k < Ws.length := by
        rcases Nat.lt_or_ge k Ws.length with h1 | h1
        · exact h1
        · rw [List.getElem?_eq_none h1] at h0; cases h0
      have := hw k hk
      unfold wordX at this
      rw [← h0] at this
      exact stays.mem p (List.mem_of_getElem? h0.symm) d _ _ w w (fun _ _ => rfl) (Below.refl _ _) this
    · have := h (j + 1) (by simpa using hj)
      rw [show k + 1 + j = k + (j + 1) by omega, ← this]
      simp
theorem KeepX.get {Ws : List WordX} {d : Nat → Bool} {K : Nat} {x : Nat → Value} {w w' : World} : ∀ {ps : List WordX} {k : Nat}, KeepX d K x w w' k ps → ∀ j p, ps[j]? = some p → k + j ≠ K → d (k + j) = true → p d (x (k + j)) w → p (setD d K) (x (k + j)) w'
  | [], _, _, j, p, hp => by simp at hp
  | q :: ps, k, h, 0, p, hp => by simp at hp; subst hp; exact h.1
  | q :: ps, k, h, j + 1, p, hp => by
    have := KeepX.get (Ws := Ws) h.2 j p (by simpa using hp)
    rwa [show k + 1 + j = k + (j + 1) by omega] at this
section
variable {P : Program} {ops : Array Oper} {Q : Exit → Act → World → Prop}
/-- What is there, of those done that an operation waits for. -/
def SrcX (ops : Array Oper) (d : Nat → Bool) (o : Oper) : Prop := ∀ e ∈ o.after.toList, Region.binds .any e = true → d e.on = true
/-- Whatever an operation that is done waited for is done. -/
def ClosedX (ops : Array Oper) (d : Nat → Bool) : Prop := ∀ j o, ops[j]? = some o → d j = true → SrcX ops d o
/-- Operation i is waited for by operation j, through others; within so many steps. -/
def reachX (ops : Array Oper) : Nat → Nat → Nat → Bool
  | 0, i, j => i == j
  | n + 1, i, j => i == j || (match ops[j]? with | some o => o.after.toList.any fun e => Region.binds .any e && reachX ops n i e.on | none => false)
theorem ClosedX.reach {ops : Array Oper} {d : Nat → Bool} (h : ClosedX ops d) : ∀ (n i j : Nat), reachX ops n i j = true → d j = true → d i = true
  | 0, i, j, hr, hj => by simp [reachX] at hr; subst hr; exact hj
  | n + 1, i, j, hr, hj => by
    unfold reachX at hr
    rw [Bool.or_eq_true] at hr
    rcases hr with hr | hr
    · simp at hr; subst hr; exact hj
    · cases ho : ops[j]? with
      | none => rw [ho] at hr; simp at hr
      | some o =>
        rw [ho] at hr
        simp only [List.any_eq_true, Bool.and_eq_true] at hr
        obtain ⟨e, he, hb, hr⟩ := hr
        exact ClosedX.reach h n i e.on hr (h j o ho hj e he hb)
theorem SrcX.reach {ops : Array Oper} {d : Nat → Bool} (h : ClosedX ops d) {K : Nat} {o : Oper} (hs : SrcX ops d o) (ho : ops[K]? = some o) (n i : Nat) (hi : i ≠ K) (hr : reachX ops (n + 1) i K = true) : d i = true := by
  unfold reachX at hr
  rw [Bool.or_eq_true] at hr
  rcases hr with hr | hr
  · simp at hr; exact absurd hr hi
  · rw [ho] at hr
    simp only [List.any_eq_true, Bool.and_eq_true] at hr
    obtain ⟨e, he, hb, hr⟩ := hr
    exact h.reach n i e.on hr (hs e he hb)
def NextX (A : Act) (dst : Option Tmp) (Ws : List WordX) (d : Nat → Bool) (i : Nat) (R : World → Prop) (w : World) (a' : Act) (w' : World) : Prop := ∃ v, a' = A.put dst v ∧ wordX Ws (setD d i) i v w' ∧ R w' ∧ Goes w w'
def NextK (A : Act) (dst : Option Tmp) (Ws : List WordX) (d : Nat → Bool) (i : Nat) (x : Nat → Value) (R : World → Prop) (w : World) (a' : Act) (w' : World) : Prop := ∃ v, a' = A.put dst v ∧ wordX Ws (setD d i) i v w' ∧ R w' ∧ KeepX d i x w w' 0 Ws
/-- An operation behind which all that was said holds still of itself. -/
def OpStepX (P : Program) (ops : Array Oper) (Q : Exit → Act → World → Prop) (Ws : List WordX) (R : World → Prop) (FF : (Nat → Value) → Act) (i : Nat) (o : Oper) : Prop :=
  ∀ (d : Nat → Bool) (x : Nat → Value) (w : World), R w → d i = false → SrcX ops d o → Deps (wordX Ws d) x w o.after.toList →
    (wantedX o x = true → Oper.wp P o (FF x) w (NextX (FF x) o.dst Ws d i R w) Q) ∧ (wantedX o x = false → wordX Ws (setD d i) i undef w)
/-- An operation of which all that was said must be shown again. -/
def OpSpecX (P : Program) (ops : Array Oper) (Q : Exit → Act → World → Prop) (Ws : List WordX) (R : World → Prop) (FF : (Nat → Value) → Act) (i : Nat) (o : Oper) : Prop :=
  ∀ (d : Nat → Bool) (x : Nat → Value) (w : World), R w → d i = false → ClosedX ops d → SrcX ops d o → DoneX d x w 0 Ws →
    (wantedX o x = true → Oper.wp P o (FF x) w (NextK (FF x) o.dst Ws d i x R w) Q) ∧ (wantedX o x = false → wordX Ws (setD d i) i undef w)
def OpStepsX (P : Program) (ops : Array Oper) (Q : Exit → Act → World → Prop) (Ws : List WordX) (R : World → Prop) (FF : (Nat → Value) → Act) (sp : List Nat) : Nat → List Oper → Prop
  | _, [] => True
  | i, o :: os => (sp.contains i = false → OpStepX P ops Q Ws R FF i o) ∧ OpStepsX P ops Q Ws R FF sp (i + 1) os
def OpSpecsX (P : Program) (ops : Array Oper) (Q : Exit → Act → World → Prop) (Ws : List WordX) (R : World → Prop) (FF : (Nat → Value) → Act) (sp : List Nat) : Nat → List Oper → Prop
  | _, [] => True
  | i, o :: os => (sp.contains i = true → OpSpecX P ops Q Ws R FF i o) ∧ OpSpecsX P ops Q Ws R FF sp (i + 1) os
theorem OpStepsX.get {Ws : List WordX} {R : World → Prop} {FF : (Nat → Value) → Act} {sp : List Nat} : ∀ {l : List Oper} {k : Nat}, OpStepsX P ops Q Ws R FF sp k l → ∀ i o, l[i]? = some o → sp.contains (k + i) = false → OpStepX P ops Q Ws R FF (k + i) o
  | [], _, _, i, o, h, _ => by simp at h
  | p :: l, k, hs, 0, o, h, hk => by simp at h; subst h; exact hs.1 hk
  | p :: l, k, hs, i + 1, o, h, hk => by
    have := OpStepsX.get hs.2 i o (by simpa using h) (by rwa [show k + 1 + i = k + (i + 1) by omega])
    rwa [show k + 1 + i = k + (i + 1) by omega] at this
theorem OpSpecsX.get {Ws : List WordX} {R : World → Prop} {FF : (Nat → Value) → Act} {sp : List Nat} : ∀ {l : List Oper} {k : Nat}, OpSpecsX P ops Q Ws R FF sp k l → ∀ i o, l[i]? = some o → sp.contains (k + i) = true → OpSpecX P ops Q Ws R FF (k + i) o
  | [], _, _, i, o, h, _ => by simp at h
  | p :: l, k, hs, 0, o, h, hk => by simp at h; subst h; exact hs.1 hk
  | p :: l, k, hs, i + 1, o, h, hk => by
    have := OpSpecsX.get hs.2 i o (by simpa using h) (by rwa [show k + 1 + i = k + (i + 1) by omega])
    rwa [show k + 1 + i = k + (i + 1) by omega] at this
theorem wp_region_exp {id : Nat} {base : Act} {w0 : World} (hm : P.follows .mixedOrders = true) {FF : (Nat → Value) → Act} (hFF : ∀ x, putsF x 0 (ops.toList.map (·.dst)) base = FF x) (R : World → Prop) (Ws : List WordX) (sp : List Nat)
    (hn : noTwice (ops.toList.map (·.dst)) = true) (hg : guardsIn ops base.tmps.size = true) (hwf : wellFormed ops = true) (hlen : Ws.length = ops.size)
    (stays : AllStaysX Ws) (start : R w0.drew)
    (steps : OpStepsX P ops Q Ws R FF sp 0 ops.toList) (specs : OpSpecsX P ops Q Ws R FF sp 0 ops.toList)
    (fin : ∀ (x : Nat → Value) (w : World), R w → AllX x w 0 Ws → Q .normal (FF x) w) :
    (Code.region id ops true).wp P Q base w0 := by
  have hword : ∀ (i : Nat) d d' v w w', wordX Ws d i v w → leD d d' → Goes w w' → wordX Ws d' i v w' := by
    intro i d d' v w w' hw hd he
    unfold wordX at hw ⊢
    cases hp : Ws[i]? with
    | none => trivial
    | some p =>
      rw [hp] at hw
      exact stays.mem p (List.mem_of_getElem? hp) _ _ _ _ _ hd he hw
  refine wp_region_joint hm (fun d x w => R w ∧ (∀ i, i < ops.size → d i = true → wordX Ws d i (x i) w) ∧ ClosedX ops d) hn hwf ?_ ?_ ?_
  · exact fun x => ⟨start, by simp, fun j o _ h => by cases h⟩
  · rintro i hi d x w ⟨hR, hw, hcl⟩ hd hdeps
    have hoi : ops[i]? = some ops[i] := Array.getElem?_eq_getElem hi
    have hmem : ops[i] ∈ ops.toList := by simp
    have hlt : ∀ e ∈ (ops[i]).after.toList, Region.binds .any e = true → e.on < ops.size := by
      intro e he hb
      unfold wellFormed at hwf
      rw [List.all_eq_true] at hwf
      have := hwf (ops[i], i) (by rw [List.mem_zipIdx_iff_getElem?]; simp [hi])
      simp only [Array.all_eq_true'] at this
      have := this e (by simpa using he)
      have : e.on < i := by simpa [hb] using this
      omega
    have hwant : Region.wanted ops[i] (yielded ops (putsF x 0 (ops.toList.map (·.dst)) base).tmps) = wantedX ops[i] x := wanted_eq hn hg ops[i] hmem x
    have hset : (fun j => if j = i then true else d j) = setD d i := rfl
    have put : ∀ v w', wordX Ws (setD d i) i v w' → (∀ j, j < ops.size → j ≠ i → d j = true → wordX Ws (setD d i) j (x j) w') → ∀ j, j < ops.size → setD d i j = true → wordX Ws (setD d i) j (if j = i then v else x j) w' := by
      intro v w' hv ho j hj hdj
      by_cases hji : j = i
      · subst hji; simpa using hv
      · rw [setD_ne d hji] at hdj
        rw [if_neg hji]
        exact ho j hj hji hdj
    have hcl2 : ClosedX ops (setD d i) := by
      intro j o hj hdj e he hb
      by_cases hji : j = i
      · subst hji
        rw [hoi] at hj
        obtain rfl := Option.some.inj hj
        exact setD_le d _ _ (hdeps e he hb)
      · rw [setD_ne d hji] at hdj
        exact setD_le d _ _ (hcl j o hj hdj e he hb)
    rw [hwant, hFF x, hset]
    cases hsp : sp.contains i with
    | false =>
      have hs := OpStepsX.get steps i ops[i] (by simp [hi]) (by rw [Nat.zero_add]; exact hsp)
      rw [Nat.zero_add] at hs
      have hs := hs d x w hR hd hdeps (Deps.of (fun e he hb => hw _ (hlt e he hb) (hdeps e he hb)))
      split
      · rename_i hwt
        refine Oper.wp_mono ?_ (hs.1 hwt)
        rintro a' w' ⟨v, rfl, hv, hR', he⟩
        exact ⟨v, rfl, hR', put v w' hv (fun j hj hji hdj => hword j d _ _ w w' (hw j hj hdj) (setD_le d i) he), hcl2⟩
      · rename_i hwt
        exact ⟨hR, put undef w (hs.2 (by simpa using hwt)) (fun j hj hji hdj => hword j d _ _ w w (hw j hj hdj) (setD_le d i) (Below.refl _ _)), hcl2⟩
    | true =>
      have hs := OpSpecsX.get specs i ops[i] (by simp [hi]) (by rw [Nat.zero_add]; exact hsp)
      rw [Nat.zero_add] at hs
      have hs := hs d x w hR hd hcl hdeps (doneX_of Ws 0 (fun j _ => by simp) (fun j hj hdj => hw j (by omega) hdj))
      split
      · rename_i hwt
        refine Oper.wp_mono ?_ (hs.1 hwt)
        rintro a' w' ⟨v, rfl, hv, hR', he⟩
        refine ⟨v, rfl, hR', put v w' hv (fun j hj hji hdj => ?_), hcl2⟩
        have h0 := hw j hj hdj
        unfold wordX at h0 ⊢
        cases hp : Ws[j]? with
        | none => trivial
        | some p =>
          rw [hp] at h0
          have := he.get (Ws := Ws) j p hp
          rw [Nat.zero_add] at this
          exact this hji hdj h0
      · rename_i hwt
        exact ⟨hR, put undef w (hs.2 (by simpa using hwt)) (fun j hj hji hdj => hword j d _ _ w w (hw j hj hdj) (setD_le d i) (Below.refl _ _)), hcl2⟩
  · rintro d x w hall ⟨hR, hw, -⟩
    rw [hFF x]
    exact fin x w hR (allX_of (d := d) stays Ws 0 (fun j _ => by simp) (fun j hj => hw j (by omega) (hall j (by omega))))
end
/-- A word that never ends. -/
def always (p : Value → World → Prop) : WordX := fun _ v w => p v w
/-- A word that ends when operation k is done. -/
def until_ (k : Nat) (p : Value → World → Prop) : WordX := fun d v w => d k = false → p v w
theorem always_stays {p : Value → World → Prop} (h : ∀ v w w', p v w → Goes w w' → p v w') : StaysX (always p) := fun _ _ v w w' _ he hp => h v w w' hp he
theorem until_stays {k : Nat} {p : Value → World → Prop} (h : ∀ v w w', p v w → Goes w w' → p v w') : StaysX (until_ k p) := fun d d' v w w' hd he hp hk => h v w w' (hp (by
  cases e : d k with
  | false => rfl
  | true => have := hd k e; rw [hk] at this; cases this)) he
theorem unskipped {p : Prop} {b : Bool} (hb : b = false) : b = true → p := fun h => by rw [hb] at h; cases h
def isX (u : Value) : WordX := fun _ v _ => v = u
theorem isX_stays (u : Value) : StaysX (isX u) := fun _ _ v w w' _ _ h => h
theorem nextX {A a' : Act} {dst : Option Tmp} {Ws : List WordX} {d : Nat → Bool} {i : Nat} {R : World → Prop} {w w' : World} (v : Value) (ha : a' = A.put dst v) (hp : wordX Ws (setD d i) i v w') (hR : R w') (he : Goes w w') : NextX A dst Ws d i R w a' w' := ⟨v, ha, hp, hR, he⟩
theorem nextK {A a' : Act} {dst : Option Tmp} {Ws : List WordX} {d : Nat → Bool} {i : Nat} {x : Nat → Value} {R : World → Prop} {w w' : World} (v : Value) (ha : a' = A.put dst v) (hp : wordX Ws (setD d i) i v w') (hR : R w') (he : KeepX d i x w w' 0 Ws) : NextK A dst Ws d i x R w a' w' := ⟨v, ha, hp, hR, he⟩
end Go.Proofs.YtkdknfedieeenaaDoor
namespace Go.Proofs.YtkdknfedieeenaaDoor
open Go.RowKit
set_option linter.unusedVariables false
theorem oper_append_obm {P : Program} {o : Oper} {a : Act} {Q : Exit → Act → World → Prop} {K : Act → World → Prop} {w : World} (s x : Operand) (t tx : TypeId)
    (ho : o.op = .call { callee := .builtin .append, args := #[s, x], argTypes := #[t, tx] }) {sz : Nat}
    (e : TypeId) (i : TypeInfo) (z : Value) (bytes : Nat) (ht : P.underlying t = some (.slice e)) (hi : P.info? e = some i) (hz : i.zero = some z) (hsize : i.size = sz) (hby : i.bytes = bytes) (hzs : z.cells.size = sz)
    {B : Nat} {v : Value} {n : Nat} {l : List Value} {W : World} (hb : OBM sz B W v n l w) (hs : a.eval s = v) {vx : Value} {m : Nat} {news : List Value} (hx : a.eval x = vx) (hsrc : Src P sz tx vx m news w) (hnl : news.length = m * sz)
    (hlen : n + m ≤ maxLen) (hbytes : (n + m) * bytes ≤ 140737488355328)
    (h : ∀ v' w', OBM sz B W v' (n + m) (l ++ news) w' → w.heap.size ≤ w'.heap.size → (∀ k, k < w.heap.size → some k ≠ v.ownBlock → w'.heap[k]? = w.heap[k]?) → (v'.ownBlock = v.ownBlock ∨ v'.ownBlock = some w.heap.size) → K (a.put o.dst v') w') :
    Oper.wp P o a w K Q := by
  obtain ⟨v', w', hr, h1, h2, h3, h4⟩ := run_append_obm (P := P) t tx o.type e i z bytes ht hi hz hsize hby hzs hb vx m news hsrc hnl hlen hbytes
  unfold Oper.wp execOp
  simp only [ho, resolve, invoke, builtin, Sem.run_bind, Sem.run_pure, Result.andThen_ok, List.map_toArray, List.map_cons, List.map_nil, hs, hx, hr]
  exact h v' w' h1 h2 h3 h4
/-- A slice that reads as cells is what append can take. -/
theorem Sl.srcM {P : Program} {w : World} {C sz m c : Nat} {A : Option Addr} {news : List Value} {tx e' : TypeId} (hk : P.underlying tx = some (.slice e')) (hA : Sl w C sz A m news) (hA0 : A = none → m = 0) (h1 : ∀ u ∈ news, u.oneCell' = true) : Src P sz tx (.slice A m c) m news w := by
  cases A with
  | none =>
    have h0 := hA0 rfl
    subst h0
    have : news = [] := List.eq_nil_of_length_eq_zero (by rw [hA.1]; simp)
    subst this
    exact Src.ofNil w hk c
  | some ad => exact Src.ofSlice _ hk ad m c news hA.1 (fun j u hu => hA.cells_at ad rfl j u hu) h1
/-! ### append, and the elder slice -/
/-- 'append', whatever is appended, at elements of several cells. -/
theorem run_append_obk {P : Program} {sz B : Nat} {W w : World} {v : Value} {n : Nat} {l : List Value} (t tx ty e : TypeId) (i : TypeInfo) (z : Value) (bytes : Nat) (ht : P.underlying t = some (.slice e)) (hi : P.info? e = some i) (hz : i.zero = some z)
    (hsize : i.size = sz) (hby : i.bytes = bytes) (hzs : z.cells.size = sz) (h : OBM sz B W v n l w) (x : Value) (m : Nat) (news : List Value) (hs : Src P sz tx x m news w) (hnl : news.length = m * sz) (h63 : n + m ≤ maxLen) (hbytes : (n + m) * bytes ≤ 140737488355328) :
    ∃ v' w', (Builtin.append_ #[t, tx] ty #[v, x]).run P w = .ok v' w' ∧ OBM sz B W v' (n + m) (l ++ news) w' ∧ w.heap.size ≤ w'.heap.size ∧ (∀ k, k < w.heap.size → some k ≠ v.ownBlock → w'.heap[k]? = w.heap[k]?) ∧
      (v'.ownBlock = v.ownBlock ∨ v'.ownBlock = some w.heap.size) ∧ OBM sz B W v n l w' := by
  have hll : (l ++ news).length = (n + m) * sz := by rw [List.length_append, h.len, hnl, Nat.add_mul]
  have h63' : ((n + m : Nat) : Int) ≤ 9223372036854775807 := by unfold maxLen at h63; omega
  have grow : ∀ (base : Option Addr) (c : Nat), v = .slice base n c → c < n + m → (Builtin.firstCells i.size n (.slice base n c)).run P w.drew = .ok l.toArray w.drew →
      ∃ v' w', (Builtin.append_ #[t, tx] ty #[v, x]).run P w = .ok v' w' ∧ OBM sz B W v' (n + m) (l ++ news) w' ∧ w.heap.size ≤ w'.heap.size ∧ (∀ k, k < w.heap.size → some k ≠ v.ownBlock → w'.heap[k]? = w.heap[k]?) ∧
        (v'.ownBlock = v.ownBlock ∨ v'.ownBlock = some w.heap.size) ∧ OBM sz B W v n l w' := by
    intro base c hv hc hold
    have hfit : Builtin.nextslicecap (n + m) c * i.bytes ≤ 281474976710656 := growslice_fits hc (by rw [hby]; exact hbytes)
    have hr := run_append_grow_src (P := P) w t tx ty e i z ht hi hz base n c l hold x m news (by rw [hsize]; exact hs) hc h63' hfit
    have hge := grownCap_ge w (n + m) c e
    have hcm := grownCap_le_maxLen w (n + m) c e h63
    rw [← hv] at hr
    generalize grownCap w (n + m) c e = K at *
    have hsz : ((l ++ news).toArray ++ Builtin.zeroCells z.cells (K - (n + m))).size = K * sz := by
      rw [Array.size_append, List.size_toArray, hll, size_zeroCells, hzs]
      have e1 : K = (n + m) + (K - (n + m)) := by omega
      conv => rhs; rw [e1, Nat.add_mul]

    refine ⟨_, _, hr, ⟨(h.bel.drew).alloc h.base _, by have := h.base; simp; omega, hll, .inr ⟨w.heap.size, K, rfl, h.base, by simp, hge, hcm, fun j hj => ?_, fun j u hu => ?_⟩⟩, by simp, fun k hk _ => Below.heap_alloc w.drew _ k hk, .inr rfl, (h.drewN 1).alloc _⟩
    · have hg : (w.drew.alloc (.cells ((l ++ news).toArray ++ Builtin.zeroCells z.cells (K - (n + m))) e)).heap[w.heap.size]? = some (.cells ((l ++ news).toArray ++ Builtin.zeroCells z.cells (K - (n + m))) e (0, 0)) := heap_alloc_new w.drew _
      refine ⟨?_, frozen_of_row _ _ j _ e hg⟩
      rw [cell_of_row _ _ j _ e (0, 0) hg, Array.getElem?_eq_getElem (by rw [hsz]; exact hj)]; rfl
    · have hg : (w.drew.alloc (.cells ((l ++ news).toArray ++ Builtin.zeroCells z.cells (K - (n + m))) e)).heap[w.heap.size]? = some (.cells ((l ++ news).toArray ++ Builtin.zeroCells z.cells (K - (n + m))) e (0, 0)) := heap_alloc_new w.drew _
      have hj := (List.getElem?_eq_some_iff.1 hu).1
      rw [cell_of_row _ _ j _ e (0, 0) hg, Array.getElem?_append_left (by simpa using hj)]
      rw [List.getElem?_toArray]; exact hu
  rcases h.own with ⟨rfl, rfl⟩ | ⟨g, cap, rfl, h1, h2, h3, h4, h5, h6⟩
  · have hx : l = [] := List.eq_nil_of_length_eq_zero (by rw [h.len]; simp)
    subst hx
    by_cases hm : m = 0
    · subst hm
      have hn : news = [] := List.eq_nil_of_length_eq_zero (by rw [hnl]; simp)
      subst hn
      refine ⟨.slice none 0 0, w, ?_, ⟨h.bel, h.base, by simp, .inl ⟨rfl, rfl⟩⟩, Nat.le_refl _, fun _ _ _ => rfl, .inl rfl, h⟩
      have hc := hs.cells
      rw [show sz = i.size from hsize.symm] at hc
      rcases hs.kind with ⟨e', hk⟩ | hk <;> simp [Builtin.append_, run_underlying ht, run_underlying hk, sizeOf, typeInfo, hi, hs.len, hc]
    · exact grow none 0 rfl (by omega) (run_firstCells_none w.drew i.size 0 0 0)
  · by_cases hroom : n + m ≤ cap
    · have hroomsz : n * sz + news.length ≤ cap * sz := by rw [hnl, ← Nat.add_mul]; exact Nat.mul_le_mul_right sz hroom
      have hr := run_append_room_src (P := P) w t tx ty e i ht hi g 0 n cap x m news (by rw [hsize]; exact hs) hroom
        (fun j hj => by rw [hsize, Nat.zero_add]; exact (h5 _ (by omega)).1) (fun j hj => by rw [hsize, Nat.zero_add]; exact (h5 _ (by omega)).2)
      rw [hsize, Nat.zero_add] at hr
      obtain ⟨k1, k2⟩ := setCells_heap w g news (n * sz)
      have hin : ∀ j, j < news.length → (w.cell? ⟨g, n * sz + j, none⟩).isSome = true := fun j hj => (h5 _ (by omega)).1
      have hcell : ∀ j, j < cap * sz → (j < n * sz ∨ n * sz + news.length ≤ j → (w.setCells g (n * sz) news).cell? ⟨g, j, none⟩ = w.cell? ⟨g, j, none⟩) := fun j hj hout => World.cell?_setCells_out g news (n * sz) w ⟨g, j, none⟩ (fun _ _ => hout)
      have hkeep : OBM sz B W (.slice (some ⟨g, 0, none⟩) n cap) n l (w.setCells g (n * sz) news) := by
        refine ⟨below_setCells' h1 news (n * sz) h.bel, by rw [k1]; exact h.base, h.len, .inr ⟨g, cap, rfl, h1, by rw [k1]; exact h2, h3, h4, fun j hj => ⟨?_, by rw [World.frozen?_setCells]; exact (h5 j hj).2⟩, fun j u hu => ?_⟩⟩
        · by_cases hj1 : j < n * sz ∨ n * sz + news.length ≤ j
          · rw [hcell j hj hj1]; exact (h5 j hj).1
          · have := World.cell?_setCells_in g news (n * sz) w hin (j - n * sz) (by omega)
            rw [show n * sz + (j - n * sz) = j by omega] at this
            rw [this]; rfl
        · have hjl := (List.getElem?_eq_some_iff.1 hu).1
          rw [h.len] at hjl
          rw [hcell j (by omega) (.inl hjl)]
          exact h6 j u hu
      refine ⟨_, _, hr, ⟨below_setCells' h1 news (n * sz) h.bel, by rw [k1]; exact h.base, hll, .inr ⟨g, cap, rfl, h1, by rw [k1]; exact h2, hroom, h4, fun j hj => ?_, fun j u hu => ?_⟩⟩, by rw [k1]; exact Nat.le_refl _, fun k hk hne => k2 k (fun e => hne (by rw [e]; rfl)), .inl rfl, hkeep⟩
      · refine ⟨?_, by rw [World.frozen?_setCells]; exact (h5 j hj).2⟩
        by_cases hj1 : j < n * sz ∨ n * sz + news.length ≤ j
        · rw [hcell j hj hj1]; exact (h5 j hj).1
        · have := World.cell?_setCells_in g news (n * sz) w hin (j - n * sz) (by omega)
          rw [show n * sz + (j - n * sz) = j by omega] at this
          rw [this]; rfl
      · rw [List.getElem?_append] at hu
        split at hu
        · rename_i hjl
          rw [h.len] at hjl
          rw [hcell j (by omega) (.inl hjl)]
          exact h6 j u hu
        · rename_i hjl
          rw [h.len] at hu hjl
          obtain ⟨hj2, rfl⟩ := List.getElem?_eq_some_iff.1 hu
          have := World.cell?_setCells_in g news (n * sz) w hin (j - n * sz) hj2
          rwa [show n * sz + (j - n * sz) = j by omega] at this
    · refine grow _ cap rfl (by omega) (run_firstCells_some w.drew i.size n ⟨g, 0, none⟩ n cap l (by rw [hsize]; exact h.len) (fun j u hu => ?_))
      rw [Addr.add_lit, Nat.zero_add]
      exact h6 j u hu
theorem oper_append_obk {P : Program} {o : Oper} {a : Act} {Q : Exit → Act → World → Prop} {K : Act → World → Prop} {w : World} (s x : Operand) (t tx : TypeId)
    (ho : o.op = .call { callee := .builtin .append, args := #[s, x], argTypes := #[t, tx] }) {sz : Nat}
    (e : TypeId) (i : TypeInfo) (z : Value) (bytes : Nat) (ht : P.underlying t = some (.slice e)) (hi : P.info? e = some i) (hz : i.zero = some z) (hsize : i.size = sz) (hby : i.bytes = bytes) (hzs : z.cells.size = sz)
    {B : Nat} {v : Value} {n : Nat} {l : List Value} {W : World} (hb : OBM sz B W v n l w) (hs : a.eval s = v) {vx : Value} {m : Nat} {news : List Value} (hx : a.eval x = vx) (hsrc : Src P sz tx vx m news w) (hnl : news.length = m * sz)
    (hlen : n + m ≤ maxLen) (hbytes : (n + m) * bytes ≤ 140737488355328)
    (h : ∀ v' w', OBM sz B W v' (n + m) (l ++ news) w' → w.heap.size ≤ w'.heap.size → (∀ k, k < w.heap.size → some k ≠ v.ownBlock → w'.heap[k]? = w.heap[k]?) → (v'.ownBlock = v.ownBlock ∨ v'.ownBlock = some w.heap.size) → OBM sz B W v n l w' → K (a.put o.dst v') w') :
    Oper.wp P o a w K Q := by
  obtain ⟨v', w', hr, h1, h2, h3, h4, h5⟩ := run_append_obk (P := P) t tx o.type e i z bytes ht hi hz hsize hby hzs hb vx m news hsrc hnl hlen hbytes
  unfold Oper.wp execOp
  simp only [ho, resolve, invoke, builtin, Sem.run_bind, Sem.run_pure, Result.andThen_ok, List.map_toArray, List.map_cons, List.map_nil, hs, hx, hr]
  exact h v' w' h1 h2 h3 h4 h5
/-! ### Words -/
def ownW (sz B : Nat) (W : World) (n : Nat) (l : List Value) : Value → World → Prop := fun v w => OBM sz B W v n l w
theorem ownW_stays (sz B : Nat) (W : World) (n : Nat) (l : List Value) : ∀ v w w', ownW sz B W n l v w → Goes w w' → ownW sz B W n l v w' := fun _ _ _ h hb => OBM.keep h hb (Nat.le_refl _)
/-- A slice of one element over a block of these cells. -/
def litW (n : Nat) (vs : List Value) : Value → World → Prop := fun v w => ∃ g, v = .slice (some ⟨g, 0, none⟩) n n ∧ Cs w g vs
theorem litW_stays (n : Nat) (vs : List Value) : ∀ v w w', litW n vs v w → Goes w w' → litW n vs v w' := by
  rintro v w w' ⟨g, rfl, h⟩ hb
  exact ⟨g, rfl, h.below hb⟩
theorem litW_new (n : Nat) (w : World) (cs : Array Value) (t : TypeId) (vs : List Value) (hv : cs.toList = vs := by rfl) : litW n vs (.slice (some ⟨w.heap.size, 0, none⟩) n n) (w.alloc (.cells cs t)) := ⟨_, rfl, Cs.new w cs t vs hv⟩
/-- A place within a block of these cells. -/
def atW (j : Nat) (vs : List Value) : Value → World → Prop := fun v w => ∃ g, v = .pointer (some ⟨g, j, none⟩) ∧ Cs w g vs
theorem atW_stays (j : Nat) (vs : List Value) : ∀ v w w', atW j vs v w → Goes w w' → atW j vs v w' := by
  rintro v w w' ⟨g, rfl, h⟩ hb
  exact ⟨g, rfl, h.below hb⟩
/-- A box of these cells, which lies above B. -/
def boxW (B : Nat) (vs : List Value) : Value → World → Prop := fun v w => ∃ g, v = .pointer (some ⟨g, 0, none⟩) ∧ B ≤ g ∧ Cs w g vs
theorem boxW_stays (B : Nat) (vs : List Value) : ∀ v w w', boxW B vs v w → Goes w w' → boxW B vs v w' := by
  rintro v w w' ⟨g, rfl, hB, h⟩ hb
  exact ⟨g, rfl, hB, h.below hb⟩
theorem until_done {k K : Nat} {p : Value → World → Prop} {d : Nat → Bool} {v : Value} {w : World} (h : d k = true) : until_ k p (setD d K) v w := fun hk => by
  have := setD_le d K k h; rw [hk] at this; cases this
theorem until_self {K : Nat} {p : Value → World → Prop} {d : Nat → Bool} {v : Value} {w : World} : until_ K p (setD d K) v w := fun hk => by simp [setD] at hk
theorem until_of {k : Nat} {p : Value → World → Prop} {d : Nat → Bool} {v : Value} {w : World} (h : p v w) : until_ k p d v w := fun _ => h
end Go.Proofs.YtkdknfedieeenaaDoor
namespace Go.Proofs.YtkdknfedieeenaaDoor
open Go.RowKit
set_option linter.unusedVariables false
set_option linter.unusedSimpArgs false
set_option maxRecDepth 20000
end Go.Proofs.YtkdknfedieeenaaDoor
namespace Go.Proofs.YtkdknfedieeenaaDoor
open Go.RowKit
set_option linter.unusedVariables false
set_option linter.unusedSimpArgs false
set_option maxRecDepth 20000
def eqB (r r' : RecT) : Bool := r.1.toList == r'.1.toList && (r.2.1 == r'.2.1 && (r.2.2.1 == r'.2.2.1 && r.2.2.2.toList == r'.2.2.2.toList))
theorem eqB_iff (r r' : RecT) : eqB r r' = true ↔ r = r' := by
  constructor
  · intro h; exact rec_eq (by rw [show (r.1.toList == r'.1.toList && (r.2.1 == r'.2.1 && (r.2.2.1 == r'.2.2.1 && r.2.2.2.toList == r'.2.2.2.toList))) = true from h]; rfl)
  · rintro rfl; unfold eqB; simp
theorem eqB_false {r r' : RecT} (h : eqB r r' = false) : r ≠ r' := by
  intro e; rw [(eqB_iff r r').2 e] at h; cases h
theorem rec_eql (r r' : RecT) (w : World) : (binOp .eql 59 (recV r) (recV r')).run Tryd.prog w = .ok (.bool (eqB r r')) w := by
  obtain ⟨f0, f1, f2, f3, hf, ⟨t0, t1, t2, t3⟩, ⟨n0, n1, n2, n3⟩, ⟨o0, o1, o2, o3⟩, ⟨c0, c1, c2, c3⟩⟩ := rec_fields
  unfold recV eqB
  rw [run_eql_struct, run_equalIn_agg (P := Tryd.prog) w _ _ _ _ Tryd.underlying59 (by kernel_rfl), hf]
  simp [go_sem, Op.eqFields, isAgg, run_underlying t0, run_underlying t1, run_underlying t2, run_underlying t3, t0, t1, t2, t3, n0, n1, n2, n3, o0, o1, o2, o3]
  by_cases e0 : r.1.toList = r'.1.toList <;> by_cases e1 : r.2.1 = r'.2.1 <;> by_cases e2 : r.2.2.1 = r'.2.2.1 <;> by_cases e3 : r.2.2.2.toList = r'.2.2.2.toList <;> simp [e0, e1, e2, e3]
/-- The first place of a record among others; -1, if there is none. -/
def IdxR (rs : List RecT) (r : RecT) (i : Int) : Prop := (i = -1 ∧ r ∉ rs) ∨ ∃ k : Nat, i = k ∧ rs[k]? = some r ∧ r ∉ rs.take k
def zhasB (rs : List RecT) (r : RecT) : Bool := rs.any (eqB r)
theorem zhasB_iff (rs : List RecT) (r : RecT) : zhasB rs r = true ↔ r ∈ rs := by
  unfold zhasB
  rw [List.any_eq_true]
  constructor
  · rintro ⟨q, hq, he⟩; rw [(eqB_iff r q).1 he]; exact hq
  · intro h; exact ⟨r, h, (eqB_iff r r).2 rfl⟩
theorem zhasB_false {rs : List RecT} {r : RecT} : zhasB rs r = false ↔ r ∉ rs := by
  rw [← zhasB_iff]; simp
theorem IdxR.has {rs : List RecT} {r : RecT} {i : Int} (h : IdxR rs r i) : decide (0 ≤ i) = zhasB rs r := by
  rcases h with ⟨rfl, h⟩ | ⟨k, rfl, h, _⟩
  · rw [zhasB_false.2 h]; rfl
  · rw [(zhasB_iff _ _).2 (List.mem_of_getElem? h)]; simp
end Go.Proofs.YtkdknfedieeenaaDoor
namespace Go.Proofs.YtkdknfedieeenaaDoor
open Go.RowKit
set_option linter.unusedVariables false
set_option linter.unusedSimpArgs false
set_option maxRecDepth 20000
/-- A block of zeros that was just laid, of which nothing is used yet. -/
theorem OBM.zeros {sz : Nat} (w : World) (cs : Array Value) (t : TypeId) (K : Nat) (hcs : cs.size = K * sz) (hK : K ≤ maxLen) :
    OBM sz w.heap.size w (.slice (some ⟨w.heap.size, 0, none⟩) 0 K) 0 [] (w.drew.alloc (.cells cs t)) := by
  refine ⟨((Below.refl w.heap.size w).drew).alloc (Nat.le_refl _) _, by simp, by simp, .inr ⟨w.heap.size, K, rfl, Nat.le_refl _, by simp, Nat.zero_le _, hK, fun j hj => ?_, fun j u hu => by simp at hu⟩⟩
  have hg : (w.drew.alloc (.cells cs t)).heap[w.heap.size]? = some (.cells cs t (0, 0)) := heap_alloc_new w.drew _
  refine ⟨?_, frozen_of_row _ _ j _ t hg⟩
  rw [cell_of_row _ _ j _ t (0, 0) hg, Array.getElem?_eq_getElem (by rw [hcs]; exact hj)]; rfl
theorem rec_zero_cells : ((Value.agg #[.string ⟨#[]⟩, .int .u16 0, .int .u32 0, .string ⟨#[]⟩]).cells).size = 4 := rfl
/-- A row of records among others. -/
abbrev RowR := Option Addr × Nat × Nat × List RecT
def rowRV (r : RowR) : Value := .slice r.1 r.2.1 r.2.2.1
structure RowROk (w : World) (r : RowR) : Prop where
  sl : Sl w w.heap.size 4 r.1 r.2.1 (flatR r.2.2.2)
  none_ : r.1 = none → r.2.1 = 0
  len : r.2.2.2.length = r.2.1
theorem RowROk.below {w w' : World} {r : RowR} (h : RowROk w r) (hb : Below w.heap.size w w') : RowROk w' r := ⟨(h.sl.below hb).more hb.size, h.none_, h.len⟩
def allR (rows : List RowR) : List RecT := rows.flatMap (·.2.2.2)
theorem allR_snoc {rows : List RowR} {k : Nat} {r : RowR} (h : rows[k]? = some r) : allR (rows.take (k + 1)) = allR (rows.take k) ++ r.2.2.2 := by
  unfold allR; rw [List.take_add_one, h]; simp
theorem allR_le (rows : List RowR) (k : Nat) : (allR (rows.take k)).length ≤ (allR rows).length := by
  have h : allR rows = allR (rows.take k) ++ allR (rows.drop k) := by unfold allR; rw [← List.flatMap_append, List.take_append_drop]
  rw [h, List.length_append]; omega
theorem flatR_append (a b : List RecT) : flatR (a ++ b) = flatR a ++ flatR b := by unfold flatR; simp
end Go.Proofs.YtkdknfedieeenaaDoor
namespace Go.Proofs.YtkdknfedieeenaaDoor
open Go.RowKit
set_option linter.unusedVariables false
set_option linter.unusedSimpArgs false
set_option maxRecDepth 20000
attribute [local simp] putsF isV wordOf Deps Region.binds Region.wanted Act.put wantedX isB
def lowB (r q : RecT) : Bool := decide (cmpR q r < 0)
/-- Records with one more, where it stands. -/
def insR (rs : List RecT) (r : RecT) : List RecT := rs.takeWhile (lowB r) ++ r :: rs.dropWhile (lowB r)
theorem take_while {rs : List RecT} {r : RecT} {k : Nat} (h : ∀ q ∈ rs.take k, lowB r q = true) (he : ∀ q, rs[k]? = some q → lowB r q = false) : rs.takeWhile (lowB r) = rs.take k ∧ rs.dropWhile (lowB r) = rs.drop k := by
  induction rs generalizing k with
  | nil => simp
  | cons q rs ih =>
    cases k with
    | zero =>
      have := he q rfl
      simp [this]
    | succ k =>
      have hq := h q (by simp)
      have := ih (k := k) (fun p hp => h p (by simp [hp])) (fun p hp => he p (by simpa using hp))
      simp [hq, this]
theorem insR_at {rs : List RecT} {r : RecT} {k : Nat} (h : ∀ q ∈ rs.take k, lowB r q = true) (he : ∀ q, rs[k]? = some q → lowB r q = false) : insR rs r = rs.take k ++ r :: rs.drop k := by
  obtain ⟨h1, h2⟩ := take_while h he
  unfold insR; rw [h1, h2]
theorem insR_len (rs : List RecT) (r : RecT) : (insR rs r).length = rs.length + 1 := by
  have h : (rs.takeWhile (lowB r) ++ rs.dropWhile (lowB r)).length = rs.length := by rw [List.takeWhile_append_dropWhile]
  rw [List.length_append] at h
  unfold insR
  rw [List.length_append, List.length_cons]; omega
/-- A slice's beginning, and its rest, are rows. -/
theorem RowROk.take {w : World} {A : Option Addr} {n c : Nat} {rs : List RecT} (h : RowROk w (A, n, c, rs)) (k : Nat) (hk : k ≤ n) (c' : Nat) : RowROk w (A, k, c', rs.take k) := by
  have hl := h.len
  dsimp only at hl
  refine ⟨⟨by rw [flatR_len]; simp; omega, fun hk0 => ?_⟩, fun e => by have := h.none_ e; dsimp only at this ⊢; omega, by simp; omega⟩
  obtain ⟨b, off, e, hb, hc⟩ := h.sl.2 (by dsimp only at hk0 ⊢; omega)
  refine ⟨b, off, e, hb, fun j u hu => hc j u ?_⟩
  have hf : flatR rs = flatR (rs.take k) ++ flatR (rs.drop k) := by rw [← flatR_append, List.take_append_drop]
  rw [hf, List.getElem?_append_left (List.getElem?_eq_some_iff.1 hu).1]
  exact hu
theorem RowROk.drop {w : World} {b off : Nat} {n c : Nat} {rs : List RecT} (h : RowROk w (some ⟨b, off, none⟩, n, c, rs)) (k : Nat) (hk : k ≤ n) (c' : Nat) : RowROk w (some ⟨b, off + k * 4, none⟩, n - k, c', rs.drop k) := by
  have hl := h.len
  dsimp only at hl
  refine ⟨⟨by rw [flatR_len]; simp; omega, fun hk0 => ?_⟩, fun e => (by cases e), (by simp; omega)⟩
  obtain ⟨b', off', e, hb, hc⟩ := h.sl.2 (by dsimp only at hk0 ⊢; omega)
  injection e with e; injection e with e1 e2; subst e1 e2
  refine ⟨b, off + k * 4, rfl, hb, fun j u hu => ?_⟩
  have hf : flatR rs = flatR (rs.take k) ++ flatR (rs.drop k) := by rw [← flatR_append, List.take_append_drop]
  have hlen : (flatR (rs.take k)).length = k * 4 := by rw [flatR_len]; simp; omega
  have := hc (k * 4 + j) u (by rw [hf, List.getElem?_append_right (by omega), hlen]; simpa using hu)
  rwa [← Nat.add_assoc] at this
theorem RowROk.nothing (w : World) (A : Option Addr) (c : Nat) : RowROk w (A, 0, c, []) := ⟨Sl.nil _ _ _ _, fun _ => rfl, rfl⟩
theorem RowROk.one {w : World} {g : Nat} {r : RecT} (h : Cs w g (recCells r)) : RowROk w (some ⟨g, 0, none⟩, 1, 1, [r]) :=
  ⟨⟨rfl, fun _ => ⟨g, 0, rfl, h.lt, fun j u hu => by rw [Nat.zero_add]; exact h.get j u (by simpa [flatR] using hu)⟩⟩, fun e => (by cases e), rfl⟩
/-- Three rows that are some records, one behind the other. -/
def joinW (L : List RecT) : Value → World → Prop := fun v w => ∃ g, v = .slice (some ⟨g, 0, none⟩) 3 3 ∧ ∃ rows : List RowR, Sl w w.heap.size 1 (some ⟨g, 0, none⟩) 3 (rows.map rowRV) ∧ (∀ r ∈ rows, RowROk w r) ∧ allR rows = L
theorem joinW_stays (L : List RecT) : ∀ v w w', joinW L v w → Goes w w' → joinW L v w' := by
  rintro v w w' ⟨g, rfl, rows, hS, hok, hL⟩ hb
  exact ⟨g, rfl, rows, (hS.below hb).more hb.size, fun r hr => (hok r hr).below hb, hL⟩
end Go.Proofs.YtkdknfedieeenaaDoor
namespace Go.Proofs.YtkdknfedieeenaaDoor
open Go.RowKit
set_option linter.unusedVariables false
set_option linter.unusedSimpArgs false
set_option maxRecDepth 20000
attribute [local simp] putsF isV wordOf Deps Region.binds Region.wanted Act.put wantedX isB
def recA8 : RecT := (⟨#[1, 97]⟩, 1, 0, ⟨#[]⟩)
def recB8 : RecT := (⟨#[1, 97]⟩, 16, 0, ⟨#[]⟩)
theorem cmp_ab : cmpR recA8 recB8 = -1 := by
  unfold cmpR
  rw [show cmpS recA8.1 recB8.1 = 0 from cmpS_is.refl _]
  rfl
theorem cmp_ba : cmpR recB8 recA8 = 1 := by rw [cmpR_is.swap, cmp_ab]; rfl
theorem ins_ab : insR [recB8] recA8 = [recA8, recB8] := by
  unfold insR
  have : lowB recA8 recB8 = false := by unfold lowB; rw [cmp_ba]; rfl
  simp [this]
theorem ab_ne : recA8 ∉ [recB8] := by
  intro h
  have h : recA8 = recB8 := by simpa using h
  have := cmp_ab
  rw [h, cmpR_is.refl] at this
  cases this
end Go.Proofs.YtkdknfedieeenaaDoor
