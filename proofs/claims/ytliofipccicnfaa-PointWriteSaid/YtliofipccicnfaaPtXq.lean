/- point's Writer: Name, and a block that it leaves as it is. -/
import Derived.Test.YtliofipccicnfaaPtX
namespace Go.Proofs.Ytliofipccicnfaa
open Go.RowKit
set_option linter.unusedVariables false
set_option linter.unusedSimpArgs false
set_option maxRecDepth 20000
/-- A foreign block. -/
def FRq (q : Nat) (ob : Obj) (b : Nat) (v : Value) (m : Option Nat) (w : World) : Prop := w.heap[q]? = some ob ∧ q ≠ b ∧ v.ownBlock ≠ some q ∧ m ≠ some q
theorem FRq.lt {q b : Nat} {ob : Obj} {v : Value} {m : Option Nat} {w : World} (h : FRq q ob b v m w) : q < w.heap.size := (Array.getElem?_eq_some_iff.1 h.1).1
theorem FRq.same {q b : Nat} {ob : Obj} {v : Value} {m : Option Nat} {w w' : World} (h : FRq q ob b v m w) (e : w'.heap[q]? = w.heap[q]?) : FRq q ob b v m w' := ⟨e.trans h.1, h.2⟩
/-- A writer: its bytes, and what it knows; and a block that is none of its own. -/
def WSq (W : World) (B b q : Nat) (ob : Obj) (L : List UInt8) (es : List (ByteArray × Nat)) (w : World) : Prop :=
  (es = [] ∧ ∃ v, OB B W v L.length (L.map bv) w ∧ Cs w b [v, .map none] ∧ v.ownBlock ≠ some b ∧ B ≤ b ∧ FRq q ob b v none w) ∨ ∃ v g, Wr W B b g v L.length (L.map bv) (esV es) w ∧ FRq q ob b v (some g) w
section
variable {W w w' : World} {B b q : Nat} {ob : Obj} {L : List UInt8} {es : List (ByteArray × Nat)}
theorem WSq.below (h : WSq W B b q ob L es w) (hb : Below w.heap.size w w') : WSq W B b q ob L es w' := by
  rcases h with ⟨h0, v, ho, hc, hv, hB, hf⟩ | ⟨v, g, h, hf⟩
  · exact .inl ⟨h0, v, ho.keep hb (Nat.le_refl _), hc.below hb, hv, hB, hf.same (hb.block q hf.lt)⟩
  · exact .inr ⟨v, g, h.keep hb, hf.same (hb.block q hf.lt)⟩
theorem WSq.ws (h : WSq W B b q ob L es w) : WS W B b L es w := by
  rcases h with ⟨h0, v, ho, hc, hv, hB, hf⟩ | ⟨v, g, h, hf⟩
  · exact .inl ⟨h0, v, ho, hc, hv, hB⟩
  · exact .inr ⟨v, g, h⟩
theorem WSq.base (h : WSq W B b q ob L es w) : B ≤ b := h.ws.base
theorem WSq.kept (h : WSq W B b q ob L es w) : w.heap[q]? = some ob := by
  rcases h with ⟨_, _, _, _, _, _, hf⟩ | ⟨_, _, _, hf⟩
  · exact hf.1
  · exact hf.1
theorem WSq.look (h : WSq W B b q ob L es w) (hn : L.length < 16384) (s : ByteArray) :
    ∃ A c m, OB B W (.slice A L.length c) L.length (L.map bv) w ∧ (Value.slice A L.length c).ownBlock ≠ some b ∧ Cs w b [.slice A L.length c, .map m] ∧ (Instr.lookup 31 (.map m) (.string s) true).run Try.prog w = .ok (.tuple #[.int .i64 ((lk es s).getD 0), .bool (lk es s).isSome]) w ∧
      FRq q ob b (.slice A L.length c) m w ∧
      (∀ (w' : World) (v' : Value) (L' : List UInt8), OB B W v' L'.length (L'.map bv) w' → Cs w' b [v', .map m] → v'.ownBlock ≠ some b → (∀ g, m = some g → w'.heap[g]? = w.heap[g]? ∧ v'.ownBlock ≠ some g) → FRq q ob b v' m w' → WSq W B b q ob L' es w') ∧
      (∀ g, m = some g → b < g ∧ g < w.heap.size ∧ (Value.slice A L.length c).ownBlock ≠ some g) ∧
      (lk es s = none → Calls Try.prog 16 #[.pointer (some ⟨b, 0, none⟩), .string s] w fun e w' => e = .returned (.tuple #[]) ∧ ∃ g, Wr W B b g (.slice A L.length c) L.length (L.map bv) (esV (es ++ [(s, L.length)])) w' ∧ FRq q ob b (.slice A L.length c) (some g) w') := by
  rcases h with ⟨rfl, v, ho, hc, hv, hB, hf⟩ | ⟨v, g, hW, hf⟩
  · obtain ⟨A, c, rfl, -⟩ := ho.slice
    refine ⟨A, c, none, ho, hv, hc, ?_, hf, fun w' v' L' h1 h2 h3 h4 h5 => .inl ⟨rfl, v', h1, h2, h3, hB, h5⟩, fun g hg => (by cases hg), fun _ => ?_⟩
    · have hkk : Try.prog.underlying 23 = some .string := by kernel_rfl
      have hck := fun q => MapKept.run_checkKey (P := Try.prog) (w := w) hkk (by simp [MapKept.IsKey] : MapKept.IsKey .string (.string s)) q 9999
      have hf := MapKept.run_findKey (P := Try.prog) (w := w) hkk (show Instr.findNow .string (.string s) [] 0 = some none from rfl)
      have hz : (zeroValue 3).run Try.prog w = .ok (.int .i64 0) w := by kernel_rfl
      simp [lk, Instr.lookup, run_underlying (P := Try.prog) (t := 31) (d := .map 23 3) (by kernel_rfl), hck, hf, hz, Result.andThen]
    · refine (learn_new w b A L.length c s hc hn).mono ?_
      rintro e w' ⟨rfl, g, h1, h2, h3, h4, h5, h6⟩
      have hlt := hc.lt
      have hql := hf.lt
      refine ⟨rfl, g, ⟨ho.block (ho.bel.trans (h4.mono hB)) h5 (fun k hk => h6 k (ho.lt k hk).2 (fun e => hv (by rw [hk, e]))), h1, by simpa [esV] using h2, by omega, hB, hv, ?_⟩, (h6 q hql hf.2.1).trans hf.1, hf.2.1, hf.2.2.1, ?_⟩
      · intro e; have := (ho.lt _ e).2; omega
      · intro e; injection e with e; omega
  · obtain ⟨A, c, rfl, -⟩ := hW.ob.slice
    refine ⟨A, c, some g, hW.ob, hW.nb, hW.cs, ?_, hf, fun w' v' L' h1 h2 h3 h4 h5 => .inr ⟨v', g, ⟨h1, h2, hW.sm.block (h4 g rfl).1, hW.bg, hW.base, h3, (h4 g rfl).2⟩, h5⟩, fun g' hg => (by injection hg with hg; subst hg; exact ⟨hW.bg, hW.sm.lt, hW.ng⟩), fun hl => ?_⟩
    · have := hW.sm.lookup (P := Try.prog) (t := 31) (k := 23) (e := 3) (by kernel_rfl) (by kernel_rfl) (z := .int .i64 0) (by kernel_rfl) s
      rw [esV_has, esV_get] at this
      rw [this]
      cases lk es s <;> rfl
    · have hnk : smHas (esV es) s = false := by rw [esV_has, hl]; rfl
      refine (learn_more w b g A _ c (esV es) s hW.cs hW.sm (by have := hW.bg; omega) hnk hn).mono ?_
      rintro e w' ⟨rfl, h1, h2, h3⟩
      exact ⟨rfl, g, by rw [esV_snoc]; exact hW.learn h3 h1 h2, hf.same (h3.block q hf.lt (fun e => hf.2.2.2 e.symm))⟩
end
/-- The rest of a round: what is left to write. -/
def WJq (W : World) (B b q : Nat) (ob : Obj) (RR : List UInt8 × List (ByteArray × Nat)) (rest : List (List UInt8)) (Lk : List UInt8) (es : List (ByteArray × Nat)) (w : World) : Prop :=
  WSq W B b q ob Lk es w ∧ (∀ x ∈ rest, okLabel x = true) ∧ (wire rest).length ≤ 254 ∧ Lk.length + (wire rest).length ≤ 16200 ∧ RR = (Lk ++ (wrS es Lk.length rest).1, (wrS es Lk.length rest).2) ∧ ∀ e ∈ es, e.2 < 16384
/-- Behind an append and the store of what it gave. -/
theorem push_fr {wr w' : World} {b q : Nat} {ob : Obj} {v v' : Value} {m : Option Nat} {o : Obj} (hf : FRq q ob b v m wr)
    (h3 : ∀ k, k < wr.heap.size + 1 → some k ≠ v.ownBlock → w'.heap[k]? = (wr.alloc o).heap[k]?) (h4 : v'.ownBlock = v.ownBlock ∨ v'.ownBlock = some (wr.heap.size + 1)) : FRq q ob b v' m (w'.setCell ⟨b, 0, none⟩ v') := by
  have hq := hf.lt
  refine ⟨((Below.heap_setCell w' ⟨b, 0, none⟩ v' q hf.2.1).trans ((h3 q (by omega) (fun e => hf.2.2.1 e.symm)).trans (Below.heap_alloc wr o q hq))).trans hf.1, hf.2.1, ?_, hf.2.2.2⟩
  rcases h4 with e | e
  · rw [e]; exact hf.2.2.1
  · rw [e]; intro e2; injection e2 with e2; omega
/-- What a region that appends (8) and stores leaves. -/
structure FQ (q : Nat) (ob : Obj) (d : Nat → Bool) (x : Nat → Value) (w : World) : Prop where
  kept : w.heap[q]? = some ob
  own : d 8 = true → (x 8).ownBlock ≠ some q
section
variable {q : Nat} {ob : Obj} {d : Nat → Bool} {x : Nat → Value} {w w' : World}
theorem FQ.read (h : FQ q ob d x w) {i : Nat} {v : Value} (hi : i ≠ 8) : FQ q ob (fun j => if j = i then true else d j) (fun j => if j = i then v else x j) w := ⟨h.kept, by
  have e : ¬ 8 = i := fun e => hi e.symm
  simpa [e] using h.own⟩
theorem FQ.app (h : FQ q ob d x w) {v v' : Value} (hv : v.ownBlock ≠ some q) (hk : ∀ k, k < w.heap.size → some k ≠ v.ownBlock → w'.heap[k]? = w.heap[k]?) (h4 : v'.ownBlock = v.ownBlock ∨ v'.ownBlock = some w.heap.size) : FQ q ob (fun j => if j = 8 then true else d j) (fun j => if j = 8 then v' else x j) w' := by
  have hq : q < w.heap.size := (Array.getElem?_eq_some_iff.1 h.kept).1
  refine ⟨(hk q hq (fun e => hv e.symm)).trans h.kept, fun _ => ?_⟩
  simp only [if_true]
  rcases h4 with e | e
  · rw [e]; exact hv
  · rw [e]; intro e2; injection e2 with e2; omega
theorem FQ.store (h : FQ q ob d x w) {b : Nat} (hb : q ≠ b) {u y : Value} : FQ q ob (fun j => if j = 11 then true else d j) (fun j => if j = 11 then u else x j) (w.setCell ⟨b, 0, none⟩ y) := ⟨(Below.heap_setCell w ⟨b, 0, none⟩ y q hb).trans h.kept, by simpa using h.own⟩
theorem FQ.dec {i : Nat} (h : FQ q ob (fun j => if j = i then true else d j) x w) : FQ q ob (fun j => decide (j = i) || d j) x w := by
  have e : (fun j => decide (j = i) || d j) = (fun j => if j = i then true else d j) := by
    funext j
    by_cases p : j = i <;> simp [p]
  rw [e]; exact h
end
attribute [local simp] putsF Region.binds Region.wanted Act.put
set_option maxHeartbeats 6400000 in
theorem name_wsq (w W : World) (B b qq : Nat) (ob : Obj) (L : List UInt8) (es0 : List (ByteArray × Nat)) (ls : List (List UInt8)) (hok : ∀ x ∈ ls, okLabel x = true) (hs : (wire ls).length ≤ 254) (hm : (labelsOf (keyOf ls)).isSome = true)
    (hW : WSq W B b qq ob L es0 w) (hn : L.length + (wire ls).length ≤ 16200) (hes : ∀ e ∈ es0, e.2 < 16384) :
    Calls Try.prog 11 #[.pointer (some ⟨b, 0, none⟩), .string (keyOf ls)] w fun e w' => e = .returned (.tuple #[]) ∧ WSq W B b qq ob (L ++ (wrS es0 L.length ls).1) (wrS es0 L.length ls).2 w' := by
  have MA := fun w => may_any (keyOf ls) w (by rw [keyOf_size]; unfold maxLen; omega)
  rw [hm] at MA
  have MA := Lib.hid MA
  obtain ⟨RR, hRR⟩ : ∃ RR, RR = (L ++ (wrS es0 L.length ls).1, (wrS es0 L.length ls).2) := ⟨_, rfl⟩
  have HRR := Lib.hid hRR
  obtain ⟨AR, hAR⟩ : ∃ AR : Ending → World → Prop, AR = fun e w' => e = .returned (.tuple #[]) ∧ WSq W B b qq ob RR.1 RR.2 w' := ⟨_, rfl⟩
  have HYES : Hid (∀ wx, WSq W B b qq ob RR.1 RR.2 wx → AR (.returned (.tuple #[])) wx) := Lib.hid (fun wx h => by rw [hAR]; exact ⟨rfl, h⟩)
  rw [show (fun (e : Ending) (w' : World) => e = .returned (.tuple #[]) ∧ WSq W B b qq ob (L ++ (wrS es0 L.length ls).1) (wrS es0 L.length ls).2 w') = AR by rw [hAR, hRR]]
  have HB := Lib.hid hW.base
  have h00 : Hid (∀ wx, Below w.heap.size w wx → WJq W B b qq ob RR ls L es0 wx) := Lib.hid (fun wx hb => ⟨hW.below hb, hok, hs, hn, hRR, hes⟩)
  clear hRR hAR hm hW hok hs hn hes
  obtain ⟨KEY, hKEY⟩ : ∃ K, K = keyOf ls := ⟨_, rfl⟩
  rw [← hKEY] at MA ⊢
  have HKEY := Lib.hid hKEY
  clear hKEY
  obtain ⟨i0, hib, hz0, hz1, hz2⟩ := info_parts byte_info
  go_enter Try.func11, Try.ntmps11
  go_wp2_with fail
  refine (MA.out _).mono ?_
  rintro e w1 ⟨rfl, hb1⟩
  have h0 := Lib.hid (h00.out _ hb1)
  clear h00 hb1
  go_wp2_with fail
  go_loopw [1] (fun nv wr => ∃ rest Lk es, nv = .string (keyOf rest) ∧ Hid (WJq W B b qq ob RR rest Lk es wr)) (fun nv _ => match nv with | .string s => s.size | _ => 0)
  case atStart => exact ⟨ls, L, es0, by rw [← HKEY.out], h0⟩
  case round =>
    obtain ⟨rest, Lk, es, rfl, HJ⟩ := hrel
    clear h0
    obtain ⟨S, hS⟩ : ∃ S, S = keyOf rest := ⟨_, rfl⟩
    have nS : S.data.toList = wire rest := by rw [hS, keyOf_list]
    have sS : S.size = (wire rest).length := by rw [hS, keyOf_size]
    rw [← hS]
    have hbb := HB.out
    obtain ⟨hws, hrok, hr254, hL16, hRR, hes⟩ := HJ.out
    cases rest with
    | cons x ls =>
      obtain ⟨q, hq⟩ : ∃ q, q = x.length := ⟨_, rfl⟩
      have hx := okL_len (hrok x (by simp))
      rw [← hq] at hx
      have hwl : (wire (x :: ls)).length = q + 1 + (wire ls).length := by rw [wire_cons, hq]; simp; omega
      have hE1 := str_empty S (by omega)
      have hE2 := str_empty' S (by omega)
      have h0S : 0 < S.size := by omega
      have hx0 : (S[0]'h0S).toNat = q := by
        have : S.data.toList[0]? = some (S[0]'h0S) := get_q S 0 h0S
        rw [nS, wire_cons] at this
        simp at this
        rw [← this, UInt8.toNat_ofNat_of_lt' (by have : UInt8.size = 256 := rfl; omega), hq]
      obtain ⟨A', c', m, hob, hnb, hC', hlk, hfr, HBACK, hmg, HLN⟩ := hws.look (by omega) S
      have HBK := Lib.hid HBACK
      have HMG := Lib.hid hmg
      have HNB := Lib.hid hnb
      have HOB := Lib.hid hob
      have c0 := hC'.get 0 _
      have c1 := hC'.get 1 _
      have f0 := hC'.froz 0 (by simp)
      have q1' := hC'.lt
      have HCC := Lib.hid hC'
      obtain ⟨N', hN'⟩ : ∃ N', Lk.length = N' := ⟨_, rfl⟩
      rw [hN'] at HLN c0 HCC HNB HOB HMG hfr
      have HFR := Lib.hid hfr
      clear hfr
      have HNN := Lib.hid hN'
      have hN16 : N' ≤ 16254 := by omega
      have hSS := sS
      have HSS := Lib.hid sS
      have hS254 : S.size ≤ 254 := by omega
      cases hlt : lk es S with
      | some tq =>
        have htq : tq < 16384 := by
          obtain ⟨t, ht⟩ := lk_mem hlt
          exact hes _ ht
        try rw [hlt] at hlk
        have hw : wrS es Lk.length (x :: ls) = (ptrB tq, es) := by
          unfold wrS
          rw [← hS, hlt]
        have hR1 : RR = (Lk ++ ptrB tq, es) := by rw [hRR, hw]
        have HR1 := Lib.hid hR1
        have HPB := Lib.hid (ptr_bytes tq htq)
        obtain ⟨p1, hp1⟩ : ∃ p1 : Nat, p1 = 192 + tq / 256 := ⟨_, rfl⟩
        obtain ⟨p2, hp2⟩ : ∃ p2 : Nat, p2 = tq % 256 := ⟨_, rfl⟩
        rw [← hp1, ← hp2] at HPB
        have HP := Lib.hid (And.intro hp1 hp2)
        simp only [Option.getD_some, Option.isSome_some] at hlk
        clear hp1 hp2 hR1 hw hRR hes hrok hws hr254 hL16 hx0 hS nS sS hSS hN' hob hnb hC' HBACK hmg HLN hx hwl hlt
        obtain ⟨s1, hs1⟩ : ∃ s1 : Nat, (49152 : Int) + tq = s1 := ⟨49152 + tq, by omega⟩
        have hs2 : (s1 : Int) / 256 = p1 := by have := HP.out.1; omega
        have hs3 : IntKind.u8.wrap (p1 : Int) = p1 := by have := HP.out.1; simp [IntKind.wrap, IntKind.bits, IntKind.signed]; omega
        have hs4 : IntKind.u8.wrap (tq : Int) = p2 := by have := HP.out.2; simp [IntKind.wrap, IntKind.bits, IntKind.signed]; omega
        have hs5 : s1 < 65536 := by omega
        have hob2 := HOB.out.alloc (.cells #[.int .u8 p1, .int .u8 p2] 5)
        have hsrc := Src.ofSlice (P := Try.prog) (size := 1) (wr.alloc (.cells #[.int .u8 p1, .int .u8 p2] 5)) Try.underlying30 ⟨wr.heap.size, 0, none⟩ 2 2 [.int .u8 p1, .int .u8 p2] rfl (news_at wr #[.int .u8 p1, .int .u8 p2] 5) (by intro u hu; simp at hu; rcases hu with rfl | rfl <;> rfl)
        go_wp2_with (at_builtin; go_loud (refine wpList_append_ob rfl _ _ 30 30 rfl 5 i0 _ 1 Try.underlying30 hib hz0 hz1 hz2 rfl hob2 rfl rfl hsrc (by unfold maxLen; omega) (by omega) ?_))
        intro v' w' h1 h2 h3 h4
        obtain ⟨hc2, ho3, hc3, hn3, hg3⟩ := push_ok HB.out HCC.out HNB.out HMG.out h1 h2 h3 h4
        have hfr3 := push_fr HFR.out h3 h4
        obtain ⟨A1, c1', rfl, -⟩ := h1.slice
        have k0 := hc2.get 0 _
        have j0 := hc2.froz 0 (by simp)
        have jl := hc2.lt
        have HFIN : Hid (WSq W B b qq ob RR.1 RR.2 (w'.setCell ⟨b, 0, none⟩ (.slice A1 (N' + 2) c1'))) := Lib.hid (by
          rw [HR1.out]
          refine HBK.out _ _ (Lk ++ ptrB tq) ?_ hc3 hn3 hg3 hfr3
          have e1 : (Lk ++ ptrB tq).length = N' + 2 := by rw [List.length_append, HNN.out]; rfl
          have e2 : (Lk ++ ptrB tq).map bv = Lk.map bv ++ [.int .u8 p1, .int .u8 p2] := by rw [List.map_append, HPB.out]
          rw [e1, e2]
          exact ho3)
        clear hc2 ho3 hc3 hn3 hg3 hfr3 h1 h2 h3 h4 hsrc hob2
        go_wp2_with fail
        go_end0
        exact HYES.out _ HFIN.out
      | none =>
        have HL := Lib.hid (HLN hlt)
        try rw [hlt] at hlk
        obtain ⟨T, hT⟩ : ∃ T, T = S.extract 0 (1 + q) := ⟨_, rfl⟩
        have nT : T.data.toList = UInt8.ofNat q :: x := by
          rw [hT]
          simp [List.extract_eq_take_drop]
          rw [nS, wire_cons, ← hq]
          rw [show 1 + q = q + 1 by omega, List.cons_append, List.take_succ_cons, hq, List.take_left]
        have hX : S.extract (1 + q) S.size = keyOf ls := by
          apply ByteArray.ext; apply Array.ext'
          simp [List.extract_eq_take_drop]
          rw [nS, wire_cons, ← hq]
          rw [show 1 + q = q + 1 by omega, List.cons_append, List.drop_succ_cons, hq, List.drop_left]
          rw [List.take_of_length_le (by rw [sS, hwl]; omega)]
          simp [keyOf]
        have sT : T.size = 1 + q := by
          have := congrArg List.length nT
          simp [← hq] at this; omega
        have hRR2 : RR = (Lk ++ (UInt8.ofNat q :: x) ++ (wrS (es ++ [(S, N')]) (N' + (q + 1)) ls).1, (wrS (es ++ [(S, N')]) (N' + (q + 1)) ls).2) := by
          rw [hRR]
          have : wrS es Lk.length (x :: ls) = ((UInt8.ofNat x.length :: x) ++ (wrS (es ++ [(keyOf (x :: ls), Lk.length)]) (Lk.length + (x.length + 1)) ls).1, (wrS (es ++ [(keyOf (x :: ls), Lk.length)]) (Lk.length + (x.length + 1)) ls).2) := by
            conv => lhs; unfold wrS
            rw [← hS, hlt]
          rw [this, ← hS, ← hq, hN', List.append_assoc]
        have HNEXT : Hid (∀ wz, WSq W B b qq ob (Lk ++ (UInt8.ofNat q :: x)) (es ++ [(S, N')]) wz → WJq W B b qq ob RR ls (Lk ++ (UInt8.ofNat q :: x)) (es ++ [(S, N')]) wz) := Lib.hid (fun wz h => ⟨h, fun y hy => hrok y (by simp [hy]), by omega, by simp [← hq]; omega, by
            rw [hRR2]
            have : (Lk ++ UInt8.ofNat q :: x).length = N' + (q + 1) := by simp [hN', ← hq]
            rw [this], fun e he => by
              rcases List.mem_append.1 he with he | he
              · exact hes e he
              · simp at he; subst he; simp; omega⟩)
        have HSZ2 : Hid ((keyOf ls).size < S.size) := Lib.hid (by rw [keyOf_size]; omega)
        have HT := Lib.hid hT
        have HNT := Lib.hid nT
        have HX := Lib.hid hX
        have HST := Lib.hid sT
        have HXL : Hid (x.length = q) := Lib.hid hq.symm
        simp only [Option.getD_none, Option.isSome_none] at hlk
        have hSq : 1 + q ≤ S.size := by omega
        have hTs : T.size ≤ 64 := by omega
        clear hT nT hX sT hRR2 hRR hes hrok hws hr254 hL16 hS nS sS hN' hob hnb hC' HBACK hmg HLN hwl hlt hSS HOB HBK HMG HNB HCC hq
        go_wp2_with fail
        refine (HL.out).mono ?_
        rintro e w2 ⟨rfl, g, hW2, hfr2⟩
        have HFR2 := Lib.hid hfr2
        clear hfr2
        clear c0 c1 hlk HL f0 q1'
        go_upto_region 7 with fail
        obtain ⟨L', hL'⟩ : ∃ L', L' = Lk.map bv := ⟨_, rfl⟩
        rw [← hL'] at hW2
        obtain ⟨eV, heV⟩ : ∃ eV, eV = esV (es ++ [(S, N')]) := ⟨_, rfl⟩
        rw [← heV] at hW2
        have HL' := Lib.hid hL'
        have HEV := Lib.hid heV
        clear hL' heV
        have hp0 : (0 : Int) ≤ 1 + (q : Int) := by omega
        have hp1 : (1 : Int) + q ≤ S.size := by omega
        have hp2 : ((1 : Int) + q).toNat = 1 + q := by omega
        have hss : S.size ≤ 254 := hS254
        refine wp_region_joint ptn_follows (fun d x w => JN W B b g (.slice A' N' c') N' L' eV (N' + T.size) (L' ++ byteCells T) (valN b (.slice A' N' c') S T (1 + q)) d x w ∧ FQ qq ob d x w) (by kernel_rfl) (by kernel_rfl) ?start ?steps ?fin
        case start => exact fun x => ⟨JN.start hW2.drew x, HFR2.out.1, fun h => (by cases h)⟩
        case steps =>
          intro i hi dd x wr hJ hdi hdeps
          have hi12 : i < 12 := hi
          have hcs : i = 0 ∨ i = 1 ∨ i = 2 ∨ i = 3 ∨ i = 4 ∨ i = 5 ∨ i = 6 ∨ i = 7 ∨ i = 8 ∨ i = 9 ∨ i = 10 ∨ i = 11 := by omega
          rcases hcs with rfl | rfl | rfl | rfl | rfl | rfl | rfl | rfl | rfl | rfl | rfl | rfl
          all_goals
            simp at hdeps
            simp
          · go_simp
            exact ⟨(hJ.1.read 0 (by decide) (by decide)).dec, (hJ.2.read (i := 0) (by decide)).dec⟩
          · go_simp
            exact ⟨(hJ.1.read 1 (by decide) (by decide)).dec, (hJ.2.read (i := 1) (by decide)).dec⟩
          · have x1 := hJ.1.slots 1 (by decide) (by decide) (by simp_all)
            simp [valN] at x1
            rw [x1]
            go_simp
            exact ⟨(hJ.1.read 2 (by decide) (by decide)).dec, (hJ.2.read (i := 2) (by decide)).dec⟩
          · have x2 := hJ.1.slots 2 (by decide) (by decide) (by simp_all)
            simp [valN] at x2
            rw [x2]
            go_simp
            exact ⟨(hJ.1.read 3 (by decide) (by decide)).dec, (hJ.2.read (i := 3) (by decide)).dec⟩
          · have x3 := hJ.1.slots 3 (by decide) (by decide) (by simp_all)
            simp [valN] at x3
            rw [x3]
            have hc := hJ.1.cs0 (hJ.1.open 4 (by decide) hdi)
            have c0 := hc.get 0 _
            go_simp
            exact ⟨(hJ.1.read 4 (by decide) (by decide)).dec, (hJ.2.read (i := 4) (by decide)).dec⟩
          · go_simp
            exact ⟨(hJ.1.read 5 (by decide) (by decide)).dec, (hJ.2.read (i := 5) (by decide)).dec⟩
          · have hr := (hJ.1.read 6 (by decide) (by decide)).dec
            simp only [valN, show ¬ ((6 : Nat) = 4) by decide, show ¬ ((6 : Nat) = 5) by decide, if_false, if_true, Int.natCast_add, Int.natCast_one] at hr
            go_simp
            first | exact ⟨hr, (hJ.2.read (i := 6) (by decide)).dec⟩ | exact (hJ.2.read (i := 6) (by decide)).dec
          · have x5 := hJ.1.slots 5 (by decide) (by decide) (by simp_all)
            have x6 := hJ.1.slots 6 (by decide) (by decide) (by simp_all)
            simp [valN] at x5 x6
            have hT' := HT.out.symm
            rw [x5, x6]
            go_simp
            exact ⟨(hJ.1.read 7 (by decide) (by decide)).dec, (hJ.2.read (i := 7) (by decide)).dec⟩
          · obtain ⟨o1, o2, o3⟩ := hJ.1.own0 hdi
            have x4 := hJ.1.slots 4 (by decide) (by decide) (by simp_all)
            have x7 := hJ.1.slots 7 (by decide) (by decide) (by simp_all)
            simp [valN] at x4 x7
            rw [x4, x7]
            refine oper_append_ob _ _ _ _ rfl 5 i0 _ 1 Try.underlying30 hib hz0 hz1 hz2 rfl o1 rfl rfl (Src.ofString (P := Try.prog) (w := wr) (tx := 23) (by kernel_rfl) T) (by unfold maxLen; omega) (by omega) ?_
            intro v' w' h1 h2 h3 h4
            refine ⟨v', rfl, ?_⟩
            exact ⟨(hJ.1.app hdi h1 h2 h3 h4).dec, (hJ.2.app HFR2.out.2.2.1 h3 h4).dec⟩
          · have x0 := hJ.1.slots 0 (by decide) (by decide) (by simp_all)
            simp [valN] at x0
            rw [x0]
            go_simp
            exact ⟨(hJ.1.read 9 (by decide) (by decide)).dec, (hJ.2.read (i := 9) (by decide)).dec⟩
          · have x9 := hJ.1.slots 9 (by decide) (by decide) (by simp_all)
            simp [valN] at x9
            rw [x9]
            go_simp
            exact ⟨(hJ.1.read 10 (by decide) (by decide)).dec, (hJ.2.read (i := 10) (by decide)).dec⟩
          · have h8 : dd 8 = true := by simp_all
            have x10 := hJ.1.slots 10 (by decide) (by decide) (by simp_all)
            simp [valN] at x10
            have hall : ∀ i, i < 9 → dd i = true := by
              intro i hi
              have : i = 0 ∨ i = 1 ∨ i = 2 ∨ i = 3 ∨ i = 4 ∨ i = 5 ∨ i = 6 ∨ i = 7 ∨ i = 8 := by omega
              rcases this with rfl | rfl | rfl | rfl | rfl | rfl | rfl | rfl | rfl <;> simp_all
            have hs := (hJ.1.store h8 hdi hall undef).dec
            obtain ⟨A, c, e8, -⟩ := (hJ.1.own1 h8).1.slice
            have hc := hJ.1.cs0 hdi
            have c0 := hc.get 0 _
            have f0 := hc.froz 0 (by simp)
            rw [e8] at hs
            rw [x10, e8]
            go_simp
            exact ⟨undef, hs, (hJ.2.store HFR2.out.2.1).dec⟩
        case fin =>
          intro d x' wz hall hJ
          have hW3 := hJ.1.done (hall 8 (by decide)) (hall 11 (by decide))
          have hFQ3 : FRq qq ob b (x' 8) (some g) wz := ⟨hJ.2.kept, HFR2.out.2.1, hJ.2.own (hall 8 (by decide)), HFR2.out.2.2.2⟩
          clear hJ hall
          simp
          have hbc : byteCells T = (UInt8.ofNat q :: x).map bv := by rw [← HNT.out]; simp [byteCells, bv]
          rw [hbc, HST.out, HL'.out, HEV.out] at hW3
          have hfin0 : WSq W B b qq ob (Lk ++ (UInt8.ofNat q :: x)) (es ++ [(S, N')]) wz := by
            refine Or.inr ⟨x' 8, g, ?_, hFQ3⟩
            have e1 : (Lk ++ (UInt8.ofNat q :: x)).length = N' + (1 + q) := by simp [HNN.out, HXL.out]; omega
            rw [e1, List.map_append]
            exact hW3
          have hfin := Lib.hid (HNEXT.out _ hfin0)
          clear hW3 hbc hfin0 hFQ3
          go_wp2_with fail
          go_roundw
          case rel => exact ⟨ls, _, _, by rw [HX.out], hfin⟩
          case measure =>
            rw [HX.out]
            exact HSZ2.out
    | nil =>
      have hS0 : S = ⟨#[]⟩ := by rw [hS]; rfl
      obtain ⟨A', c', m, hob, hnb, hC', -, hfr, HBACK, hmg, -⟩ := hws.look (by omega) S
      have HBK := Lib.hid HBACK
      have HMG := Lib.hid hmg
      have HNB := Lib.hid hnb
      have c0 := hC'.get 0 _
      have f0 := hC'.froz 0 (by simp)
      have q1' := hC'.lt
      have HCC := Lib.hid hC'
      obtain ⟨N', hN'⟩ : ∃ N', Lk.length = N' := ⟨_, rfl⟩
      rw [hN'] at c0 HCC HNB hob HMG hfr
      have HFR := Lib.hid hfr
      clear hfr
      have HNN := Lib.hid hN'
      have hN16 : N' ≤ 16254 := by omega
      have HR1 : Hid (RR = (Lk ++ [0], es)) := Lib.hid (by rw [hRR]; rfl)
      have hob2 := hob.alloc (.cells #[.int .u8 0] 5)
      subst hS0
      clear hRR hes hrok hws hr254 hL16 hS nS sS hN' hob hnb hC' HBACK hmg
      have hsrc := Src.ofSlice (P := Try.prog) (size := 1) (wr.alloc (.cells #[.int .u8 0] 5)) Try.underlying30 ⟨wr.heap.size, 0, none⟩ 1 1 [.int .u8 0] rfl (news_at wr #[.int .u8 0] 5) (by intro u hu; simp at hu; subst hu; rfl)
      go_wp2_with (at_builtin; go_loud (refine wpList_append_ob rfl _ _ 30 30 rfl 5 i0 _ 1 Try.underlying30 hib hz0 hz1 hz2 rfl hob2 rfl rfl hsrc (by unfold maxLen; omega) (by omega) ?_))
      intro v' w' h1 h2 h3 h4
      obtain ⟨hc2, ho3, hc3, hn3, hg3⟩ := push_ok HB.out HCC.out HNB.out HMG.out h1 h2 h3 h4
      have hfr3 := push_fr HFR.out h3 h4
      obtain ⟨A1, c1', rfl, -⟩ := h1.slice
      have k0 := hc2.get 0 _
      have j0 := hc2.froz 0 (by simp)
      have jl := hc2.lt
      have HFIN : Hid (WSq W B b qq ob RR.1 RR.2 (w'.setCell ⟨b, 0, none⟩ (.slice A1 (N' + 1) c1'))) := Lib.hid (by
        rw [HR1.out]
        refine HBK.out _ _ (Lk ++ [0]) ?_ hc3 hn3 hg3 hfr3
        have e1 : (Lk ++ [0]).length = N' + 1 := by rw [List.length_append, HNN.out]; rfl
        have e2 : (Lk ++ [0]).map bv = Lk.map bv ++ [.int .u8 0] := by rw [List.map_append]; rfl
        rw [e1, e2]
        exact ho3)
      clear hc2 ho3 hc3 hn3 hg3 hfr3 h1 h2 h3 h4 hsrc hob2
      go_wp2_with fail
      go_end0
      exact HYES.out _ HFIN.out
end Go.Proofs.Ytliofipccicnfaa
