/- point's Writer: Name of any name, where nothing is known yet. -/
import Derived.Test.YtliofipccicnfaaPtN
import Derived.Test.YtliofipccicnfaaSoaA
namespace Go.Proofs.Ytliofipccicnfaa
open Go.RowKit
set_option linter.unusedVariables false
set_option maxRecDepth 20000
theorem learn_new (w : World) (b : Nat) (A : Option Addr) (n c : Nat) (s : ByteArray) (hC : Cs w b [.slice A n c, .map none]) (hn : n < 16384) :
    Calls Try.prog 16 #[.pointer (some ⟨b, 0, none⟩), .string s] w fun e w' => e = .returned (.tuple #[]) ∧ ∃ g, Cs w' b [.slice A n c, .map (some g)] ∧ SM w' g [(s, .int .i64 n)] ∧ w.heap.size ≤ g ∧ Below b w w' ∧ w.heap.size ≤ w'.heap.size ∧ ∀ k, k < w.heap.size → k ≠ b → w'.heap[k]? = w.heap[k]? := by
  have c0 := hC.get 0 _
  have c1 := hC.get 1 _
  have f1 := hC.froz 1 (by simp)
  have g1 := hC.lt
  have hnn : ¬ (16384 : Int) ≤ n := by omega
  have hnn2 : (n : Int) < 16384 := by omega
  have HC := Lib.hid hC
  clear hC
  have hen := fun w => run_eql_map_nil (P := Try.prog) w 31 23 3 none (by kernel_rfl)
  have hmm := @run_makeMap Try.prog
  go_enter Try.func16, Try.ntmps16
  go_wp2_with fail
  have hA : Cs ((w.setCell ⟨b, 1, none⟩ (.map (some w.heap.size))).alloc (.map #[] 0)) b [.slice A n c, .map (some w.heap.size)] := (HC.out.set' 1 (.map (some w.heap.size)) (by simp)).alloc _
  have hM : SM ((w.setCell ⟨b, 1, none⟩ (.map (some w.heap.size))).alloc (.map #[] 0)) w.heap.size [] := by
    have := SM.new (w.setCell ⟨b, 1, none⟩ (.map (some w.heap.size)))
    rwa [show (w.setCell ⟨b, 1, none⟩ (.map (some w.heap.size))).heap.size = w.heap.size by simp] at this
  have hB : Below b w ((w.setCell ⟨b, 1, none⟩ (.map (some w.heap.size))).alloc (.map #[] 0)) := ((Below.refl b w).setCell (p := ⟨b, 1, none⟩) (Nat.le_refl _) _).alloc (by simpa using Nat.le_of_lt g1) _
  have hK : ∀ k, k < w.heap.size → k ≠ b → ((w.setCell ⟨b, 1, none⟩ (.map (some w.heap.size))).alloc (.map #[] 0)).heap[k]? = w.heap[k]? := fun k hk hne => (Below.heap_alloc _ _ k (by simpa using hk)).trans (Below.heap_setCell w ⟨b, 1, none⟩ _ k hne)
  have hZ : ((w.setCell ⟨b, 1, none⟩ (.map (some w.heap.size))).alloc (.map #[] 0)).heap.size = w.heap.size + 1 := by simp
  obtain ⟨g, hg⟩ : ∃ g, w.heap.size = g := ⟨_, rfl⟩
  have HG := Lib.hid hg
  rw [hg] at hA hM hB hK hZ g1 ⊢
  generalize ((w.setCell ⟨b, 1, none⟩ (.map (some g))).alloc (.map #[] 0)) = W3 at *
  have d0 := hA.get 0 _
  have d1 := hA.get 1 _
  have g3 := hA.lt
  have HC3 := Lib.hid hA
  have HM3 := Lib.hid hM
  have HB3 := Lib.hid hB
  have HK3 := Lib.hid hK
  have HZ3 := Lib.hid hZ
  clear hA hM hB hK hZ c0 c1 f1 hg hen hmm
  go_still_tail 10, (by kernel_rfl)
  change wpList _ _ _ _ _ W3.drew
  refine wpList_update_sm W3.drew rfl _ _ _ _ rfl 23 3 (by kernel_rfl) (by kernel_rfl) g [] rfl HM3.out s (.int .i64 n) rfl rfl rfl ?_
  intro w2 hM2 hg2
  go_wp2
  go_end0
  have hg3 : W3.grownBy w2 (some g) := ⟨hg2.os, hg2.tape, hg2.output, hg2.size, hg2.block⟩
  have hz3 := HZ3.out
  have hgg := HG.out
  have hs2 := hg3.size
  refine ⟨rfl, g, HC3.out.grown hg3 (fun e => by injection e with e; omega), hM2, by omega, HB3.out.grown hg3 (by omega) (fun k hk => by injection hk with hk; omega), by omega, fun k hk hne => ?_⟩
  exact (hg3.block k (by omega) (fun e => by injection e with e; omega)).trans (HK3.out k (by omega) hne)
/-- What stands at a label of a name. -/
def restOf (ls : List (List UInt8)) (k : Nat) : List UInt8 := wire (ls.drop k)
def doneOf (ls : List (List UInt8)) (k : Nat) : List UInt8 := wire (ls.take k)
theorem done_rest (ls : List (List UInt8)) (k : Nat) : doneOf ls k ++ restOf ls k = wire ls := by unfold doneOf restOf; rw [← wire_append, List.take_append_drop]
theorem rest_step (ls : List (List UInt8)) (k : Nat) (hk : k < ls.length) (hok : ∀ x ∈ ls, okLabel x = true) :
    ∃ q, 1 ≤ q ∧ q ≤ 63 ∧ ls[k].length = q ∧ restOf ls k = UInt8.ofNat q :: (ls[k] ++ restOf ls (k + 1)) ∧ doneOf ls (k + 1) = doneOf ls k ++ UInt8.ofNat q :: ls[k] := by
  have h := okLabel_len (hok _ (List.getElem_mem hk))
  refine ⟨ls[k].length, h.1, h.2, rfl, ?_, ?_⟩
  · unfold restOf; rw [List.drop_eq_getElem_cons hk, wire_cons]; rfl
  · unfold doneOf; rw [List.take_succ_eq_append_getElem hk, wire_append]; simp [wire]
/-- The writer, where so many labels were written. -/
def Wn (W : World) (B b : Nat) (v : Value) (n : Nat) (l : List Value) (ls : List (List UInt8)) (k : Nat) (w : World) : Prop :=
  (k = 0 ∧ OB B W v n l w ∧ Cs w b [v, .map none] ∧ v.ownBlock ≠ some b) ∨
  ∃ v' g es, Wr W B b g v' (n + (doneOf ls k).length) (l ++ (doneOf ls k).map bv) es w ∧ ∀ e ∈ es, (restOf ls k).length < e.1.size
theorem Wn.any {W w : World} {B b n k : Nat} {v : Value} {l : List Value} {ls : List (List UInt8)} (h : Wn W B b v n l ls k w) :
    ∃ A c m, OB B W (.slice A (n + (doneOf ls k).length) c) (n + (doneOf ls k).length) (l ++ (doneOf ls k).map bv) w ∧ Cs w b [.slice A (n + (doneOf ls k).length) c, m] ∧ (Value.slice A (n + (doneOf ls k).length) c).ownBlock ≠ some b := by
  rcases h with ⟨rfl, ho, hc, hv⟩ | ⟨v', g, es, hW, _⟩
  · obtain ⟨A, c, rfl, -⟩ := ho.slice
    exact ⟨A, c, .map none, by simpa [doneOf, wire] using ho, by simpa [doneOf, wire] using hc, by simpa [doneOf, wire] using hv⟩
  · obtain ⟨A, c, rfl, -⟩ := hW.ob.slice
    exact ⟨A, c, .map (some g), hW.ob, hW.cs, hW.nb⟩
theorem no_key (es : List (ByteArray × Value)) (s : ByteArray) (h : ∀ e ∈ es, s.size < e.1.size) : smHas es s = false := by
  unfold smHas
  rw [List.any_eq_false]
  intro e he
  have := h e he
  rw [beq_iff_eq]
  intro hq
  have h2 := congrArg List.length hq
  simp at h2; omega
theorem no_key_get (es : List (ByteArray × Value)) (s : ByteArray) (h : smHas es s = false) : smGet es s = none := by
  unfold smGet
  rw [Option.map_eq_none_iff, List.find?_eq_none]
  intro e he
  unfold smHas at h
  rw [List.any_eq_false] at h
  exact h e he
/-- What a round finds: nothing known of the name; it is learnt. -/
theorem Wn.learn {W w : World} {B b n k : Nat} {v : Value} {l : List Value} {ls : List (List UInt8)} (h : Wn W B b v n l ls k w) (hB : B ≤ b) (hn : n + (doneOf ls k).length < 16384) (s : ByteArray) (hs : s.size = (restOf ls k).length) :
    ∃ A c m, Cs w b [.slice A (n + (doneOf ls k).length) c, .map m] ∧ (Instr.lookup 31 (.map m) (.string s) true).run Try.prog w = .ok (.tuple #[.int .i64 0, .bool false]) w ∧
      Calls Try.prog 16 #[.pointer (some ⟨b, 0, none⟩), .string s] w fun e w' => e = .returned (.tuple #[]) ∧ ∃ g es, Wr W B b g (.slice A (n + (doneOf ls k).length) c) (n + (doneOf ls k).length) (l ++ (doneOf ls k).map bv) es w' ∧ ∀ e ∈ es, s.size ≤ e.1.size := by
  rcases h with ⟨rfl, ho, hc, hv⟩ | ⟨v', g, es, hW, hes⟩
  · obtain ⟨A, c, rfl, -⟩ := ho.slice
    have e0 : doneOf ls 0 = [] := by simp [doneOf, wire]
    rw [e0] at hn ⊢
    simp only [List.length_nil, Nat.add_zero, List.map_nil, List.append_nil] at hn ⊢
    refine ⟨A, c, none, hc, ?_, ?_⟩
    · have hkk : Try.prog.underlying 23 = some .string := by kernel_rfl
      have hck := fun q => MapKept.run_checkKey (P := Try.prog) (w := w) hkk (by simp [MapKept.IsKey] : MapKept.IsKey .string (.string s)) q 9999
      have hf := MapKept.run_findKey (P := Try.prog) (w := w) hkk (show Instr.findNow .string (.string s) [] 0 = some none from rfl)
      have hz : (zeroValue 3).run Try.prog w = .ok (.int .i64 0) w := by kernel_rfl
      simp [Instr.lookup, run_underlying (P := Try.prog) (t := 31) (d := .map 23 3) (by kernel_rfl), hck, hf, hz, Result.andThen]
    · refine (learn_new w b A n c s hc hn).mono ?_
      rintro e w' ⟨rfl, g, h1, h2, h3, h4, h5, h6⟩
      have hlt := hc.lt
      refine ⟨rfl, g, _, ⟨ho.block (ho.bel.trans (h4.mono hB)) h5 (fun k hk => h6 k (ho.lt k hk).2 (fun e => hv (by rw [hk, e]))), h1, h2, by omega, hB, hv, ?_⟩, ?_⟩
      · intro e; have := (ho.lt _ e).2; omega
      · intro e he; simp at he; subst he; exact Nat.le_refl _
  · obtain ⟨A, c, rfl, -⟩ := hW.ob.slice
    have hnk := no_key es s (by intro e he; have := hes e he; omega)
    refine ⟨A, c, some g, hW.cs, ?_, ?_⟩
    · have := hW.sm.lookup (P := Try.prog) (t := 31) (k := 23) (e := 3) (by kernel_rfl) (by kernel_rfl) (z := .int .i64 0) (by kernel_rfl) s
      rw [hnk, no_key_get es s hnk] at this
      exact this
    · refine (learn_more w b g A _ c es s hW.cs hW.sm (by have := hW.bg; omega) hnk hn).mono ?_
      rintro e w' ⟨rfl, h1, h2, h3⟩
      refine ⟨rfl, g, _, hW.learn h3 h1 h2, ?_⟩
      intro e he
      rcases List.mem_append.1 he with he | he
      · have := hes e he; omega
      · simp at he; subst he; exact Nat.le_refl _
theorem rest_end (ls : List (List UInt8)) (k : Nat) (hk : ls.length ≤ k) : restOf ls k = [] ∧ doneOf ls k = wire ls := by
  unfold restOf doneOf; rw [List.drop_eq_nil_of_le hk, List.take_of_length_le hk]; exact ⟨rfl, rfl⟩
attribute [local simp] putsF Region.binds Region.wanted Act.put
set_option maxHeartbeats 3200000 in
theorem name_new (w W : World) (B b : Nat) (v : Value) (n : Nat) (l : List Value) (s : ByteArray) (ls : List (List UInt8)) (hw : s.data.toList = wire ls) (hok : ∀ x ∈ ls, okLabel x = true) (hs : s.size ≤ 254) (hm : (labelsOf s).isSome = true)
    (hO : OB B W v n l w) (hC : Cs w b [v, .map none]) (hB : B ≤ b) (hv : v.ownBlock ≠ some b) (hn : n ≤ 16000) :
    Calls Try.prog 11 #[.pointer (some ⟨b, 0, none⟩), .string s] w fun e w' => e = .returned (.tuple #[]) ∧ ∃ v' m, OB B W v' (n + s.size + 1) (l ++ s.data.toList.map bv ++ [bv 0]) w' ∧ Cs w' b [v', m] ∧ v'.ownBlock ≠ some b := by
  have MA := fun w => may_any s w (by unfold maxLen; omega)
  rw [hm] at MA
  have MA := Lib.hid MA
  have hs0 : s = ByteArray.mk (restOf ls 0).toArray := by
    apply ByteArray.ext; apply Array.ext'; simp [restOf, hw]
  have hdl : ∀ k, k ≤ ls.length → (doneOf ls k).length + (restOf ls k).length = s.size := fun k hk => by
    rw [← List.length_append, done_rest, ← hw]; simp
  have hsz : s.size = (wire ls).length := by rw [← hw]; simp
  have HDL := Lib.hid hdl
  have HS0 := Lib.hid hs0
  have HSZ := Lib.hid hsz
  have HW := Lib.hid hw
  have HOK := Lib.hid hok
  clear hdl hs0 hm hw hok hsz
  go_enter Try.func11, Try.ntmps11
  go_wp2_with fail
  refine (MA.out _).mono ?_
  rintro e w1 ⟨rfl, hb1⟩
  have h0 : Hid (Wn W B b v n l ls 0 w1) := Lib.hid (.inl ⟨rfl, hO.keep hb1 (Nat.le_refl _), hC.below hb1, hv⟩)
  clear hO hC hv hb1
  go_wp2_with fail
  go_loopw [1] (fun nv wr => ∃ k, k ≤ ls.length ∧ nv = .string ⟨(restOf ls k).toArray⟩ ∧ Hid (Wn W B b v n l ls k wr)) (fun nv _ => match nv with | .string s => s.size | _ => 0)
  case atStart => exact ⟨0, Nat.zero_le _, by rw [← HS0.out], h0⟩
  case round =>
    obtain ⟨k, hk, rfl, hWn⟩ := hrel
    obtain ⟨S, hS⟩ : ∃ S, S = ByteArray.mk (restOf ls k).toArray := ⟨_, rfl⟩
    have nS : S.data.toList = restOf ls k := by rw [hS, mk_toList]
    have sS : S.size = (restOf ls k).length := by rw [hS, mk_size]
    have hdk := HDL.out k hk
    rw [← hS]
    rcases Nat.lt_or_ge k ls.length with hlt | hge
    · obtain ⟨q, q1, q63, hql, hrest, hdone⟩ := rest_step ls k hlt HOK.out
      have hrl : (restOf ls k).length = 1 + q + (restOf ls (k + 1)).length := by rw [hrest]; simp [hql]; omega
      have hE1 := str_empty S (by omega)
      have hE2 := str_empty' S (by omega)
      have h0S : 0 < S.size := by omega
      have hx0 : (S[0]'h0S).toNat = q := by
        have : S.data.toList[0]? = some (S[0]'h0S) := get_q S 0 h0S
        rw [nS, hrest] at this
        simp at this
        rw [← this, ofNat_small _ (by omega)]
      obtain ⟨T, hT⟩ : ∃ T, T = S.extract 0 (1 + q) := ⟨_, rfl⟩
      have nT : T.data.toList = UInt8.ofNat q :: ls[k] := by
        rw [hT]
        simp [List.extract_eq_take_drop]
        rw [nS, hrest]
        rw [show 1 + q = q + 1 by omega, List.take_succ_cons, ← hql, List.take_left]
      have hX : S.extract (1 + q) S.size = ByteArray.mk (restOf ls (k + 1)).toArray := by
        apply ByteArray.ext; apply Array.ext'
        simp [List.extract_eq_take_drop]
        rw [nS, hrest]
        rw [show 1 + q = q + 1 by omega, List.drop_succ_cons, ← hql, List.drop_left]
        rw [List.take_of_length_le (by rw [sS, hrl]; omega)]
      have sT : T.size = 1 + q := by
        have := congrArg List.length nT
        simp [hql] at this; omega
      obtain ⟨A', c', m, hC', hlk, HL⟩ := hWn.out.learn (by omega) (by omega) S sS
      have c0 := hC'.get 0 _
      have c1 := hC'.get 1 _
      have q1' := hC'.lt
      obtain ⟨N', hN'⟩ : ∃ N', n + (doneOf ls k).length = N' := ⟨_, rfl⟩
      rw [hN'] at hC' HL c0
      have HT := Lib.hid hT
      have HNT := Lib.hid nT
      have HX := Lib.hid hX
      have HSS := Lib.hid sS
      have HST := Lib.hid sT
      have HNN := Lib.hid hN'
      have HRL := Lib.hid hrl
      have HDN := Lib.hid hdone
      have hSq : 1 + q ≤ S.size := by omega
      have hTs : T.size ≤ 64 := by omega
      have hN16 : N' ≤ 16254 := by omega
      have HL := Lib.hid HL
      clear hT nT hX sS sT hN' hrl hdone hrest hql hS nS hC'
      obtain ⟨i0, hib, hz0, hz1, hz2⟩ := info_parts byte_info
      go_wp2_with fail
      refine (HL.out).mono ?_
      rintro e w2 ⟨rfl, g, es, hW2, hes⟩
      have HES := Lib.hid hes
      clear hes c0 c1 hlk
      go_upto_region 1 with fail
      obtain ⟨L', hL'⟩ : ∃ L', L' = l ++ (doneOf ls k).map bv := ⟨_, rfl⟩
      rw [← hL'] at hW2
      have HL' := Lib.hid hL'
      clear hL'
      have hp0 : (0 : Int) ≤ 1 + (q : Int) := by omega
      have hp1 : (1 : Int) + q ≤ S.size := by omega
      have hp2 : ((1 : Int) + q).toNat = 1 + q := by omega
      have hss : S.size ≤ 254 := by have := HSS.out; omega
      refine wp_region_joint ptn_follows (JN W B b g (.slice A' N' c') N' L' es (N' + T.size) (L' ++ byteCells T) (valN b (.slice A' N' c') S T (1 + q))) (by kernel_rfl) (by kernel_rfl) ?start ?steps ?fin
      case start => exact fun x => JN.start hW2.drew x
      case steps =>
        intro i hi dd x wr hJ hdi hdeps
        have hi12 : i < 12 := hi
        have hcs : i = 0 ∨ i = 1 ∨ i = 2 ∨ i = 3 ∨ i = 4 ∨ i = 5 ∨ i = 6 ∨ i = 7 ∨ i = 8 ∨ i = 9 ∨ i = 10 ∨ i = 11 := by omega
        rcases hcs with rfl | rfl | rfl | rfl | rfl | rfl | rfl | rfl | rfl | rfl | rfl | rfl
        all_goals
          simp at hdeps
          simp
        · go_simp
          exact (hJ.read 0 (by decide) (by decide)).dec
        · go_simp
          exact (hJ.read 1 (by decide) (by decide)).dec
        · have x1 := hJ.slots 1 (by decide) (by decide) (by simp_all)
          simp [valN] at x1
          rw [x1]
          go_simp
          exact (hJ.read 2 (by decide) (by decide)).dec
        · have x2 := hJ.slots 2 (by decide) (by decide) (by simp_all)
          simp [valN] at x2
          rw [x2]
          go_simp
          exact (hJ.read 3 (by decide) (by decide)).dec
        · have x3 := hJ.slots 3 (by decide) (by decide) (by simp_all)
          simp [valN] at x3
          rw [x3]
          have hc := hJ.cs0 (hJ.open 4 (by decide) hdi)
          have c0 := hc.get 0 _
          go_simp
          exact (hJ.read 4 (by decide) (by decide)).dec
        · go_simp
          exact (hJ.read 5 (by decide) (by decide)).dec
        · have hr := (hJ.read 6 (by decide) (by decide)).dec
          simp only [valN, show ¬ ((6 : Nat) = 4) by decide, show ¬ ((6 : Nat) = 5) by decide, if_false, if_true, Int.natCast_add, Int.natCast_one] at hr
          go_simp
          try exact hr
        · have x5 := hJ.slots 5 (by decide) (by decide) (by simp_all)
          have x6 := hJ.slots 6 (by decide) (by decide) (by simp_all)
          simp [valN] at x5 x6
          have hT' := HT.out.symm
          rw [x5, x6]
          go_simp
          exact (hJ.read 7 (by decide) (by decide)).dec
        · obtain ⟨o1, o2, o3⟩ := hJ.own0 hdi
          have x4 := hJ.slots 4 (by decide) (by decide) (by simp_all)
          have x7 := hJ.slots 7 (by decide) (by decide) (by simp_all)
          simp [valN] at x4 x7
          rw [x4, x7]
          refine oper_append_ob _ _ _ _ rfl 5 i0 _ 1 Try.underlying30 hib hz0 hz1 hz2 rfl o1 rfl rfl (Src.ofString (P := Try.prog) (w := wr) (tx := 23) (by kernel_rfl) T) (by unfold maxLen; omega) (by omega) ?_
          intro v' w' h1 h2 h3 h4
          refine ⟨v', rfl, ?_⟩
          exact (hJ.app hdi h1 h2 h3 h4).dec
        · have x0 := hJ.slots 0 (by decide) (by decide) (by simp_all)
          simp [valN] at x0
          rw [x0]
          go_simp
          exact (hJ.read 9 (by decide) (by decide)).dec
        · have x9 := hJ.slots 9 (by decide) (by decide) (by simp_all)
          simp [valN] at x9
          rw [x9]
          go_simp
          exact (hJ.read 10 (by decide) (by decide)).dec
        · have h8 : dd 8 = true := by simp_all
          have x10 := hJ.slots 10 (by decide) (by decide) (by simp_all)
          simp [valN] at x10
          have hall : ∀ i, i < 9 → dd i = true := by
            intro i hi
            have : i = 0 ∨ i = 1 ∨ i = 2 ∨ i = 3 ∨ i = 4 ∨ i = 5 ∨ i = 6 ∨ i = 7 ∨ i = 8 := by omega
            rcases this with rfl | rfl | rfl | rfl | rfl | rfl | rfl | rfl | rfl <;> simp_all
          have hs := (hJ.store h8 hdi hall undef).dec
          obtain ⟨A, c, e8, -⟩ := (hJ.own1 h8).1.slice
          have hc := hJ.cs0 hdi
          have c0 := hc.get 0 _
          have f0 := hc.froz 0 (by simp)
          rw [e8] at hs
          rw [x10, e8]
          go_simp
          exact ⟨undef, hs⟩
      case fin =>
        intro d x wz hall hJ
        have hW3 := hJ.done (hall 8 (by decide)) (hall 11 (by decide))
        clear hJ hall
        simp
        have hbc : byteCells T = (UInt8.ofNat q :: ls[k]).map bv := by rw [← HNT.out]; simp [byteCells, bv]
        rw [hbc, HST.out] at hW3
        have hfin0 : Wn W B b v n l ls (k + 1) wz := by
          refine Or.inr ⟨x 8, g, es, ?_, fun e he => ?_⟩
          · rw [HDN.out, List.length_append, List.map_append, ← List.append_assoc, ← HL'.out, ← Nat.add_assoc, HNN.out]
            have : (UInt8.ofNat q :: ls[k]).length = 1 + q := by rw [← HNT.out, ← HST.out]; simp
            rw [this]
            exact hW3
          · have := HES.out e he
            have := HRL.out
            have := HSS.out
            omega
        have hfin := Lib.hid hfin0
        clear hW3 hbc hfin0
        go_wp2_with fail
        go_roundw
        case rel => exact ⟨k + 1, hlt, by rw [HX.out], hfin⟩
        case measure =>
          rw [HX.out]
          show (ByteArray.mk (restOf ls (k + 1)).toArray).size < S.size
          rw [mk_size, HSS.out, HRL.out]
          omega
    · obtain ⟨hr0, hd0⟩ := rest_end ls k hge
      have hS0 : S = ⟨#[]⟩ := by rw [hS, hr0]
      obtain ⟨A0, c0', m, hob', hC', hnb⟩ := hWn.out.any
      rw [hd0, ← HSZ.out] at hob' hC' hnb
      have HD0 := Lib.hid hd0
      subst hS0
      clear hS nS sS hdk hr0 hd0
      obtain ⟨N', hN'⟩ : ∃ N', n + s.size = N' := ⟨_, rfl⟩
      rw [hN'] at hob' hC' hnb
      have hN16 : N' ≤ 16254 := by omega
      have HNN := Lib.hid hN'
      clear hN'
      obtain ⟨i0, hib, hz0, hz1, hz2⟩ := info_parts byte_info
      have c0 := hC'.get 0 _
      have f0 := hC'.froz 0 (by simp)
      have q1 := hC'.lt
      have hob := hob'.alloc (.cells #[.int .u8 0] 5)
      have hsrc := Src.ofSlice (P := Try.prog) (size := 1) (wr.alloc (.cells #[.int .u8 0] 5)) Try.underlying30 ⟨wr.heap.size, 0, none⟩ 1 1 [.int .u8 0] rfl (news_at wr #[.int .u8 0] 5) (by intro u hu; simp at hu; subst hu; rfl)
      go_wp2_with (at_builtin; go_loud (refine wpList_append_ob rfl _ _ 30 30 rfl 5 i0 _ 1 Try.underlying30 hib hz0 hz1 hz2 rfl hob rfl rfl hsrc (by unfold maxLen; omega) (by omega) ?_))
      intro v' w' h1 h2 h3 h4
      obtain ⟨A1, c1', rfl, -⟩ := h1.slice
      have hz : (wr.alloc (.cells #[.int .u8 0] 5)).heap.size = wr.heap.size + 1 := by simp
      have eb := (h3 b (by omega) (fun e => hnb e.symm)).trans (Below.heap_alloc wr _ b q1)
      have hc2 : Cs w' b [.slice A0 N' c0', m] := ⟨by omega, fun i hi => ⟨(World.cell?_of_block (w := wr) eb).trans (hC'.2 i hi).1, (World.frozen?_of_block (w := wr) eb).trans (hC'.2 i hi).2⟩⟩
      have k0 := hc2.get 0 _
      have j0 := hc2.froz 0 (by simp)
      have nb : (Value.slice A1 (N' + 1) c1').ownBlock ≠ some b := by
        rcases h4 with e | e
        · rw [e]; exact hnb
        · rw [e]; intro e2; injection e2 with e2; omega
      have hkk : ∀ k, k ≠ b → (w'.setCell ⟨b, 0, none⟩ (.slice A1 (N' + 1) c1')).heap[k]? = w'.heap[k]? := fun k hk => Below.heap_setCell w' ⟨b, 0, none⟩ _ k hk
      have hfin : OB B W (.slice A1 (N' + 1) c1') (n + s.size + 1) (l ++ s.data.toList.map bv ++ [bv 0]) (w'.setCell ⟨b, 0, none⟩ (.slice A1 (N' + 1) c1')) := by
        rw [HNN.out, HW.out, List.append_assoc]
        exact h1.block (h1.bel.setCell (p := ⟨b, 0, none⟩) hB _) (by simp) (fun k e => hkk k (fun e2 => nb (by rw [e, e2])))
      have HF := Lib.hid hfin
      have hset : Cs (w'.setCell ⟨b, 0, none⟩ (.slice A1 (N' + 1) c1')) b [.slice A1 (N' + 1) c1', m] := hc2.set0
      have HC2 := Lib.hid hset
      have HN := Lib.hid nb
      clear hfin nb hset
      go_wp2
      go_end0
      exact ⟨rfl, _, _, HF.out, HC2.out, HN.out⟩
end Go.Proofs.Ytliofipccicnfaa
