/- The contract of journal.Read. -/
import Derived.Test.YtidpffgdndjgpaaDoorJrnB
namespace Go.Proofs.YtidpffgdndjgpaaDoor
open Go.RowKit
set_option linter.unusedVariables false
set_option linter.unusedSimpArgs false
set_option maxRecDepth 20000
theorem Frm.many {l : List UInt8} {p : Nat} {xs : List (List UInt8)} (h : Frm l p xs) : xs.length * 6 ≤ l.length := by
  exact ahead_many h.1
theorem Cp.out {C B0 : Nat} {W1 W0 w : World} {ss : List (List UInt8)} {v : Value} {vals : List Value} (h : Cp B0 W0 ss v vals w) (hC : C ≤ B0) (h0 : Below C W1 W0) : Cp C W1 ss v vals w :=
  ⟨h.ob.out hC h0, fun i u s h1 h2 => (h.each i u s h1 h2).out hC h0, h.ne⟩
theorem Cp.one {B0 : Nat} {W0 w : World} {ss : List (List UInt8)} {v : Value} {vals : List Value} (h : Cp B0 W0 ss v vals w) : ∀ u ∈ vals, u.oneCell' = true := by
  intro u hu
  obtain ⟨i, hi⟩ := List.getElem?_of_mem hu
  have hl := (List.getElem?_eq_some_iff.1 hi).1
  rw [h.ob.len] at hl
  obtain ⟨A, c, rfl, -⟩ := (h.each i u _ hi (List.getElem?_eq_getElem hl)).slice
  rfl
theorem Cp.app {B0 : Nat} {W0 w w' : World} {ss ss' : List (List UInt8)} {v v2 v' : Value} {vals vals2 : List Value} (h : Cp B0 W0 ss v vals w) (h2 : Cp B0 W0 ss' v2 vals2 w) (hne : ∀ u ∈ vals2, ∀ k, u.ownBlock = some k → v.ownBlock ≠ some k)
    (ho : OB B0 W0 v' (ss.length + ss'.length) (vals ++ vals2) w') (hs : w.heap.size ≤ w'.heap.size) (hk : ∀ k, k < w.heap.size → some k ≠ v.ownBlock → w'.heap[k]? = w.heap[k]?) (hv : v'.ownBlock = v.ownBlock ∨ v'.ownBlock = some w.heap.size) :
    Cp B0 W0 (ss ++ ss') v' (vals ++ vals2) w' := by
  refine ⟨by rw [List.length_append]; exact ho, ?_, ?_⟩
  · intro i x t hi ht
    rw [List.getElem?_append] at hi ht
    by_cases hlt : i < vals.length
    · rw [if_pos hlt] at hi
      rw [if_pos (by rw [← h.ob.len]; exact hlt)] at ht
      have hoo := h.each i x t hi ht
      exact hoo.block ho.bel hs (fun k e => hk k (hoo.lt k e).2 (fun q => h.ne x (List.mem_of_getElem? hi) k e q.symm))
    · rw [if_neg hlt] at hi
      rw [if_neg (by rw [← h.ob.len]; exact hlt)] at ht
      rw [h.ob.len] at hi
      have hoo := h2.each _ x t hi ht
      exact hoo.block ho.bel hs (fun k e => hk k (hoo.lt k e).2 (fun q => hne x (List.mem_of_getElem? hi) k e q.symm))
  · intro x hx k e q
    have hxk : k < w.heap.size ∧ v.ownBlock ≠ some k := by
      rcases List.mem_append.1 hx with hx | hx
      · exact ⟨h.vlt x hx k e, h.ne x hx k e⟩
      · exact ⟨h2.vlt x hx k e, hne x hx k e⟩
    rcases hv with r | r
    · rw [r] at q; exact hxk.2 q
    · rw [r] at q; injection q with q; omega
/-- Whether all segments are read up to their ends. -/
def wholeB (fs : List (Nat × List (List UInt8))) (segs : List (List UInt8)) : Bool := (fs.zip segs).all fun x => x.1.1 == x.2.length
def FrmAll (fs : List (Nat × List (List UInt8))) (segs : List (List UInt8)) : Prop := fs.length = segs.length ∧ ∀ (i : Nat) (f : Nat × List (List UInt8)) (s : List UInt8), fs[i]? = some f → segs[i]? = some s → Frm s f.1 f.2
theorem FrmAll.snoc {fs : List (Nat × List (List UInt8))} {segs : List (List UInt8)} (h : FrmAll fs segs) {f : Nat × List (List UInt8)} {s : List UInt8} (hf : Frm s f.1 f.2) : FrmAll (fs ++ [f]) (segs ++ [s]) := by
  refine ⟨by simp [h.1], fun i f' s' h1 h2 => ?_⟩
  rw [List.getElem?_append] at h1 h2
  by_cases hlt : i < fs.length
  · rw [if_pos hlt] at h1
    rw [if_pos (by rw [← h.1]; exact hlt)] at h2
    exact h.2 i f' s' h1 h2
  · rw [if_neg hlt] at h1
    rw [if_neg (by rw [← h.1]; exact hlt)] at h2
    have e1 : f' = f := by have := List.mem_of_getElem? h1; simpa using this
    have e2 : s' = s := by have := List.mem_of_getElem? h2; simpa using this
    subst e1 e2
    exact hf
theorem wholeB_snoc {fs : List (Nat × List (List UInt8))} {segs : List (List UInt8)} (h : fs.length = segs.length) (f : Nat × List (List UInt8)) (s : List UInt8) : wholeB (fs ++ [f]) (segs ++ [s]) = (wholeB fs segs && (f.1 == s.length)) := by
  unfold wholeB
  rw [List.zip_append h]
  simp
theorem FrmAll.many : ∀ {fs : List (Nat × List (List UInt8))} {segs : List (List UInt8)}, FrmAll fs segs → (fs.flatMap (·.2)).length * 6 ≤ sumL segs := by
  intro fs
  induction fs with
  | nil => intro segs h; simp
  | cons f fs ih =>
    intro segs h
    match segs, h with
    | [], h => have := h.1; simp at this
    | s :: segs, h =>
      have h1 := ih (segs := segs) ⟨by simpa using h.1, fun i f' s' q1 q2 => h.2 (i + 1) f' s' (by simpa using q1) (by simpa using q2)⟩
      have h2 := (h.2 0 f s (by simp) (by simp)).many
      simp only [List.flatMap_cons, List.length_append]
      unfold sumL at *
      simp only [List.map_cons, List.sum_cons]
      omega
def IsRead (B0 : Nat) (W0 : World) (segs : List (List UInt8)) (e : Ending) (w : World) : Prop := ∃ v vs fs, e = .returned (.tuple #[v, .bool (wholeB fs segs)]) ∧ Cp B0 W0 (fs.flatMap (·.2)) v vs w ∧ FrmAll fs segs
section
variable {F : Nat → Prop} {B : Nat} {W : World} {d j : Nat} {segs : List (List UInt8)} {safe writes : Nat} {w w' : World}
set_option maxHeartbeats 1600000 in
theorem read_gen (h : DevE F B W d segs safe writes w) (hn : segs.length ≤ 5864062014634) (hb : ∀ x ∈ segs, x.length ≤ 140737488355328) (hX : ∀ x ∈ segs, ∀ p xs, Ahead x p xs → xs.length ≤ 4194304) (hR : ∀ k fs, FrmAll fs (segs.take k) → (fs.flatMap (·.2)).length ≤ 5000000000000) :
    Calls Tryd.prog 9 #[.pointer (some ⟨d, 0, none⟩)] w (IsRead w.heap.size w segs) := by
  obtain ⟨i0, hi, hz0, hz1, hz2⟩ := info_parts seg_info
  have SG := Lib.hid (segments_any h hn hb)
  have HB := Lib.hid hb
  have HX := Lib.hid hX
  have HR := Lib.hid hR
  clear h hb hX hR
  go_enter Tryd.func9, Tryd.ntmps9
  go_wp2_with fail
  refine SG.out.mono ?_
  clear SG
  rintro e w1 ⟨vS, valsS, rfl, hcpS⟩
  obtain ⟨AS, cS, rfl, -⟩ := hcpS.ob.slice
  have HS := Lib.hid hcpS
  have h0 : Hid (Cp w1.heap.size w1 [] (.slice none 0 0) [] w1) := Lib.hid (Cp.start w1)
  clear hcpS
  go_wp2_with fail
  go_loopw [4, 5, 13] (fun o b i wr => ∃ k : Nat, k ≤ segs.length ∧ i = .int .i64 k ∧ ∃ fs rows vs, b = .bool (wholeB fs (segs.take k)) ∧ Hid (Cp w1.heap.size w1 rows o vs wr) ∧ Hid (FrmAll fs (segs.take k)) ∧ Hid (rows = fs.flatMap (·.2))) (fun _ _ i _ => segs.length - (intOf i).toNat)
  case atStart => exact ⟨0, Nat.zero_le _, rfl, [], [], [], rfl, h0, Lib.hid ⟨rfl, by intro i f s h; simp at h⟩, Lib.hid rfl⟩
  case round =>
    obtain ⟨k, hk, rfl, fs, rows, vs, rfl, hcp, hfa, hro⟩ := hrel
    have hbel := hcp.out.ob.bel
    have hbas := hcp.out.ob.base
    by_cases hlt : k < segs.length
    · have hlt' : (k : Int) < segs.length := by omega
      obtain ⟨g, A, c, cap, hvv, -, q6, c6, k1, k2, k3, ks⟩ := HS.out.at_ k hlt
      injection hvv with hv1 hv2 hv3
      subst hv1
      obtain ⟨s, hs⟩ : ∃ s, s = segs[k] := ⟨_, rfl⟩
      rw [← hs] at c6 k1 k3 ks
      have c7 := (hbel.cell (p := ⟨g, k, none⟩) q6).trans c6
      have q7 : g < wr.heap.size := Nat.lt_of_lt_of_le q6 hbas
      have hsl : s.length ≤ 140737488355328 := by rw [hs]; exact HB.out _ (List.getElem_mem hlt)
      have hsX : ∀ p xs, Ahead s p xs → xs.length ≤ 4194304 := by rw [hs]; exact HX.out _ (List.getElem_mem hlt)
      have AL := Lib.hid (all_gen A s.length c s wr ((ks.sl.below hbel).more hbas) k3 k1 hsl hsX)
      have htk : segs.take (k + 1) = segs.take k ++ [s] := by rw [hs]; exact List.take_succ_eq_append_getElem hlt
      have HTK := Lib.hid htk
      obtain ⟨Ao, co, rfl, -⟩ := hcp.out.ob.slice
      have hi2 : IntKind.i64.wrap ((k : Int) + 1) = (k : Int) + 1 := IntWalk.i64_in _ (by unfold maxLen at k2; omega)
      clear hbel hbas ks k1 k2 k3 c6 q6 hs htk hv2 hv3 hsX
      go_wp2_with fail
      refine AL.out.mono ?_
      clear AL
      rintro e w2 ⟨v2, xs, p, vs2, rfl, hcp2, hfr⟩
      have hb2 := hcp2.ob.bel
      have hcp3 := hcp.out.keep hb2
      have hcp4 := hcp2.out hcp.out.ob.base hcp.out.ob.bel
      obtain ⟨A2, c2, rfl, -, -, hA2⟩ := hcp4.ob.slice
      have hne : ∀ u ∈ vs2, ∀ q, u.ownBlock = some q → (Value.slice Ao rows.length co).ownBlock ≠ some q := by
        intro u hu q e1 e2
        obtain ⟨i, hi'⟩ := List.getElem?_of_mem hu
        have hl := (List.getElem?_eq_some_iff.1 hi').1
        rw [hcp2.ob.len] at hl
        have r1 := ((hcp2.each i u _ hi' (List.getElem?_eq_getElem hl)).lt q e1).1
        have r2 := (hcp.out.ob.lt q e2).2
        omega
      have hsrc := Sl.src (P := Tryd.prog) Tryd.underlying27 hcp4.ob.sl (fun e => (hA2 e).1) hcp4.one (c := c2)
      have hmany := HR.out (k + 1) _ (by rw [HTK.out]; exact hfa.out.snoc (f := (p, xs)) hfr)
      simp only [List.flatMap_append, List.flatMap_cons, List.flatMap_nil, List.append_nil, List.length_append] at hmany
      rw [← hro.out] at hmany
      have hob3 := hcp3.ob
      have HC3 := Lib.hid hcp3
      have HC4 := Lib.hid hcp4
      have HNE := Lib.hid hne
      have HFR := Lib.hid hfr
      clear hcp2 hb2 hcp3 hcp4 hne hfr c7 q7
      go_wp2_with (at_builtin; go_loud (refine wpList_append_ob rfl _ _ 27 27 rfl 32 i0 _ 24 Tryd.underlying27 hi hz0 hz1 hz2 rfl hob3 rfl rfl hsrc (by unfold maxLen; omega) (by omega) ?_))
      intro v' w5 o1 o2 o3 o4
      have hfin := HC3.out.app HC4.out HNE.out o1 o2 o3 o4
      have hro2 := Lib.hid (show rows ++ xs = (fs ++ [(p, xs)]).flatMap (·.2) by rw [hro.out]; simp)
      have HF := Lib.hid hfin
      have hfa2 := Lib.hid (hfa.out.snoc (f := (p, xs)) HFR.out)
      have hw2 := wholeB_snoc hfa.out.1 (p, xs) s
      have HW2 := Lib.hid hw2
      clear hfin o1 o2 o3 o4 hsrc hob3 hw2
      cases hwb : wholeB fs (segs.take k) with
      | false =>
        rw [hwb] at HW2
        clear hwb
        go_wp2_with fail
        go_roundw
        case rel => exact ⟨k + 1, by omega, by go_num, fs ++ [(p, xs)], _, _, by rw [HTK.out, HW2.out]; rfl, HF, by rw [HTK.out]; exact hfa2, hro2⟩
        case measure => simp [intOf]; omega
      | true =>
        rw [hwb] at HW2
        clear hwb
        by_cases hps : p = s.length
        · have hps1 : ((p : Int) == (s.length : Int)) = true := by simp; omega
          have hps2 : (p == s.length) = true := by simp; exact hps
          have HPS2 := Lib.hid hps2
          clear hps hps2
          go_wp2_with fail
          go_roundw
          case rel => exact ⟨k + 1, by omega, by go_num, fs ++ [(p, xs)], _, _, by rw [HTK.out, HW2.out, HPS2.out]; rfl, HF, by rw [HTK.out]; exact hfa2, hro2⟩
          case measure => simp [intOf]; omega
        · have hps1 : ((p : Int) == (s.length : Int)) = false := by simp; omega
          have hps2 : (p == s.length) = false := by simp; exact hps
          have HPS2 := Lib.hid hps2
          clear hps hps2
          go_wp2_with fail
          go_roundw
          case rel => exact ⟨k + 1, by omega, by go_num, fs ++ [(p, xs)], _, _, by rw [HTK.out, HW2.out, HPS2.out]; rfl, HF, by rw [HTK.out]; exact hfa2, hro2⟩
          case measure => simp [intOf]; omega
    · have hlt' : ¬ (k : Int) < segs.length := by omega
      have hf2 := hfa.out
      rw [List.take_of_length_le (by omega)] at hf2
      have HF2 := Lib.hid hf2
      have hc1 := hcp.out.out HS.out.ob.base HS.out.ob.bel
      rw [hro.out] at hc1
      have hc2 := Lib.hid hc1
      clear hc1
      clear hf2 hbel hbas
      go_wp2_with fail
      go_ret2
      refine ⟨_, _, fs, ?_, hc2.out, HF2.out⟩
      rw [List.take_of_length_le (by omega)]
      rfl
theorem read_any (h : DevE F B W d segs safe writes w) (hn : segs.length ≤ 5864062014634) (hb : ∀ x ∈ segs, x.length ≤ 4194304) (hsum : sumL segs ≤ 30000000000000) :
    Calls Tryd.prog 9 #[.pointer (some ⟨d, 0, none⟩)] w (IsRead w.heap.size w segs) :=
  read_gen h hn (fun x hx => by have := hb x hx; omega) (fun x hx p xs hax => by have h1 := ahead_many hax; have h2 := hb x hx; omega) (fun k fs hf => by
    have h1 := hf.many
    have h2 := sumL_append (segs.take k) (segs.drop k)
    rw [List.take_append_drop] at h2
    omega)
end
end Go.Proofs.YtidpffgdndjgpaaDoor
