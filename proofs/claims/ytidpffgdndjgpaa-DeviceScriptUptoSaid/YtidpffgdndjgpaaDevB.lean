/- The contracts of a device's Append, Sync, Cut and Crash. -/
import Derived.Test.YtidpffgdndjgpaaDevA
namespace Go.Proofs.Ytidpffgdndjgpaa
open Go.RowKit
set_option linter.unusedVariables false
set_option maxRecDepth 20000
section
variable {F : Nat → Prop} {B : Nat} {W : World} {d : Nat} {segs : List (List UInt8)} {safe writes : Nat} {w : World}
theorem devb_info : (Try.prog.info? 5).map (fun i => (i.zero, i.size, i.bytes)) = some (some (.int .u8 0), 1, 1) := by kernel_rfl
/-- What 'append' does to the segments. -/
def appS (segs : List (List UInt8)) (l : List UInt8) : List (List UInt8) := if segs = [] then [l] else segs.dropLast ++ [segs.getLast?.getD [] ++ l]
theorem appS_nil (l : List UInt8) : appS [] l = [l] := rfl
theorem appS_snoc (init : List (List UInt8)) (s l : List UInt8) : appS (init ++ [s]) l = init ++ [s ++ l] := by simp [appS]
set_option maxHeartbeats 1600000 in
theorem append_any (A : Option Addr) (n c C : Nat) (l : List UInt8) (hA : Sl w C 1 A n (l.map bv)) (hA0 : A = none → n = 0) (hF : ∀ a, A = some a → 0 < n → F a.block) (h : DevE F B W d segs safe writes w) (hlen : lastN segs + n ≤ 140737488355328) (hsegs : segs.length ≤ 5864062014634) (hw : writes ≤ 4611686018427387904) :
    Calls Try.prog 8 #[.pointer (some ⟨d, 0, none⟩), .slice A n c] w fun e w' => e = .returned (.tuple #[]) ∧ DevE F B W d (appS segs l) (if segs = [] then 0 else safe) (writes + 1) w' ∧ Keep F w w' := by
  have hl : l.length = n := by simpa using hA.1
  obtain ⟨i0, hi, hz0, hz1, hz2⟩ := info_parts devb_info
  obtain ⟨SV, vals, h⟩ := h
  have c0 := h.cs.get 0 _
  have q0 := h.cs.lt
  have HL := Lib.hid hl
  clear hl
  rcases segs_cases segs with rfl | ⟨init, s, rfl⟩
  · rw [appS_nil, if_pos rfl]
    have BG := Lib.hid (fun (_ : Unit) => begin_any ⟨SV, vals, h⟩ (by simp))
    rcases h.none with rfl | ⟨g0, cap0, rfl⟩
    all_goals
    clear h
    go_enter Try.func8, Try.ntmps8
    go_wp2_with fail
    refine (BG.out ()).mono ?_
    clear c0 q0
    rintro e w1 ⟨rfl, ⟨SV, vals, h⟩, hK⟩
    have hA := hK.sl hA hF
    have HK0 := Lib.hid hK
    obtain ⟨init, hin⟩ : ∃ init, init = ([] : List (List UInt8)) := ⟨_, rfl⟩
    obtain ⟨s, hs⟩ : ∃ s, s = ([] : List UInt8) := ⟨_, rfl⟩
    have h : Dev F B W d SV vals (init ++ [s]) 0 writes w1 := by rw [hin, hs]; exact h
    have c0 := h.cs.get 0 _
    have q0 := h.cs.lt
    have hsl : s.length = 0 := by rw [hs]; rfl
    have hlen' : s.length + n ≤ 140737488355328 := by rw [hsl]; simp [lastN] at hlen; omega
    have HIN := Lib.hid hin
    have HS := Lib.hid hs
    clear hK hin hs hlen hsl BG
    obtain ⟨g, cap, A2, c2, rfl, hv, c1, f1, h1, h2, h3, h4, h5⟩ := h.last
    have hi1 : IntKind.i64.wrap ((init.length : Int) + 1 - 1) = init.length := by rw [IntWalk.i64_in _ (by unfold maxLen at h5; omega)]; omega
    have hlt : init.length < init.length + 1 := by omega
    have ho := h.each _ _ _ hv (show (init ++ [s])[init.length]? = some s by simp)
    unfold maxLen at h2 h5
    have H := Lib.hid h
    have HV := Lib.hid hv
    clear h h3 hv
    go_wp2_with fail
    go_quiet (fail)
    have hd1 := H.out.move (w' := w1.drewN nq) (H.out.ob.drewN nq).bel (Nat.le_refl _) (fun _ _ _ => rfl)
    have hk1 : Keep F w1 (w1.drewN nq) := ⟨Nat.le_refl _, fun _ _ => rfl⟩
    have ho1 := ho.drewN nq
    have hA1 := hA.drewN nq
    have x0 : (w1.drewN nq).cell? ⟨d, 0, none⟩ = some (.slice (some ⟨g, 0, none⟩) (init.length + 1) cap) := c0
    have x1 : (w1.drewN nq).cell? ⟨g, init.length, none⟩ = some (.slice A2 s.length c2) := c1
    have x2 : (w1.drewN nq).frozen? ⟨g, init.length, none⟩ = false := f1
    generalize w1.drewN nq = W1 at *
    clear ho c0 c1 f1 hA
    have hsrc := Sl.src (P := Try.prog) Try.underlying23 hA1 hA0 (one_bytes l) (c := c)
    go_wp2_with (at_builtin; go_loud (refine wpList_append_ob rfl _ _ 23 23 rfl 5 i0 _ 1 Try.underlying23 hi hz0 hz1 hz2 rfl ho1 rfl rfl hsrc (by unfold maxLen; omega) (by omega) ?_))
    intro v' w' o1 o2 o3 o4
    obtain ⟨A3, c3, rfl, -⟩ := o1.slice
    have o1' : OB B W (.slice A3 (s.length + n) c3) (s ++ l).length ((s ++ l).map bv) w' := by rw [List.length_append, HL.out, List.map_append]; exact o1
    obtain ⟨hd2, hk2⟩ := hd1.setLast (by simp) HV.out (s ++ l) o1' o2 o3 (fun k e => by
      rcases o4 with q | q
      · exact .inl (by rw [← q]; exact e)
      · rw [q] at e; injection e with e; exact .inr (by omega))
    obtain ⟨hd3, hk3⟩ := hd2.setWrites (writes + 1)
    have hgg := hd1.ob.lt g rfl
    have hvs := hd1.vs _ (List.mem_of_getElem? HV.out)
    have e1 : w'.heap[g]? = W1.heap[g]? := o3 g hgg.2 (fun e => hvs g e.symm rfl)
    have k0 : w'.cell? ⟨g, init.length, none⟩ = some (.slice A2 s.length c2) := (World.cell?_of_block (w := W1) e1).trans x1
    have j0 : w'.frozen? ⟨g, init.length, none⟩ = false := (World.frozen?_of_block (w := W1) (a := ⟨g, init.length, none⟩) e1).trans x2
    have m0 := hd2.cs.get 2 _
    have m1 := hd2.cs.froz 2 (by simp)
    have m2 := hd2.cs.lt
    have hfin : DevE F B W d (init ++ [s ++ l]) 0 (writes + 1) ((w'.setCell ⟨g, init.length, none⟩ (.slice A3 (s.length + n) c3)).setCell ⟨d, 2, none⟩ (.int .i64 ((writes + 1 : Nat) : Int))) := by
      rw [show (init ++ [s]).set init.length (s ++ l) = init ++ [s ++ l] by simp] at hd3
      exact ⟨_, _, hd3⟩
    have HD := Lib.hid hfin
    have HK := Lib.hid ((hk1.trans hk2).trans hk3)
    have hw1 : IntKind.i64.wrap ((writes : Int) + 1) = ((writes + 1 : Nat) : Int) := by rw [IntWalk.i64_in _ (by omega)]; rfl
    clear hd1 hd2 hd3 hk1 hk2 hk3 o1 o2 o3 o4 o1' hfin e1 hvs hgg x0 x1 x2 hsrc ho1 hA1
    go_wp2
    go_end0
    rw [show ([l] : List (List UInt8)) = init ++ [s ++ l] by rw [HIN.out, HS.out]; rfl]
    exact ⟨rfl, HD.out, HK0.out.trans HK.out⟩
  · rw [lastN_snoc] at hlen
    rw [appS_snoc, if_neg (by simp)]
    clear hsegs
    obtain ⟨g, cap, A2, c2, rfl, hv, c1, f1, h1, h2, h3, h4, h5⟩ := h.last
    have hi1 : IntKind.i64.wrap ((init.length : Int) + 1 - 1) = init.length := by rw [IntWalk.i64_in _ (by unfold maxLen at h5; omega)]; omega
    have hlt : init.length < init.length + 1 := by omega
    have ho := h.each _ _ _ hv (show (init ++ [s])[init.length]? = some s by simp)
    unfold maxLen at h2 h5
    have H := Lib.hid h
    have HV := Lib.hid hv
    clear h h3 hv
    go_enter Try.func8, Try.ntmps8
    go_wp2_with fail
    go_quiet (fail)
    have hd1 := H.out.move (w' := w.drewN nq) (H.out.ob.drewN nq).bel (Nat.le_refl _) (fun _ _ _ => rfl)
    have hk1 : Keep F w (w.drewN nq) := ⟨Nat.le_refl _, fun _ _ => rfl⟩
    have ho1 := ho.drewN nq
    have hA1 := hA.drewN nq
    have x0 : (w.drewN nq).cell? ⟨d, 0, none⟩ = some (.slice (some ⟨g, 0, none⟩) (init.length + 1) cap) := c0
    have x1 : (w.drewN nq).cell? ⟨g, init.length, none⟩ = some (.slice A2 s.length c2) := c1
    have x2 : (w.drewN nq).frozen? ⟨g, init.length, none⟩ = false := f1
    generalize w.drewN nq = W1 at *
    clear ho c0 c1 f1 hA
    have hsrc := Sl.src (P := Try.prog) Try.underlying23 hA1 hA0 (one_bytes l) (c := c)
    go_wp2_with (at_builtin; go_loud (refine wpList_append_ob rfl _ _ 23 23 rfl 5 i0 _ 1 Try.underlying23 hi hz0 hz1 hz2 rfl ho1 rfl rfl hsrc (by unfold maxLen; omega) (by omega) ?_))
    intro v' w' o1 o2 o3 o4
    obtain ⟨A3, c3, rfl, -⟩ := o1.slice
    have o1' : OB B W (.slice A3 (s.length + n) c3) (s ++ l).length ((s ++ l).map bv) w' := by rw [List.length_append, HL.out, List.map_append]; exact o1
    obtain ⟨hd2, hk2⟩ := hd1.setLast (by simp) HV.out (s ++ l) o1' o2 o3 (fun k e => by
      rcases o4 with q | q
      · exact .inl (by rw [← q]; exact e)
      · rw [q] at e; injection e with e; exact .inr (by omega))
    obtain ⟨hd3, hk3⟩ := hd2.setWrites (writes + 1)
    have hgg := hd1.ob.lt g rfl
    have hvs := hd1.vs _ (List.mem_of_getElem? HV.out)
    have e1 : w'.heap[g]? = W1.heap[g]? := o3 g hgg.2 (fun e => hvs g e.symm rfl)
    have k0 : w'.cell? ⟨g, init.length, none⟩ = some (.slice A2 s.length c2) := (World.cell?_of_block (w := W1) e1).trans x1
    have j0 : w'.frozen? ⟨g, init.length, none⟩ = false := (World.frozen?_of_block (w := W1) (a := ⟨g, init.length, none⟩) e1).trans x2
    have m0 := hd2.cs.get 2 _
    have m1 := hd2.cs.froz 2 (by simp)
    have m2 := hd2.cs.lt
    have hfin : DevE F B W d (init ++ [s ++ l]) safe (writes + 1) ((w'.setCell ⟨g, init.length, none⟩ (.slice A3 (s.length + n) c3)).setCell ⟨d, 2, none⟩ (.int .i64 ((writes + 1 : Nat) : Int))) := by
      rw [show (init ++ [s]).set init.length (s ++ l) = init ++ [s ++ l] by simp] at hd3
      exact ⟨_, _, hd3⟩
    have HD := Lib.hid hfin
    have HK := Lib.hid ((hk1.trans hk2).trans hk3)
    have hw1 : IntKind.i64.wrap ((writes : Int) + 1) = ((writes + 1 : Nat) : Int) := by rw [IntWalk.i64_in _ (by omega)]; rfl
    clear hd1 hd2 hd3 hk1 hk2 hk3 o1 o2 o3 o4 o1' hfin e1 hvs hgg x0 x1 x2 hsrc ho1 hA1
    go_wp2
    go_end0
    exact ⟨rfl, HD.out, HK.out⟩
/-- What 'cut' does to the segments. -/
def cutS (segs : List (List UInt8)) (m : Nat) : List (List UInt8) := if segs = [] then [] else segs.dropLast ++ [(segs.getLast?.getD []).take m]
theorem cutS_nil (m : Nat) : cutS [] m = [] := rfl
theorem cutS_snoc (init : List (List UInt8)) (s : List UInt8) (m : Nat) : cutS (init ++ [s]) m = init ++ [s.take m] := by simp [cutS]
theorem cutS_len (segs : List (List UInt8)) (m : Nat) : (cutS segs m).length = segs.length := by
  rcases segs_cases segs with rfl | ⟨init, s, rfl⟩
  · rfl
  · rw [cutS_snoc]; simp
theorem cutS_last (segs : List (List UInt8)) (m : Nat) : lastN (cutS segs m) = min m (lastN segs) := by
  rcases segs_cases segs with rfl | ⟨init, s, rfl⟩
  · simp [cutS, lastN]
  · rw [cutS_snoc, lastN_snoc, lastN_snoc]; simp
theorem cutS_all (segs : List (List UInt8)) (m : Nat) (h : lastN segs ≤ m) : cutS segs m = segs := by
  rcases segs_cases segs with rfl | ⟨init, s, rfl⟩
  · rfl
  · rw [cutS_snoc, List.take_of_length_le (by rw [lastN_snoc] at h; exact h)]
theorem DevE.lastLe (h : DevE F B W d segs safe writes w) : lastN segs ≤ maxLen := by
  obtain ⟨SV, vals, h⟩ := h
  rcases segs_cases segs with rfl | ⟨init, s, rfl⟩
  · simp [lastN]
  · obtain ⟨g, cap, A2, c2, rfl, hv, c1, f1, h1, h2, h3, h4, h5⟩ := h.last
    rw [lastN_snoc]; omega
theorem DevE.keep {w' : World} (h : DevE F B W d segs safe writes w) (hb : Below w.heap.size w w') : DevE F B W d segs safe writes w' := by
  obtain ⟨SV, vals, h⟩ := h; exact ⟨_, _, h.keep hb⟩
theorem DevE.fl (h : DevE F B W d segs safe writes w) : ∀ k, F k → k < w.heap.size := by
  obtain ⟨SV, vals, h⟩ := h; exact h.fl
theorem DevE.drewN (h : DevE F B W d segs safe writes w) (k : Nat) : DevE F B W d segs safe writes (w.drewN k) := by
  obtain ⟨SV, vals, h⟩ := h; exact ⟨_, _, h.move (w' := w.drewN k) (h.ob.drewN k).bel (Nat.le_refl _) (fun _ _ _ => rfl)⟩
theorem Keep.drewN (F : Nat → Prop) (w : World) (k : Nat) : Keep F w (w.drewN k) := ⟨Nat.le_refl _, fun _ _ => rfl⟩
theorem sync_any (h : DevE F B W d segs safe writes w) :
    Calls Try.prog 15 #[.pointer (some ⟨d, 0, none⟩)] w fun e w' => e = .returned (.tuple #[]) ∧ DevE F B W d segs (lastN segs) writes w' ∧ Keep F w w' := by
  have hl := h.lastLe
  obtain ⟨L, hL⟩ : ∃ L, L = lastN segs := ⟨_, rfl⟩
  have LA := Lib.hid (last_any h)
  rw [← hL] at LA hl ⊢
  have HD := Lib.hid h
  clear h hL
  go_enter Try.func15, Try.ntmps15
  go_wp2_with fail
  refine LA.out.mono ?_
  rintro e w1 ⟨rfl, k, rfl⟩
  have h1 := HD.out.drewN k
  have hk1 := Keep.drewN F w k
  generalize w.drewN k = W1 at *
  obtain ⟨SV, vals, h1⟩ := h1
  have c1 := h1.cs.get 1 _
  have f1 := h1.cs.froz 1 (by simp)
  have q1 := h1.cs.lt
  obtain ⟨h2, hk2⟩ := h1.setSafe L
  have H2 := Lib.hid h2
  have HK := Lib.hid (hk1.trans hk2)
  clear h1 h2 hk1 hk2
  go_wp2
  go_end0
  exact ⟨rfl, ⟨_, _, H2.out⟩, HK.out⟩
set_option maxHeartbeats 1600000 in
theorem cut_nat (m : Nat) (hm : m ≤ 9223372036854775807) (h : DevE F B W d segs safe writes w) (hs : safe ≤ lastN segs) :
    Calls Try.prog 21 #[.pointer (some ⟨d, 0, none⟩), .int .i64 m] w fun e w' => e = .returned (.tuple #[]) ∧ DevE F B W d (cutS segs m) (min safe m) writes w' ∧ Keep F w w' := by
  have hn0 : ¬ (m : Int) < 0 := by omega
  have hll := h.lastLe
  have LA := Lib.hid (last_any h)
  obtain ⟨L, hL⟩ : ∃ L, L = lastN segs := ⟨_, rfl⟩
  rw [← hL] at LA hll hs
  rcases Nat.lt_or_ge m L with hlt | hge
  · rcases segs_cases segs with rfl | ⟨init, s, rfl⟩
    · simp [lastN] at hL; omega
    rw [lastN_snoc] at hL
    rw [cutS_snoc]
    have HD := Lib.hid h
    have hlt' : ¬ (L : Int) ≤ (m : Int) := by omega
    have hm0 : (0 : Int) ≤ (m : Int) := by omega
    have hHL := Lib.hid hL
    clear h hL
    go_enter Try.func21, Try.ntmps21
    go_wp2_with fail
    refine LA.out.mono ?_
    rintro e w1 ⟨rfl, q, rfl⟩
    have h1 := HD.out.drewN q
    have hk1 := Keep.drewN F w q
    generalize w.drewN q = W1 at *
    obtain ⟨SV, vals, h1⟩ := h1
    obtain ⟨g, cap, A2, c2, rfl, hv, c1, f1, e1, e2, e3, e4, e5⟩ := h1.last
    have c0 := h1.cs.get 0 _
    have q0 := h1.cs.lt
    have hi1 : IntKind.i64.wrap ((init.length : Int) + 1 - 1) = init.length := by rw [IntWalk.i64_in _ (by unfold maxLen at e5; omega)]; omega
    have hlt2 : init.length < init.length + 1 := by omega
    rw [← hHL.out] at hv c1 e1 e3
    have ho := h1.each _ _ _ hv (show (init ++ [s])[init.length]? = some s by simp)
    have HV := Lib.hid hv
    have H1 := Lib.hid h1
    clear hv h1
    unfold maxLen at e2 e5
    go_wp2_with fail
    go_quiet (fail)
    have h2 := H1.out.move (w' := W1.drewN nq) (H1.out.ob.drewN nq).bel (Nat.le_refl _) (fun _ _ _ => rfl)
    have hk2 := hk1.trans (Keep.drewN F W1 nq)
    have ho2 := ho.drewN nq
    have x1 : (W1.drewN nq).cell? ⟨g, init.length, none⟩ = some (.slice A2 L c2) := c1
    have x2 : (W1.drewN nq).frozen? ⟨g, init.length, none⟩ = false := f1
    generalize W1.drewN nq = W2 at *
    clear ho c0 c1 f1 hk1 H1 HD LA
    rcases ho2.own with ⟨hn, -⟩ | ⟨g2, cap2, hn, -, -, -⟩
    · injection hn with hn1 hn2 hn3; omega
    injection hn with hn1 hn2 hn3
    subst hn1
    clear hn2 hn3
    have ho3 : OB B W (.slice (some ⟨g2, 0, none⟩) m c2) (s.take m).length ((s.take m).map bv) W2 := by
      have hsl := hHL.out
      rcases ho2.own with ⟨hn, -⟩ | ⟨g3, cap3, hn, r1, r2, r3, r4, r5, r6⟩
      · cases hn
      · injection hn with hn1 hn2 hn3
        injection hn1 with hn1; injection hn1 with hn1
        subst hn1 hn3
        refine ⟨ho2.bel, ho2.base, by simp, .inr ⟨g2, c2, ?_, r1, r2, by rw [List.length_take]; omega, r4, r5, fun j u hu => r6 j u ?_⟩⟩
        · rw [List.length_take, ← hsl, Nat.min_eq_left (by omega)]
        · rw [List.map_take, List.getElem?_take] at hu
          split at hu
          · exact hu
          · cases hu
    obtain ⟨h3, hk3⟩ := h2.setLast (by simp) HV.out (s.take m) ho3 (Nat.le_refl _) (fun _ _ _ => rfl) (fun k e => .inl e)
    rw [show (init ++ [s]).set init.length (s.take m) = init ++ [s.take m] by simp] at h3
    have m0 := h3.cs.get 1 _
    have m1 := h3.cs.froz 1 (by simp)
    have m2 := h3.cs.lt
    obtain ⟨h4, hk4⟩ := h3.setSafe (min safe m)
    have H4 := Lib.hid h4
    have HK := Lib.hid ((hk2.trans hk3).trans hk4)
    have hLc : (L : Int) ≤ c2 := by omega
    have hmc : (m : Int) ≤ (c2 : Int) := by omega
    clear h2 h3 h4 hk2 hk3 hk4 HV ho2 ho3 hHL
    have hmin : min (safe : Int) (m : Int) = ((min safe m : Nat) : Int) := by omega
    go_wp2
    all_goals
      first | (have e : min safe m = safe := by omega); (rw [e] at H4 HK ⊢) | (have e : min safe m = m := by omega); (rw [e] at H4 HK ⊢)
      go_end0
      exact ⟨rfl, ⟨_, _, H4.out⟩, HK.out⟩
  · rw [cutS_all _ _ (by omega), Nat.min_eq_left (by omega)]
    have HD := Lib.hid h
    have hge' : (L : Int) ≤ (m : Int) := by omega
    have hm0 : (0 : Int) ≤ (m : Int) := by omega
    clear h hL
    go_enter Try.func21, Try.ntmps21
    go_wp2_with fail
    refine LA.out.mono ?_
    rintro e w1 ⟨rfl, q, rfl⟩
    have h1 := Lib.hid (HD.out.drewN q)
    have hk1 := Lib.hid (Keep.drewN F w q)
    go_wp2_with fail
    refine bodyPost_ret (v := .tuple #[]) (by simp [results, Try.results21, go_sem]) rfl ?_
    exact ⟨rfl, h1.out, hk1.out⟩
set_option maxHeartbeats 1600000 in
theorem cut_neg (k : Int) (hk : k < 0) (h : DevE F B W d segs safe writes w) (hs : safe ≤ lastN segs) :
    Calls Try.prog 21 #[.pointer (some ⟨d, 0, none⟩), .int .i64 k] w fun e w' => e = .returned (.tuple #[]) ∧ DevE F B W d (cutS segs 0) (min safe 0) writes w' ∧ Keep F w w' := by
  have hll := h.lastLe
  have LA := Lib.hid (last_any h)
  obtain ⟨L, hL⟩ : ∃ L, L = lastN segs := ⟨_, rfl⟩
  rw [← hL] at LA hll hs
  rcases Nat.lt_or_ge 0 L with hlt | hge
  · rcases segs_cases segs with rfl | ⟨init, s, rfl⟩
    · simp [lastN] at hL; omega
    rw [lastN_snoc] at hL
    rw [cutS_snoc]
    have HD := Lib.hid h
    have hlt' : ¬ (L : Int) ≤ (0 : Int) := by omega
    have hm0 : (0 : Int) ≤ (0 : Int) := by omega
    have hHL := Lib.hid hL
    clear h hL
    go_enter Try.func21, Try.ntmps21
    go_wp2_with fail
    refine LA.out.mono ?_
    rintro e w1 ⟨rfl, q, rfl⟩
    have h1 := HD.out.drewN q
    have hk1 := Keep.drewN F w q
    generalize w.drewN q = W1 at *
    obtain ⟨SV, vals, h1⟩ := h1
    obtain ⟨g, cap, A2, c2, rfl, hv, c1, f1, e1, e2, e3, e4, e5⟩ := h1.last
    have c0 := h1.cs.get 0 _
    have q0 := h1.cs.lt
    have hi1 : IntKind.i64.wrap ((init.length : Int) + 1 - 1) = init.length := by rw [IntWalk.i64_in _ (by unfold maxLen at e5; omega)]; omega
    have hlt2 : init.length < init.length + 1 := by omega
    rw [← hHL.out] at hv c1 e1 e3
    have ho := h1.each _ _ _ hv (show (init ++ [s])[init.length]? = some s by simp)
    have HV := Lib.hid hv
    have H1 := Lib.hid h1
    clear hv h1
    unfold maxLen at e2 e5
    go_wp2_with fail
    go_quiet (fail)
    have h2 := H1.out.move (w' := W1.drewN nq) (H1.out.ob.drewN nq).bel (Nat.le_refl _) (fun _ _ _ => rfl)
    have hk2 := hk1.trans (Keep.drewN F W1 nq)
    have ho2 := ho.drewN nq
    have x1 : (W1.drewN nq).cell? ⟨g, init.length, none⟩ = some (.slice A2 L c2) := c1
    have x2 : (W1.drewN nq).frozen? ⟨g, init.length, none⟩ = false := f1
    generalize W1.drewN nq = W2 at *
    clear ho c0 c1 f1 hk1 H1 HD LA
    rcases ho2.own with ⟨hn, -⟩ | ⟨g2, cap2, hn, -, -, -⟩
    · injection hn with hn1 hn2 hn3; omega
    injection hn with hn1 hn2 hn3
    subst hn1
    clear hn2 hn3
    have ho3 : OB B W (.slice (some ⟨g2, 0, none⟩) 0 c2) (s.take 0).length ((s.take 0).map bv) W2 := by
      have hsl := hHL.out
      rcases ho2.own with ⟨hn, -⟩ | ⟨g3, cap3, hn, r1, r2, r3, r4, r5, r6⟩
      · cases hn
      · injection hn with hn1 hn2 hn3
        injection hn1 with hn1; injection hn1 with hn1
        subst hn1 hn3
        refine ⟨ho2.bel, ho2.base, by simp, .inr ⟨g2, c2, ?_, r1, r2, by rw [List.length_take]; omega, r4, r5, fun j u hu => r6 j u ?_⟩⟩
        · rw [List.length_take, ← hsl, Nat.min_eq_left (by omega)]
        · rw [List.map_take, List.getElem?_take] at hu
          split at hu
          · exact hu
          · cases hu
    obtain ⟨h3, hk3⟩ := h2.setLast (by simp) HV.out (s.take 0) ho3 (Nat.le_refl _) (fun _ _ _ => rfl) (fun k e => .inl e)
    rw [show (init ++ [s]).set init.length (s.take 0) = init ++ [s.take 0] by simp] at h3
    have m0 := h3.cs.get 1 _
    have m1 := h3.cs.froz 1 (by simp)
    have m2 := h3.cs.lt
    obtain ⟨h4, hk4⟩ := h3.setSafe (min safe 0)
    have H4 := Lib.hid h4
    have HK := Lib.hid ((hk2.trans hk3).trans hk4)
    have hLc : (L : Int) ≤ c2 := by omega
    have hmc : (0 : Int) ≤ (c2 : Int) := by omega
    clear h2 h3 h4 hk2 hk3 hk4 HV ho2 ho3 hHL
    have hmin : min (safe : Int) (0 : Int) = ((min safe 0 : Nat) : Int) := by omega
    go_wp2
    all_goals
      have e : min safe 0 = 0 := by omega
      rw [e] at H4 HK
      have H4' := H4.out
      have HK' := HK.out
      rw [List.take_zero] at H4'
      clear H4 HK
      go_end0
      first | exact ⟨rfl, ⟨_, _, H4'⟩, HK'⟩ | (obtain rfl : safe = 0 := (by omega); exact ⟨rfl, ⟨_, _, H4'⟩, HK'⟩)
  · rw [cutS_all _ _ (by omega), Nat.min_eq_left (by omega)]
    have HD := Lib.hid h
    have hge' : (L : Int) ≤ (0 : Int) := by omega
    have hm0 : (0 : Int) ≤ (0 : Int) := by omega
    clear h hL
    go_enter Try.func21, Try.ntmps21
    go_wp2_with fail
    refine LA.out.mono ?_
    rintro e w1 ⟨rfl, q, rfl⟩
    have h1 := Lib.hid (HD.out.drewN q)
    have hk1 := Lib.hid (Keep.drewN F w q)
    go_wp2_with fail
    refine bodyPost_ret (v := .tuple #[]) (by simp [results, Try.results21, go_sem]) rfl ?_
    exact ⟨rfl, h1.out, hk1.out⟩
end
end Go.Proofs.Ytidpffgdndjgpaa
