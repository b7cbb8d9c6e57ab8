/- The document's example of layer 24. -/
import Derived.Test.YtidpffgdndjgpaaDoorJrnD
namespace Go.Proofs.YtidpffgdndjgpaaDoor
open Go.RowKit
set_option linter.unusedVariables false
set_option linter.unusedSimpArgs false
set_option maxRecDepth 20000
theorem Frm.one {l : List UInt8} {p p' : Nat} {xs xs' : List (List UInt8)} (h : Frm l p xs) (h' : Frm l p' xs') : p = p' ∧ xs = xs' := by
  obtain ⟨⟨a1, a2, a3⟩, a4⟩ := h
  obtain ⟨⟨b1, b2, b3⟩, b4⟩ := h'
  have e := Ahead.same a3 b3 a4 b4 (a2.symm.trans b2)
  subst e
  have h1 := congrArg List.length a2
  have h2 := congrArg List.length b2
  rw [List.length_append, List.length_drop] at h1 h2
  exact ⟨by omega, rfl⟩
theorem FrmAll.nil' {fs : List (Nat × List (List UInt8))} (h : FrmAll fs []) : fs = [] := List.eq_nil_of_length_eq_zero h.1
theorem FrmAll.single {fs : List (Nat × List (List UInt8))} {s : List UInt8} {p : Nat} {xs : List (List UInt8)} (h : FrmAll fs [s]) (hf : Frm s p xs) : fs = [(p, xs)] := by
  obtain ⟨h1, h2⟩ := h
  match fs, h1 with
  | [f], _ =>
    have h3 := (h2 0 f s (by simp) (by simp)).one hf
    obtain ⟨a, b⟩ := f
    simp only at h3
    rw [h3.1, h3.2]
theorem frm_nil : Frm [] 0 [] := ⟨Ahead.start [], by decide +kernel⟩
theorem FrmAll.nils : ∀ {k : Nat} {fs : List (Nat × List (List UInt8))}, FrmAll fs (List.replicate k []) → fs = List.replicate k (0, [])
  | 0, fs, h => List.eq_nil_of_length_eq_zero (by simpa using h.1)
  | k + 1, [], h => by have := h.1; simp at this
  | k + 1, f :: fs, h => by
    have h3 := (h.2 0 f [] (by simp) (by simp [List.replicate_succ])).one frm_nil
    obtain ⟨a, b⟩ := f
    simp only at h3
    have h4 := FrmAll.nils (k := k) (fs := fs) ⟨by have := h.1; simpa using this, fun i f' s' q1 q2 => h.2 (i + 1) f' s' (by simpa using q1) (by simpa [List.replicate_succ] using q2)⟩
    rw [h3.1, h3.2, h4, List.replicate_succ]
/-- The example's bytes. -/
def ex24 : List UInt8 := (frameL [97] ++ frameL [98]).take 10
theorem ex24_frm : Frm ex24 7 [[97]] := ⟨⟨by decide +kernel, by decide +kernel, by decide +kernel⟩, by decide +kernel⟩
theorem ex24_frm7 : Frm (ex24.take 7) 7 [[97]] := ⟨⟨by decide +kernel, by decide +kernel, by decide +kernel⟩, by decide +kernel⟩
theorem ex24_len : ex24.length = 10 := by decide +kernel
theorem ex24_a : wrS [] [97] = [frameL [97]] := by decide +kernel
theorem ex24_b : wrS [frameL [97]] [98] = [frameL [97] ++ frameL [98]] := by decide +kernel
theorem ex24_c : cutS [frameL [97] ++ frameL [98]] 10 = [ex24] := by decide +kernel
theorem ex24_l1 : lastN [frameL [97]] = 7 := by decide +kernel
theorem ex24_l2 : lastN [frameL [97] ++ frameL [98]] = 14 := by decide +kernel
theorem ex24_s1 : wrSafe [] 0 [97] = 0 := by decide +kernel
theorem ex24_s2 : wrSafe [frameL [97]] 7 [98] = 7 := by decide +kernel
theorem ex24_t7 : (ex24.take 7).length = 7 := by decide +kernel
/-- What is foreign to a device of a journal. -/
def FJ (d j : Nat) (k : Nat) : Prop := k < d ∨ k = j
theorem jrn_start (w : World) (T T2 : TypeId) : ∃ W2, W2 = (w.alloc (.cells #[.slice none 0 0, .int .i64 0, .int .i64 0] T)).alloc (.cells #[.pointer (some ⟨w.heap.size, 0, none⟩)] T2) ∧ DevE (FJ w.heap.size (w.heap.size + 1)) w.heap.size w w.heap.size [] 0 0 W2 ∧ Jn2 (FJ w.heap.size (w.heap.size + 1)) w.heap.size (w.heap.size + 1) W2 := by
  refine ⟨_, rfl, ?_, ?_, .inr rfl⟩
  · have h1 : DevE (fun k => k < w.heap.size) w.heap.size w w.heap.size [] 0 0 (w.alloc (.cells #[.slice none 0 0, .int .i64 0, .int .i64 0] T)) := ⟨_, _, device_new w T⟩
    refine h1.wide ((Below.refl _ _).alloc (Nat.le_refl _) _) (fun k hk => ?_)
    rcases hk with hk | hk
    · exact .inl hk
    · exact .inr (by simp; omega)
  · exact (Cs.new (w.alloc (.cells #[.slice none 0 0, .int .i64 0, .int .i64 0] T)) #[.pointer (some ⟨w.heap.size, 0, none⟩)] T2 _ rfl).at_ _ (by simp)
theorem write_const {F : Nat → Prop} {B : Nat} {W : World} {d j : Nat} {segs : List (List UInt8)} {safe writes : Nat} {w : World} (C : Array Value) (e : TypeId) (lo hi : Nat) (l : List UInt8) (hC : C.toList = l.map bv) (n c : Nat) (hn : l.length = n) (hn6 : n ≤ 600)
    (h : DevE F B W d segs safe writes w) (hj : Jn2 F d j w) (hlen : lastN segs ≤ 4194304) (hsegs : segs.length ≤ 5000000000000) (hw : writes ≤ 4611686018427387904) :
    Calls Tryd.prog 7 #[.pointer (some ⟨j, 0, none⟩), .slice (some ⟨w.heap.size, 0, none⟩) n c] (w.alloc (.cells C e (lo, hi))) fun e' w' => e' = .returned .nilIface ∧ DevE F B W d (wrS segs l) (wrSafe segs safe l) (writes + 1) w' ∧ Keep F w w' := by
  have hb : Below w.heap.size w (w.alloc (.cells C e (lo, hi))) := (Below.refl _ _).alloc (Nat.le_refl _) _
  have hk := Keep.below h.fl hb
  refine (write_yes (some ⟨w.heap.size, 0, none⟩) n c l (Sl.freshM w C e lo hi n (l.map bv) hC (by simpa using hn)) (by intro q; cases q) hn6 (h.keep hb) (hj.keep hk) hlen hsegs hw).mono ?_
  rintro e' w' ⟨q1, q2, q3⟩
  exact ⟨q1, q2, hk.trans q3⟩
set_option maxHeartbeats 3200000 in
theorem awake24 (w : World) : Calls Tryd.prog 4 #[] w fun e w' => e = .returned (.bool true) ∧ Below w.heap.size w w' := by
  have OF := Lib.hid (of_any (w.alloc (.cells #[.slice none 0 0, .int .i64 0, .int .i64 0] 29)) w.heap.size)
  obtain ⟨W2, hW2, h2, hj2⟩ := jrn_start w 29 45
  have hz : (w.alloc (.cells #[.slice none 0 0, .int .i64 0, .int .i64 0] 29)).heap.size = w.heap.size + 1 := by simp
  obtain ⟨d, hd⟩ : ∃ d, d = w.heap.size := ⟨_, rfl⟩
  rw [← hd] at h2 hj2
  have HD := Lib.hid hd
  have HW := Lib.hid hW2
  have HZ := Lib.hid hz
  have H2 := Lib.hid h2
  have HJ2 := Lib.hid hj2
  clear hd hW2 hz h2 hj2
  go_enter Tryd.func4, Tryd.ntmps4
  go_wp2_with fail
  refine OF.out.mono ?_
  rintro e w1 ⟨rfl, hw1⟩
  rw [← HW.out] at hw1
  subst hw1
  rw [HZ.out, ← HD.out]
  clear OF
  obtain ⟨j, hjd⟩ : ∃ j, j = d + 1 := ⟨_, rfl⟩
  rw [← hjd] at H2 HJ2 ⊢
  clear hjd HW HZ
  have c2 := HJ2.out.1.get 0 _
  have q2 := HJ2.out.1.lt
  have kc := Lib.run_convert_bytes_const (P := Tryd.prog) W2 32 5 #[.int .u8 97] 1 1 Tryd.underlying32 Tryd.underlying5
  have W1 := write_const #[.int .u8 97] 5 1 2 [97] rfl 1 1 rfl (by decide) H2.out HJ2.out (by decide) (by decide) (by decide)
  rw [ex24_a, ex24_s1] at W1
  have W1 := Lib.hid W1
  go_wp2_with fail
  refine W1.out.mono ?_
  clear W1 kc
  rintro e w3 ⟨rfl, h3, hk3⟩
  have hj3 := Lib.hid (HJ2.out.keep hk3)
  have c3 := hj3.out.1.get 0 _
  have q3 := hj3.out.1.lt
  have SY := sync_any h3
  rw [ex24_l1] at SY
  have SY := Lib.hid SY
  clear h3 hk3 c2 q2 H2
  go_wp2_with fail
  refine SY.out.mono ?_
  clear SY
  rintro e w4 ⟨rfl, h4, hk4⟩
  have hj4 := Lib.hid (hj3.out.keep hk4)
  have kc := Lib.run_convert_bytes_const (P := Tryd.prog) w4 32 5 #[.int .u8 98] 1 1 Tryd.underlying32 Tryd.underlying5
  have W2' := write_const #[.int .u8 98] 5 1 2 [98] rfl 1 1 rfl (by decide) h4 hj4.out (by rw [ex24_l1]; decide) (by simp) (by decide)
  rw [ex24_b, ex24_s2] at W2'
  have W2' := Lib.hid W2'
  clear h4 hk4 c3 q3
  go_wp2_with fail
  refine W2'.out.mono ?_
  clear W2' kc
  rintro e w5 ⟨rfl, h5, hk5⟩
  have hj5 := Lib.hid (hj4.out.keep hk5)
  have c5 := hj5.out.1.get 0 _
  have q5 := hj5.out.1.lt
  have CR := crash_any 3 (by decide) (by decide) h5 (by rw [ex24_l2]; decide)
  rw [ex24_l2, show 7 + (3 : Int).toNat = 10 by decide, ex24_c, show min 10 14 = 10 by decide] at CR
  have CR := Lib.hid CR
  clear h5 hk5
  go_wp2_with fail
  refine CR.out.mono ?_
  clear CR
  rintro e w6 ⟨rfl, h6, hk6⟩
  have hj6 := Lib.hid (hj5.out.keep hk6)
  have RC := Lib.hid (recover_some [] ex24 h6 hj6.out (by rw [ex24_len]; decide) (by decide) (by intro x hx; simp at hx; subst hx; rw [ex24_len]; decide))
  clear h6 hk6 c5 q5
  go_wp2_with fail
  refine RC.out.mono ?_
  clear RC
  rintro e w7 ⟨p, xs, rfl, hfr, h7, hk7⟩
  obtain ⟨rfl, rfl⟩ := hfr.one ex24_frm
  rw [ex24_len]
  rw [List.nil_append] at h7
  have hj7 := Lib.hid (hj6.out.keep hk7)
  have c7 := hj7.out.1.get 0 _
  have q7 := hj7.out.1.lt
  have RD := Lib.hid (read_any h7 (by simp) (by intro x hx; simp at hx; subst hx; rw [ex24_t7]; decide) (by simp [sumL]; omega))
  have hfin := Lib.hid h7.bel
  clear h7 hk7 hfr
  go_wp2_with fail
  refine RD.out.mono ?_
  clear RD
  rintro e w8 ⟨v, vs, fs, rfl, hcp, hfa⟩
  obtain rfl := hfa.single ex24_frm7
  rw [show wholeB [(7, [[97]])] [ex24.take 7] = true by simp [wholeB, ex24_len]]
  have hcp : Cp w7.heap.size w7 [[97]] v vs w8 := hcp
  obtain ⟨g, A, c, cap, rfl, -, q8, c8, k1, k2, k3, ks⟩ := hcp.at_ 0 (by decide)
  have c8 : w8.cell? ⟨g, 0, none⟩ = some (.slice A 1 c) := c8
  have hcv := run_string_of (P := Tryd.prog) w8 32 9 5 _ A 1 [97] Tryd.underlying32 Tryd.underlying5 Tryd.underlying9 ks.sl (fun h => (k3 h).1) c
  have hbel := Lib.hid hcp.ob.bel
  clear hcp hfa ks k1 k2 k3 c7 q7
  go_wp2_with fail
  go_ret
  have hf := hfin.out
  rw [HD.out] at hf
  exact ⟨rfl, hf.trans (hbel.out.mono hf.size)⟩
end Go.Proofs.YtidpffgdndjgpaaDoor
