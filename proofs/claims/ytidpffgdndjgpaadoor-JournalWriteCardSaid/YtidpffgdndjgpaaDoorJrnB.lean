/- The contracts of package journal. -/
import Derived.Test.YtidpffgdndjgpaaDoorJrnA
namespace Go.Proofs.YtidpffgdndjgpaaDoor
open Go.RowKit
set_option linter.unusedVariables false
set_option linter.unusedSimpArgs false
set_option maxRecDepth 20000
section
variable {F : Nat → Prop} {B : Nat} {W : World} {d j : Nat} {segs : List (List UInt8)} {safe writes : Nat} {w w' : World}
/-- Append of a slice that the call has just made. -/
theorem append_own {A : Option Addr} {n c : Nat} {l : List UInt8} (h : DevE F B W d segs safe writes w) (hb : Below w.heap.size w w') (ho : OB w.heap.size w (.slice A n c) n (l.map bv) w') (hlen : lastN segs + n ≤ 140737488355328) (hsegs : segs.length ≤ 5864062014634) (hw : writes ≤ 4611686018427387904) :
    Calls Tryd.prog 17 #[.pointer (some ⟨d, 0, none⟩), .slice A n c] w' fun e w2 => e = .returned (.tuple #[]) ∧ DevE F B W d (appS segs l) (if segs = [] then 0 else safe) (writes + 1) w2 ∧ Keep F w w2 := by
  have h1 : DevE (fun k => F k ∨ (w.heap.size ≤ k ∧ k < w'.heap.size)) B W d segs safe writes w' := h.wide hb (fun k hk => hk)
  have hk1 : Keep F w w' := Keep.below h.fl hb
  obtain ⟨A', c', e, -, -, h0⟩ := ho.slice
  injection e with e1 e2 e3
  subst e1 e3
  refine (append_any A n c _ l ho.sl (fun q => (h0 q).1) (fun a q _ => .inr (by
    have := ho.lt a.block (by rw [q]; rfl)
    exact this)) h1 hlen hsegs hw).mono ?_
  rintro e w2 ⟨q1, q2, q3⟩
  exact ⟨q1, q2.less (fun k hk => .inl hk), hk1.trans ⟨q3.1, fun k hk => q3.2 k (.inl hk)⟩⟩
theorem of_any (w : World) (d : Nat) : Calls Tryd.prog 5 #[.pointer (some ⟨d, 0, none⟩)] w fun e w' => e = .returned (.pointer (some ⟨w.heap.size, 0, none⟩)) ∧ w.alloc (.cells #[.pointer (some ⟨d, 0, none⟩)] 45) = w' := by
  go_enter Tryd.func5, Tryd.ntmps5
  go_wp2_with fail
  go_ret
  exact ⟨rfl, rfl⟩
/-- A journal at block j over the device at block d. -/
def Jn2 (F : Nat → Prop) (d j : Nat) (w : World) : Prop := Cs w j [.pointer (some ⟨d, 0, none⟩)] ∧ F j
theorem Jn2.keep (h : Jn2 F d j w) (hk : Keep F w w') : Jn2 F d j w' := ⟨h.1.block (hk.2 j h.2) hk.1, h.2⟩
theorem Keep.run (hF : ∀ k, F k → k < w.heap.size) (h : Below w.heap.size w w') : Keep F w w' := Keep.below hF h
/-- What is left of the segments behind 'Recover'. -/
def recS (segs : List (List UInt8)) (p : Nat) : List (List UInt8) := cutS segs p
set_option maxHeartbeats 1600000 in
theorem recover_nil (h : DevE F B W d [] safe writes w) (hj : Jn2 F d j w) :
    Calls Tryd.prog 13 #[.pointer (some ⟨j, 0, none⟩)] w fun e w' => e = .returned (.int .i64 0) ∧ Below w.heap.size w w' := by
  have c0 := hj.1.get 0 _
  have q0 := hj.1.lt
  have SG := Lib.hid (segments_any h (by simp) (by intro s hs; cases hs))
  clear h hj
  go_enter Tryd.func13, Tryd.ntmps13
  go_wp2_with fail
  refine SG.out.mono ?_
  clear SG
  rintro e w1 ⟨v, vals, rfl, hcp⟩
  have hbel := hcp.ob.bel
  obtain ⟨Av, cv, rfl, -⟩ := hcp.ob.slice
  rw [show ([] : List (List UInt8)).length = 0 from rfl]
  clear hcp
  go_wp2_with fail
  go_ret
  exact ⟨rfl, hbel⟩
def IsRec (F : Nat → Prop) (B : Nat) (W : World) (d : Nat) (init : List (List UInt8)) (s : List UInt8) (writes : Nat) (w0 : World) (e : Ending) (w : World) : Prop := ∃ p xs, e = .returned (.int .i64 ((s.length - p : Nat) : Int)) ∧ Frm s p xs ∧ DevE F B W d (init ++ [s.take p]) p writes w ∧ Keep F w0 w
set_option maxHeartbeats 1600000 in
theorem recover_gen (init : List (List UInt8)) (s : List UInt8) (h : DevE F B W d (init ++ [s]) safe writes w) (hj : Jn2 F d j w) (hs : safe ≤ s.length) (hlen : init.length + 1 ≤ 5864062014634) (hb : ∀ x ∈ init ++ [s], x.length ≤ 140737488355328) (hX : ∀ p xs, Ahead s p xs → xs.length ≤ 4194304) :
    Calls Tryd.prog 13 #[.pointer (some ⟨j, 0, none⟩)] w (IsRec F B W d init s writes w) := by
  have c0 := hj.1.get 0 _
  have q0 := hj.1.lt
  have hsl := hb s (by simp)
  have SG := Lib.hid (segments_any h (by simpa using hlen) hb)
  have HX := Lib.hid hX
  have H := Lib.hid h
  have HJ := Lib.hid hj
  clear h hj hb hX
  go_enter Tryd.func13, Tryd.ntmps13
  go_wp2_with fail
  refine SG.out.mono ?_
  clear SG
  rintro e w1 ⟨v, vals, rfl, hcp⟩
  obtain ⟨g, A, c, cap, rfl, -, q6, c6, k1, k2, k3, ks⟩ := hcp.at_ init.length (by simp)
  have hbel := hcp.ob.bel
  have hl : (init ++ [s]).length = init.length + 1 := by simp
  have hgs : (init ++ [s])[init.length]'(by simp) = s := by simp
  rw [hgs] at c6 k1 k3 ks
  rw [hl]
  have hi1 : IntKind.i64.wrap ((init.length : Int) + 1 - 1) = init.length := by rw [IntWalk.i64_in _ (by omega)]; omega
  have hlt : init.length < init.length + 1 := by omega
  have AL := Lib.hid (all_gen A s.length c s w1 ks.sl k3 k1 hsl HX.out)
  have h1 := Lib.hid (H.out.keep hbel)
  have hk1 := Lib.hid (Keep.below H.out.fl hbel)
  clear hcp ks k1 k2 k3 hl hgs hbel H
  go_wp2_with fail
  refine AL.out.mono ?_
  clear AL
  rintro e w2 ⟨v2, xs, p, vs, rfl, hcp2, hfr⟩
  have hb2 := hcp2.ob.bel
  have h2 := h1.out.keep hb2
  have hk2 := Lib.hid (hk1.out.trans (Keep.below h1.out.fl hb2))
  have hj2 := HJ.out.keep hk2.out
  have d0 := hj2.1.get 0 _
  have p0 := hj2.1.lt
  have hp := hfr.1.1
  have HFR := Lib.hid hfr
  have CT := Lib.hid (cut_nat p (by omega) h2 (by rw [lastN_snoc]; exact hs))
  clear hcp2 hb2 h2 hj2 hfr h1 hk1 c0 q0
  go_wp2_with fail
  refine CT.out.mono ?_
  clear CT
  rintro e w3 ⟨rfl, h3, hk3⟩
  rw [cutS_snoc] at h3
  have hk3' := Lib.hid (hk2.out.trans hk3)
  have hj3 := HJ.out.keep hk3'.out
  have d1 := hj3.1.get 0 _
  have p1 := hj3.1.lt
  have SY := Lib.hid (sync_any h3)
  clear h3 hk3 hj3 d0 p0
  go_wp2_with fail
  refine SY.out.mono ?_
  clear SY
  rintro e w4 ⟨rfl, h4, hk4⟩
  rw [lastN_snoc, show (s.take p).length = p by simp; omega] at h4
  have hk4' := Lib.hid (hk3'.out.trans hk4)
  have H4 := Lib.hid h4
  have hsub : IntKind.i64.wrap ((s.length : Int) - p) = ((s.length - p : Nat) : Int) := by rw [IntWalk.i64_in _ (by omega)]; omega
  clear h4 hk4 d1 p1
  go_wp2_with fail
  go_ret
  exact ⟨p, xs, rfl, HFR.out, H4.out, hk4'.out⟩
theorem recover_some (init : List (List UInt8)) (s : List UInt8) (h : DevE F B W d (init ++ [s]) safe writes w) (hj : Jn2 F d j w) (hs : safe ≤ s.length) (hlen : init.length + 1 ≤ 5864062014634) (hb : ∀ x ∈ init ++ [s], x.length ≤ 4194304) :
    Calls Tryd.prog 13 #[.pointer (some ⟨j, 0, none⟩)] w (IsRec F B W d init s writes w) :=
  recover_gen init s h hj hs hlen (fun x hx => by have := hb x hx; omega) (fun p xs hx => by have h1 := ahead_many hx; have h2 := hb s (by simp); omega)
end
end Go.Proofs.YtidpffgdndjgpaaDoor
