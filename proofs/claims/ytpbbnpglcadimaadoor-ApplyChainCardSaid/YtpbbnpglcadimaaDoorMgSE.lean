/- Texts that walks stand on, one behind the other. -/
import Derived.Test.YtpbbnpglcadimaaDoorMgSD
import Derived.Outline
import Derived.Test.YtpbbnpglcadimaaDoorReg8
import Derived.Test.YtpbbnpglcadimaaDoorMgSA
import Derived.Test.YtpbbnpglcadimaaDoorMgSB
import Derived.Test.YtpbbnpglcadimaaDoorMgSC
import Derived.Test.YtpbbnpglcadimaaDoorObw
namespace Go.Proofs.YtpbbnpglcadimaaDoor
open Go.RowKit
set_option linter.unusedVariables false
set_option linter.unusedSimpArgs false
set_option maxRecDepth 20000
/-- What serial tells of any record. -/
def SerF (sf : RecT → Nat) : Prop := ∀ r : RecT, (∀ a b t, IsSoa r.2.2.2.data.toList a b t → sf r = n32 ⟨t.toArray⟩ 0) ∧ ((∀ a b t, ¬ IsSoa r.2.2.2.data.toList a b t) → sf r = 0)
theorem ser_fun : ∃ sf : RecT → Nat, SerF sf := by
  have h : ∀ r : RecT, ∃ k : Nat, (∀ a b t, IsSoa r.2.2.2.data.toList a b t → k = n32 ⟨t.toArray⟩ 0) ∧ ((∀ a b t, ¬ IsSoa r.2.2.2.data.toList a b t) → k = 0) := by
    intro r
    by_cases hx : ∃ a b t, IsSoa r.2.2.2.data.toList a b t
    · obtain ⟨a, b, t, hx⟩ := hx
      refine ⟨n32 ⟨t.toArray⟩ 0, fun a' b' t' h' => ?_, fun hno => absurd hx (hno a b t)⟩
      obtain ⟨-, -, rfl⟩ := hx.one h'
      rfl
    · exact ⟨0, fun a b t h' => absurd ⟨a, b, t, h'⟩ hx, fun _ => rfl⟩
  exact ⟨fun r => (h r).choose, fun r => (h r).choose_spec⟩
theorem SerF.of_soa {sf : RecT → Nat} (h : SerF sf) (o : ByteArray) (n : Nat) (hn : n < 4294967296) : sf (soaR o n) = n := by
  have hm := nameZ_may [] (by simp)
  have hdl : (soaD n).data.toList = dataL (nameZ []) (nameZ []) [n, 10, 3, 40, 1] := by unfold soaD; simp
  have hi : IsSoa (soaD n).data.toList (nameZ []) (nameZ []) ([n, 10, 3, 40, 1].flatMap b32) := by rw [hdl]; exact isSoa_data hm hm rfl
  have h1 := (h (soaR o n)).1 _ _ _ hi
  rw [hdl] at hi
  have h2 := soaV_data hm hm hn (by omega) (by omega) (by omega) (by omega) hi
  unfold soaV at h2
  injection h2 with h2
  injection h2 with h2
  injection h2 with _ h2
  injection h2 with _ h2
  injection h2 with h2 _
  injection h2 with _ h2
  rw [h1]
  omega
theorem SerF.of_ex {sf : RecT → Nat} (h : SerF sf) (n : Nat) (hn : n < 4294967296) : sf (exR n) = n := by
  have hm : mayL ([] : List UInt8) := rfl
  have hdl : (exD n).data.toList = dataL [] [] [n, 0, 0, 0, 0] := by unfold exD; simp
  have hi : IsSoa (exD n).data.toList [] [] ([n, 0, 0, 0, 0].flatMap b32) := by rw [hdl]; exact isSoa_data hm hm rfl
  have h1 := (h (exR n)).1 _ _ _ hi
  rw [hdl] at hi
  have h2 := soaV_data hm hm hn (by omega) (by omega) (by omega) (by omega) hi
  unfold soaV at h2
  injection h2 with h2
  injection h2 with h2
  injection h2 with _ h2
  injection h2 with _ h2
  injection h2 with h2 _
  injection h2 with _ h2
  rw [h1]
  omega
set_option maxHeartbeats 1600000 in
theorem serial_gen (r0 : ByteArray) (r1 r2 : Int) (r3 s1 s2 : ByteArray) (n0 n1 n2 n3 n4 : Int) (q : Bool) (w : World)
    (OF : ∀ w, Calls Tryd.prog 42 #[.agg #[.string r0, .int .u16 r1, .int .u32 r2, .string r3]] w fun e w' => e = .returned (.tuple #[.agg #[.string s1, .string s2, .int .u32 n0, .int .u32 n1, .int .u32 n2, .int .u32 n3, .int .u32 n4], .bool q]) ∧ Below w.heap.size w w') :
    Calls Tryd.prog 22 #[.agg #[.string r0, .int .u16 r1, .int .u32 r2, .string r3]] w fun e w' => e = .returned (.int .u32 n0) ∧ Below w.heap.size w w' := by
  have OF : Hid (∀ w, Calls Tryd.prog 42 #[.agg #[.string r0, .int .u16 r1, .int .u32 r2, .string r3]] w fun e w' => (∃ EX, EX = Value.agg #[.string s1, .string s2, .int .u32 n0, .int .u32 n1, .int .u32 n2, .int .u32 n3, .int .u32 n4] ∧ e = .returned (.tuple #[EX, .bool q])) ∧ Below w.heap.size w w') :=
    Lib.hid (fun w => (OF w).mono (by rintro e w' ⟨rfl, hb⟩; exact ⟨⟨_, rfl, rfl⟩, hb⟩))
  have hb := (Below.refl w.heap.size w).alloc (Nat.le_refl _) (.cells #[.string r0, .int .u16 r1, .int .u32 r2, .string r3] 41)
  have HB := Lib.hid hb
  clear hb
  go_enter Tryd.func22, Tryd.ntmps22
  go_wp2_with fail
  refine (OF.out _).mono ?_
  rintro e w2 ⟨⟨EX, hEX, rfl⟩, hb2⟩
  have HEX := Lib.hid hEX
  clear hEX
  have hZ := Cs.new w2 #[.string ⟨#[]⟩, .string ⟨#[]⟩, .int .u32 0, .int .u32 0, .int .u32 0, .int .u32 0, .int .u32 0] 60 [.string ⟨#[]⟩, .string ⟨#[]⟩, .int .u32 0, .int .u32 0, .int .u32 0, .int .u32 0, .int .u32 0]
  have HTH := Lib.hid (hZ.there 7 rfl)
  have hM := hZ.mid [.string s1, .string s2, .int .u32 n0, .int .u32 n1, .int .u32 n2, .int .u32 n3, .int .u32 n4] rfl
  have hbZ := below_setCells' (B := w.heap.size) (g := w2.heap.size) (Nat.le_trans HB.out.size hb2.size) [.string s1, .string s2, .int .u32 n0, .int .u32 n1, .int .u32 n2, .int .u32 n3, .int .u32 n4] 0 ((below_trans HB.out HB.out.size hb2).alloc (Nat.le_trans HB.out.size hb2.size) (.cells #[.string ⟨#[]⟩, .string ⟨#[]⟩, .int .u32 0, .int .u32 0, .int .u32 0, .int .u32 0, .int .u32 0] 60))
  have k2 := hM.get 2 _
  have HBZ := Lib.hid hbZ
  have HK2 := Lib.hid k2
  clear hb2 hZ hM hbZ k2
  go_upto_region 2 with (first | refine wpList_store_mid rfl 60 _ _ rfl w2.heap.size 0 #[.string s1, .string s2, .int .u32 n0, .int .u32 n1, .int .u32 n2, .int .u32 n3, .int .u32 n4] rfl HEX.out HTH.out (by kernel_rfl) (by simp [Value.oneCell']) ?_)
  have k2 := HK2.out
  generalize (w2.alloc (.cells #[.string ⟨#[]⟩, .string ⟨#[]⟩, .int .u32 0, .int .u32 0, .int .u32 0, .int .u32 0, .int .u32 0] 60)).setCells w2.heap.size 0 [.string s1, .string s2, .int .u32 n0, .int .u32 n1, .int .u32 n2, .int .u32 n3, .int .u32 n4] = w5 at *
  go_wp2_with fail
  go_ret
  exact ⟨rfl, HBZ.out⟩
theorem serial_any {sf : RecT → Nat} (h : SerF sf) (r : RecT) (hr : soaB r = true) (hd : r.2.2.2.size ≤ 140737488355328) (w : World) : Calls Tryd.prog 22 #[recV r] w fun e w' => e = .returned (.int .u32 (sf r : Nat)) ∧ Below w.heap.size w w' := by
  have hsf := h r
  obtain ⟨r0, r1, r2, r3⟩ := r
  unfold soaB at hr
  simp only [beq_iff_eq] at hr
  subst hr
  unfold recV
  simp only at hd hsf ⊢
  by_cases hx : ∃ a b t, IsSoa r3.data.toList a b t
  · obtain ⟨a, b, t, hx⟩ := hx
    rw [hsf.1 a b t hx]
    refine serial_gen r0 6 r2 r3 ⟨a.toArray⟩ ⟨b.toArray⟩ (n32 ⟨t.toArray⟩ 0) (n32 ⟨t.toArray⟩ 4) (n32 ⟨t.toArray⟩ 8) (n32 ⟨t.toArray⟩ 12) (n32 ⟨t.toArray⟩ 16) true w (fun w => (sof_soa r0 r3 r2 w hd).mono ?_)
    rintro e w' ⟨hb, ⟨a', b', t', hs, rfl⟩ | ⟨hno, -⟩⟩
    · obtain ⟨rfl, rfl, rfl⟩ := hx.one hs
      exact ⟨rfl, hb⟩
    · exact absurd hx (hno a b t)
  · rw [hsf.2 (fun a b t h' => hx ⟨a, b, t, h'⟩)]
    refine serial_gen r0 6 r2 r3 ⟨#[]⟩ ⟨#[]⟩ 0 0 0 0 0 false w (fun w => (sof_soa r0 r3 r2 w hd).mono ?_)
    rintro e w' ⟨hb, ⟨a', b', t', hs, rfl⟩ | ⟨hno, rfl⟩⟩
    · exact absurd ⟨a', b', t', hs⟩ hx
    · exact ⟨rfl, hb⟩
set_option maxHeartbeats 1600000 in
theorem mayrec_of (r : RecT) (q : Bool) (h41 : ¬ r.2.1 = 41) (hl : (labelsOf r.1).isSome = true) (hn : r.1.size ≤ 100000) (hq : ∀ w, Calls Tryd.prog 61 #[.int .u16 r.2.1, .string r.2.2.2] w fun e w' => e = .returned (.bool q) ∧ Below w.heap.size w w') (w : World) :
    Calls Tryd.prog 40 #[recV r] w fun e w' => e = .returned (.bool q) ∧ Below w.heap.size w w' := by
  have HM := Lib.hid (fun w => may_any r.1 w (by unfold maxLen; omega))
  rw [hl] at HM
  clear hl
  unfold recV
  have e41 : (r.2.1 != 41) = true := by simp [h41]
  have HQ := Lib.hid hq
  clear hq
  go_enter Tryd.func40, Tryd.ntmps40
  go_wp2_with fail
  refine (HM.out _).mono ?_
  rintro e w1 ⟨rfl, hb⟩
  have hc := (Cs.new w #[.string r.1, .int .u16 r.2.1, .int .u32 r.2.2.1, .string r.2.2.2] 41 [.string r.1, .int .u16 r.2.1, .int .u32 r.2.2.1, .string r.2.2.2]).below hb
  have c1 := hc.get 1 _
  have c3 := hc.get 3 _
  have HB := Lib.hid (below_alloc _ (Below.refl _ _) (Nat.le_refl _) hb)
  clear hb hc
  go_wp2_with fail
  refine (HQ.out w1).mono ?_
  rintro e w2 ⟨rfl, hb2⟩
  have HB2 := Lib.hid (below_trans HB.out HB.out.size hb2)
  clear hb2
  go_wp2_with fail
  go_ret
  exact ⟨rfl, HB2.out⟩
theorem rmay_99 (w : World) : Calls Tryd.prog 61 #[.int .u16 99, .string ⟨#[]⟩] w fun e w' => e = .returned (.bool true) ∧ Below w.heap.size w w' := by
  go_enter Tryd.func61, Tryd.ntmps61
  go_wp2_with fail
  go_ret
  exact ⟨rfl, Below.refl _ _⟩
theorem mayrec_exR (n : Nat) (w : World) : Calls Tryd.prog 40 #[recV (exR n)] w fun e w' => e = .returned (.bool true) ∧ Below w.heap.size w w' := by
  have hl : (exD n).size ≤ 140737488355328 := by unfold exD; rw [mk_size, dataL_len9]; simp
  have hdl : (exD n).data.toList = dataL [] [] [n, 0, 0, 0, 0] := by unfold exD; simp
  refine mayrec_of (exR n) true (show ¬ (6 : Int) = 41 by decide) (show (labelsOf ⟨#[]⟩).isSome = true by rfl) (show (ByteArray.mk #[]).size ≤ 100000 by decide) (fun w => (rmay_soa (exD n) w hl).mono ?_) w
  rintro e w' ⟨hb, ⟨-, rfl⟩ | ⟨hno, -⟩⟩
  · exact ⟨rfl, hb⟩
  · refine absurd ?_ (hno [] [] ([n, 0, 0, 0, 0].flatMap b32))
    rw [hdl]
    exact isSoa_data rfl rfl rfl
/-- The other records of the example. -/
def xR (c : UInt8) : RecT := (⟨#[1, c]⟩, 99, 0, ⟨#[]⟩)
theorem mayrec_x (w : World) : Calls Tryd.prog 40 #[recV (xR 120)] w fun e w' => e = .returned (.bool true) ∧ Below w.heap.size w w' :=
  mayrec_of (xR 120) true (by decide) (by rfl) (by decide) (fun w => rmay_99 w) w
theorem mayrec_y (w : World) : Calls Tryd.prog 40 #[recV (xR 121)] w fun e w' => e = .returned (.bool true) ∧ Below w.heap.size w w' :=
  mayrec_of (xR 121) true (by decide) (by rfl) (by decide) (fun w => rmay_99 w) w
def rs6 : List RecT := [exR 3, exR 2, xR 120, exR 3, xR 121, exR 3]
theorem eqB_refl (r : RecT) : eqB r r = true := by unfold eqB; simp
theorem part6 {sf : RecT → Nat} (h : SerF sf) : partR (fun _ => true) sf ⟨#[]⟩ 2 rs6 = .inr (some (some [(1, 3, 5)])) := by
  have h2 := h.of_ex 2 (by omega)
  have h3 := h.of_ex 3 (by omega)
  have e0 : ∀ n, admB (fun _ => true) ⟨#[]⟩ (exR n) = true := by
    intro n
    unfold admB
    rw [show (stripOf (exR n).1 ⟨#[]⟩).isSome = true from (by kernel_rfl : (stripOf ⟨#[]⟩ ⟨#[]⟩).isSome = true), show ((exR n).1.toList == (ByteArray.mk #[]).toList) = true from by unfold exR; simp]
    simp
  have e1 : ∀ c, (stripOf (xR c).1 ⟨#[]⟩).isSome = true → admB (fun _ => true) ⟨#[]⟩ (xR c) = true := by
    intro c hc
    unfold admB
    rw [hc, show soaB (xR c) = false from rfl]
    simp
  have ha : admR (fun _ => true) ⟨#[]⟩ rs6 = true := by
    unfold admR rs6
    simp only [List.all_cons, List.all_nil, e0, e1 120 (by kernel_rfl), e1 121 (by kernel_rfl)]
    rfl
  have hf : fullR (fun _ => true) ⟨#[]⟩ rs6 = false := by
    unfold fullR rs6
    simp only
    rw [show (List.take _ (List.drop 1 [exR 3, exR 2, xR 120, exR 3, xR 121, exR 3])).any soaB = true from rfl]
    simp
  have hd : deltasR sf 2 rs6 = .inr [(1, 3, 5)] := by
    have d1 : deltaR sf 2 rs6 1 = .inr (3, 5) := by
      unfold deltaR
      rw [show rs6[1]? = some (exR 2) from rfl]
      simp only
      rw [show soaB (exR 2) = true from rfl, if_pos rfl, h2, if_pos rfl]
      rfl
    have g1 : deltasG sf rs6 6 2 1 = .inr [(1, 3, 5)] := by
      unfold deltasG
      rw [if_pos (by decide), d1]
      rfl
    unfold deltasR
    rw [show rs6.length = 6 from rfl, g1]
    simp only
    rw [if_pos]
    unfold endOk
    show (eqB (exR 3) (exR 3) && eqB (exR 3) (exR 3)) = true
    rw [eqB_refl]; rfl
  unfold partR
  rw [if_pos ha, if_neg (by decide), hf, if_neg (by simp), hd]
end Go.Proofs.YtpbbnpglcadimaaDoor
namespace Go.Proofs.YtpbbnpglcadimaaDoor
open Go.RowKit
set_option linter.unusedVariables false
set_option linter.unusedSimpArgs false
set_option maxRecDepth 20000
attribute [local simp] putsF isV wordOf Deps Region.binds Region.wanted Act.put wantedX isB
/-- What Part brings at the example. -/
def PW6 (mk : Option Addr → Nat → Value) (B : Nat) (W : World) (l1 : Option Addr → Nat → Option Addr → Nat → List Value) (l2 l3 : List Value) : Value → World → Prop :=
  fun v w => ∃ (A : Option Addr) (c : Nat) (A1 : Option Addr) (c1 : Nat) (A2 : Option Addr) (c2 : Nat), v = mk A c ∧ OBM 10 B W (.slice A 1 c) 1 (l1 A1 c1 A2 c2) w ∧ OBM 4 B W (.slice A1 1 c1) 1 l2 w ∧ OBM 4 B W (.slice A2 1 c2) 1 l3 w
theorem pw_stays (mk : Option Addr → Nat → Value) (B : Nat) (W : World) (l1 : Option Addr → Nat → Option Addr → Nat → List Value) (l2 l3 : List Value) : ∀ v w w', PW6 mk B W l1 l2 l3 v w → Goes w w' → PW6 mk B W l1 l2 l3 v w' := by
  rintro v w w' ⟨A, c, A1, c1, A2, c2, e, o1, o2, o3⟩ hb
  exact ⟨A, c, A1, c1, A2, c2, e, o1.keep hb (Nat.le_refl _), o2.keep hb (Nat.le_refl _), o3.keep hb (Nat.le_refl _)⟩
/-- What holds while the example's result is put into its box. -/
structure RA (W : World) (F : Value → World → Prop) (d : Nat → Bool) (x : Nat → Value) (w : World) : Prop where
  bel : d 16 = false → Below W.heap.size W w
  all : d 16 = true → ∀ i, i < 14 ∨ i = 15 → d i = true
  f16 : d 16 = true → F (x 15) w
section
variable {W w w' : World} {F : Value → World → Prop} {d : Nat → Bool} {x : Nat → Value}
theorem RA.no16 (h : RA W F d x w) {i : Nat} (hd : d i = false) (hi : i < 14 ∨ i = 15) : d 16 = false := by
  cases e : d 16 with
  | false => rfl
  | true => have := h.all e i hi; rw [hd] at this; cases this
theorem RA.next (h : RA W F d x w) {i : Nat} (hd : d i = false) (he : Goes w w') (v : Value) (hi : i < 14 ∨ i = 15 := by decide) : RA W F (setD d i) (fun j => if j = i then v else x j) w' := by
  have h16 := h.no16 hd hi
  have e : setD d i 16 = false := by rw [setD_ne d (by omega)]; exact h16
  exact ⟨fun _ => below_trans (h.bel h16) (h.bel h16).size he, fun k => (by rw [e] at k; cases k), fun k => (by rw [e] at k; cases k)⟩
theorem RA.late (h : RA W F d x w) {i : Nat} (v : Value) (hi : i = 14 ∨ i = 17 := by decide) : RA W F (setD d i) (fun j => if j = i then v else x j) w := by
  have e : setD d i 16 = d 16 := setD_ne d (by omega)
  refine ⟨fun k => h.bel (by rw [← e]; exact k), fun k j hj => ?_, fun k => ?_⟩
  · rw [setD_ne d (by omega)]; exact h.all (by rw [← e]; exact k) j hj
  · have : (15 : Nat) ≠ i := by omega
    simp only [this, if_false]
    exact h.f16 (by rw [← e]; exact k)
theorem RA.store (h : RA W F d x w) (hall : ∀ i, i < 14 ∨ i = 15 → d i = true) (v : Value) (hf : F (x 15) w') : RA W F (setD d 16) (fun j => if j = 16 then v else x j) w' :=
  ⟨fun k => (by rw [setD_self] at k; cases k), fun _ i hi => (by rw [setD_ne d (by omega)]; exact hall i hi), fun _ => hf⟩
end
/-- A value of this shape; ahead of operation 16 it is more. -/
def andUntil (p q : Value → World → Prop) : (Nat → Bool) → Value → World → Prop := fun d v w => p v w ∧ until_ 16 q d v w
theorem andUntil_stays {p q : Value → World → Prop} (hp : ∀ v w w', p v w → p v w') (hq : ∀ v w w', q v w → Goes w w' → q v w') : StaysX (andUntil p q) := fun d d' v w w' hd he h => ⟨hp v w w' h.1, until_stays hq d d' v w w' hd he h.2⟩
/-- The shape alone. -/
def shapeW (mk : Option Addr → Nat → Value) : Value → World → Prop := fun v _ => ∃ A c, v = mk A c
theorem PW6.shape {mk : Option Addr → Nat → Value} {B : Nat} {W : World} {l1 : Option Addr → Nat → Option Addr → Nat → List Value} {l2 l3 : List Value} {v : Value} {w : World} (h : PW6 mk B W l1 l2 l3 v w) : shapeW mk v w := by
  obtain ⟨A, c, A1, c1, A2, c2, e, -⟩ := h
  exact ⟨A, c, e⟩
/-- Where a cell is no bool lies no box that begins with one. -/
theorem apart_bool {w : World} {q g : Nat} {b : Bool} {v : Value} (h1 : w.cell? ⟨q, 0, none⟩ = some (.bool b)) (h2 : w.cell? ⟨g, 0, none⟩ = some v) (hv : ∀ b, v ≠ .bool b) : g ≠ q := by
  rintro rfl
  rw [h1] at h2
  exact hv b (Option.some.inj h2).symm
/-- What the example has brought. -/
def FIN6 (D2 D3 : ByteArray) (w3 : World) : Value → World → Prop := (fun vq v => Below w3.heap.size w3 v ∧ ∃ (q : Nat) (A : Option Addr) (c : Nat) (A1 : Option Addr) (c1 : Nat) (A2 : Option Addr) (c2 : Nat), vq = .pointer (some ⟨q, 0, none⟩) ∧ w3.heap.size ≤ q ∧ Cs v q [.bool false, .slice none 0 0, .slice A 1 c] ∧ OBM 10 w3.heap.size w3 (.slice A 1 c) 1 [.string ⟨#[]⟩, .int .u16 6, .int .u32 0, .string D2, .string ⟨#[]⟩, .int .u16 6, .int .u32 0, .string D3, .slice A1 1 c1, .slice A2 1 c2] v ∧ OBM 4 w3.heap.size w3 (.slice A1 1 c1) 1 [.string ⟨#[1, 120]⟩, .int .u16 99, .int .u32 0, .string ⟨#[]⟩] v ∧ OBM 4 w3.heap.size w3 (.slice A2 1 c2) 1 [.string ⟨#[1, 121]⟩, .int .u16 99, .int .u32 0, .string ⟨#[]⟩] v)
theorem part6_any {sf : RecT → Nat} (hsf : SerF sf) (g : Nat) (w : World) (hc : Cs w g (flatR rs6)) : Calls Tryd.prog 8 #[.string ⟨#[]⟩, .int .u32 2, .slice (some ⟨g, 0, none⟩) 6 6] w fun e w' => ∃ (A : Option Addr) (c : Nat) (A1 : Option Addr) (c1 : Nat) (A2 : Option Addr) (c2 : Nat), e = .returned (.tuple #[.agg #[.bool false, .slice none 0 0, .slice A 1 c], .nilIface]) ∧
    OBM 10 w.heap.size w (.slice A 1 c) 1 (delC (exR 2) (exR 3) (.slice A1 1 c1) (.slice A2 1 c2)) w' ∧ OBM 4 w.heap.size w (.slice A1 1 c1) 1 (flatR [xR 120]) w' ∧ OBM 4 w.heap.size w (.slice A2 1 c2) 1 (flatR [xR 121]) w' := by
  have hsl : Sl w w.heap.size 4 (some ⟨g, 0, none⟩) 6 (flatR rs6) := ⟨rfl, fun _ => ⟨g, 0, rfl, hc.lt, fun j u hu => by rw [Nat.zero_add]; exact hc.get j u hu⟩⟩
  have hsz : ∀ n, (exD n).size ≤ 140737488355328 := fun n => by unfold exD; rw [mk_size, dataL_len9]; simp
  have hall : ∀ r ∈ rs6, r = exR 3 ∨ r = exR 2 ∨ r = xR 120 ∨ r = xR 121 := by
    intro r hr
    unfold rs6 at hr
    simp only [List.mem_cons, List.not_mem_nil, or_false] at hr
    rcases hr with h | h | h | h | h | h <;> simp [h]
  refine (part_any (fun _ => true) sf ⟨#[]⟩ 2 (some ⟨g, 0, none⟩) 6 6 rs6 w (hsl.recs (Nat.le_refl _) rfl) rfl (by decide) (by decide) (by decide) (by decide) ?_ ?_ ?_).mono ?_
  · intro r hr
    rcases hall r hr with rfl | rfl | rfl | rfl <;> (first | exact (show (ByteArray.mk #[]).size ≤ maxLen by decide) | exact (show (ByteArray.mk #[1, 120]).size ≤ maxLen by decide) | exact (show (ByteArray.mk #[1, 121]).size ≤ maxLen by decide))
  · intro r hr w
    rcases hall r hr with rfl | rfl | rfl | rfl
    · exact mayrec_exR 3 w
    · exact mayrec_exR 2 w
    · exact mayrec_x w
    · exact mayrec_y w
  · intro r hr hs w
    rcases hall r hr with rfl | rfl | rfl | rfl
    · exact serial_any hsf _ hs (hsz 3) w
    · exact serial_any hsf _ hs (hsz 2) w
    · cases hs
    · cases hs
  · rintro e w' (⟨er, h, -⟩ | ⟨h, -⟩ | ⟨h, -⟩ | ⟨xs, A, c, h, rfl, ho, hx⟩)
    · rw [part6 hsf] at h; cases h
    · rw [part6 hsf] at h; cases h
    · rw [part6 hsf] at h; cases h
    · rw [part6 hsf] at h
      injection h with h; injection h with h; injection h with h
      match xs, h, ho, hx with
      | [(t, v1, v2)], h, ho, hx =>
        have ht : t = (1, 3, 5) := by simpa using h.symm
        subst ht
        have hd := hx _ (List.mem_singleton.2 rfl)
        have o1 : OBM 4 w.heap.size w v1 1 (flatR [xR 120]) w' := hd.gone
        have o2 : OBM 4 w.heap.size w v2 1 (flatR [xR 121]) w' := hd.new
        obtain ⟨A1, c1, rfl, -⟩ := o1.slice
        obtain ⟨A2, c2, rfl, -⟩ := o2.slice
        exact ⟨A, c, A1, c1, A2, c2, rfl, ho, o1, o2⟩
set_option maxHeartbeats 3200000 in
theorem awake09_any (w : World) : Calls Tryd.prog 5 #[] w fun e w' => e = .returned (.bool true) ∧ Below w.heap.size w w' := by
  obtain ⟨sf, hsf⟩ := ser_fun
  have PT := fun g w hc => part6_any hsf g w hc
  have CS2 := fun w => ex9_any 2 (by decide) w
  have CS3 := fun w => ex9_any 3 (by decide) w
  have hdn : Hid (∀ (g : Nat) (w : World), Cs w g (flatR [exR 3]) → Calls Tryd.prog 19 #[.slice (some ⟨g, 0, none⟩) 1 1] w fun e w' => e = .returned (.bool true) ∧ Below w.heap.size w w') := Lib.hid (fun g w hc => done_any (some ⟨g, 0, none⟩) 1 1 [exR 3] w ((show Sl w w.heap.size 4 (some ⟨g, 0, none⟩) 1 (flatR [exR 3]) from ⟨rfl, fun _ => ⟨g, 0, rfl, hc.lt, fun j u hu => by rw [Nat.zero_add]; exact hc.get j u hu⟩⟩).recs (Nat.le_refl _) rfl) rfl (by decide))
  have DN : Hid (∀ (g : Nat) (w : World), Cs w g (flatR [exR 3]) → Calls Tryd.prog 19 #[.slice (some ⟨g, 0, none⟩) 1 1] w fun e w' => e = .returned (.bool true) ∧ Below w.heap.size w w') := hdn
  clear hdn hsf
  unfold flatR rs6 exR xR at PT
  unfold recV exR at CS2 CS3
  unfold flatR exR at DN
  simp only [List.flatMap_cons, List.flatMap_nil, recCells, delC, List.cons_append, List.nil_append, List.append_nil] at PT CS2 CS3 DN
  generalize exD 2 = D2 at *
  generalize exD 3 = D3 at *
  obtain ⟨VS2, hVS2⟩ : ∃ v : Value, v = .agg #[.string ⟨#[]⟩, .int .u16 6, .int .u32 0, .string D2] := ⟨_, rfl⟩
  obtain ⟨VS3, hVS3⟩ : ∃ v : Value, v = .agg #[.string ⟨#[]⟩, .int .u16 6, .int .u32 0, .string D3] := ⟨_, rfl⟩
  obtain ⟨VX, hVX⟩ : ∃ v : Value, v = .agg #[.string ⟨#[1, 120]⟩, .int .u16 99, .int .u32 0, .string ⟨#[]⟩] := ⟨_, rfl⟩
  obtain ⟨VY, hVY⟩ : ∃ v : Value, v = .agg #[.string ⟨#[1, 121]⟩, .int .u16 99, .int .u32 0, .string ⟨#[]⟩] := ⟨_, rfl⟩
  have HEX : Hid (∀ w, (binOp .eql 41 VX VX).run Tryd.prog w = .ok (.bool true) w) := Lib.hid (fun w => by rw [hVX]; have := rec_eql (xR 120) (xR 120) w; rw [eqB_refl] at this; exact this)
  have HEY : Hid (∀ w, (binOp .eql 41 VY VY).run Tryd.prog w = .ok (.bool true) w) := Lib.hid (fun w => by rw [hVY]; have := rec_eql (xR 121) (xR 121) w; rw [eqB_refl] at this; exact this)
  rw [← hVS2] at CS2
  rw [← hVS3] at CS3
  have PT := Lib.hid PT
  have CS2 := Lib.hid CS2
  have CS3 := Lib.hid CS3
  have HVS2 := Lib.hid hVS2
  have HVS3 := Lib.hid hVS3
  have HVX := Lib.hid hVX
  have HVY := Lib.hid hVY
  clear hVS2 hVS3 hVX hVY
  have hcx := (Cs.new w #[.string ⟨#[1, 120]⟩, .int .u16 99, .int .u32 0, .string ⟨#[]⟩] 41 [.string ⟨#[1, 120]⟩, .int .u16 99, .int .u32 0, .string ⟨#[]⟩]).alloc (.cells #[.string ⟨#[1, 121]⟩, .int .u16 99, .int .u32 0, .string ⟨#[]⟩] 41)
  have hcy := Cs.new (w.alloc (.cells #[.string ⟨#[1, 120]⟩, .int .u16 99, .int .u32 0, .string ⟨#[]⟩] 41)) #[.string ⟨#[1, 121]⟩, .int .u16 99, .int .u32 0, .string ⟨#[]⟩] 41 [.string ⟨#[1, 121]⟩, .int .u16 99, .int .u32 0, .string ⟨#[]⟩]
  have hb3 := ((Below.refl w.heap.size w).alloc (Nat.le_refl _) (.cells #[.string ⟨#[1, 120]⟩, .int .u16 99, .int .u32 0, .string ⟨#[]⟩] 41)).alloc (by simp) (.cells #[.string ⟨#[1, 121]⟩, .int .u16 99, .int .u32 0, .string ⟨#[]⟩] 41)
  rw [show (w.alloc (.cells #[.string ⟨#[1, 120]⟩, .int .u16 99, .int .u32 0, .string ⟨#[]⟩] 41)).heap.size = w.heap.size + 1 by simp] at hcy
  have H0 := Lib.hid (And.intro hcx (And.intro hcy hb3))
  clear hcx hcy hb3
  go_enter Tryd.func5, Tryd.ntmps5
  go_upto_region 3 with fail
  obtain ⟨hcx, hcy, hb3⟩ := H0.out
  generalize (w.alloc (.cells #[.string ⟨#[1, 120]⟩, .int .u16 99, .int .u32 0, .string ⟨#[]⟩] 41)).alloc (.cells #[.string ⟨#[1, 121]⟩, .int .u16 99, .int .u32 0, .string ⟨#[]⟩] 41) = w3 at *
  obtain ⟨by_, hby⟩ : ∃ g, g = w.heap.size + 1 := ⟨_, rfl⟩
  obtain ⟨bx, hbx⟩ : ∃ g, g = w.heap.size := ⟨_, rfl⟩
  rw [← hby] at hcy ⊢
  rw [← hbx] at hcx ⊢
  have HB3 := Lib.hid hb3
  have HBX := Lib.hid hbx
  have HRX : Hid (∀ wx, Below w3.heap.size w3 wx → wx.rangeAt bx 0 [.string ⟨#[1, 120]⟩, .int .u16 99, .int .u32 0, .string ⟨#[]⟩]) := Lib.hid (fun wx hb => (hcx.below hb).range)
  have HRY : Hid (∀ wx, Below w3.heap.size w3 wx → wx.rangeAt by_ 0 [.string ⟨#[1, 121]⟩, .int .u16 99, .int .u32 0, .string ⟨#[]⟩]) := Lib.hid (fun wx hb => (hcy.below hb).range)
  clear hcx hcy hb3 hby hbx H0
  refine wp_region_expR data_follows (fun x => by simp [putsF, Act.put]; rfl) (RA w3 (FIN6 D2 D3 w3))
    [isX (.func (.func 17) #[] #[]), isX VS3, isX (.func (.func 17) #[] #[]), isX VS2, isX VX, isX (.func (.func 17) #[] #[]), isX VS3, isX VY, isX (.func (.func 17) #[] #[]), isX VS3, until_ 16 (litW 6 [.string ⟨#[]⟩, .int .u16 6, .int .u32 0, .string D3, .string ⟨#[]⟩, .int .u16 6, .int .u32 0, .string D2, .string ⟨#[1, 120]⟩, .int .u16 99, .int .u32 0, .string ⟨#[]⟩, .string ⟨#[]⟩, .int .u16 6, .int .u32 0, .string D3, .string ⟨#[1, 121]⟩, .int .u16 99, .int .u32 0, .string ⟨#[]⟩, .string ⟨#[]⟩, .int .u16 6, .int .u32 0, .string D3]), until_ 16 (PW6 (fun A c => .tuple #[.agg #[.bool false, .slice none 0 0, .slice A 1 c], .nilIface]) w3.heap.size w3 (fun A1 c1 A2 c2 => [.string ⟨#[]⟩, .int .u16 6, .int .u32 0, .string D2, .string ⟨#[]⟩, .int .u16 6, .int .u32 0, .string D3, .slice A1 1 c1, .slice A2 1 c2]) [.string ⟨#[1, 120]⟩, .int .u16 99, .int .u32 0, .string ⟨#[]⟩] [.string ⟨#[1, 121]⟩, .int .u16 99, .int .u32 0, .string ⟨#[]⟩]), andUntil (shapeW (fun A c => .tuple #[.agg #[.bool false, .slice none 0 0, .slice A 1 c], .nilIface])) (PW6 (fun A c => .tuple #[.agg #[.bool false, .slice none 0 0, .slice A 1 c], .nilIface]) w3.heap.size w3 (fun A1 c1 A2 c2 => [.string ⟨#[]⟩, .int .u16 6, .int .u32 0, .string D2, .string ⟨#[]⟩, .int .u16 6, .int .u32 0, .string D3, .slice A1 1 c1, .slice A2 1 c2]) [.string ⟨#[1, 120]⟩, .int .u16 99, .int .u32 0, .string ⟨#[]⟩] [.string ⟨#[1, 121]⟩, .int .u16 99, .int .u32 0, .string ⟨#[]⟩]), until_ 16 (PW6 (fun A c => .agg #[.bool false, .slice none 0 0, .slice A 1 c]) w3.heap.size w3 (fun A1 c1 A2 c2 => [.string ⟨#[]⟩, .int .u16 6, .int .u32 0, .string D2, .string ⟨#[]⟩, .int .u16 6, .int .u32 0, .string D3, .slice A1 1 c1, .slice A2 1 c2]) [.string ⟨#[1, 120]⟩, .int .u16 99, .int .u32 0, .string ⟨#[]⟩] [.string ⟨#[1, 121]⟩, .int .u16 99, .int .u32 0, .string ⟨#[]⟩]), isX .nilIface, until_ 16 (boxW w3.heap.size [.bool false, .slice none 0 0, .slice none 0 0]), always (fun _ _ => True), isX .nilIface]
    [16] (by kernel_rfl) (by kernel_rfl) (by kernel_rfl) rfl ?_ ⟨fun _ => (Below.refl _ _).drew, fun h => (by cases h), fun h => (by cases h)⟩ ?_ ?_ ?_
  · repeat (first | exact trivial | refine ⟨by first | exact isX_stays _ | exact until_stays (litW_stays _ _) | exact until_stays (boxW_stays _ _) | exact until_stays (pw_stays _ _ _ _ _ _) | exact andUntil_stays (fun _ _ _ h => h) (pw_stays _ _ _ _ _ _) | exact always_stays (fun _ _ _ _ _ => trivial), ?_⟩)
  · refine ⟨?_, ?_, ?_, ?_, ?_, ?_, ?_, ?_, ?_, ?_, ?_, ?_, ?_, ?_, ?_, ?_, skipped rfl, ?_, trivial⟩
    all_goals
      intro _ d x wx hR hdi hsrc hd
      refine ⟨fun _ => ?_, fun hX => by simp at hX⟩
    · have h16 := hR.no16 hdi (by decide)
      have hRb := hR.bel h16
      simp [wordX, isX] at hd ⊢
      go_simp; exact nextXR _ rfl rfl (hR.next hdi (Below.refl _ _) _) (Below.refl _ _)
    · have h16 := hR.no16 hdi (by decide)
      have hRb := hR.bel h16
      simp [wordX, isX] at hd ⊢
      try simp [hd]
      go_simp
      go_at_call 17
      refine (CS3.out wx).mono ?_
      rintro r wy ⟨rfl, hb⟩
      exact nextXR _ rfl rfl (hR.next hdi hb _) hb
    · have h16 := hR.no16 hdi (by decide)
      have hRb := hR.bel h16
      simp [wordX, isX] at hd ⊢
      go_simp; exact nextXR _ rfl rfl (hR.next hdi (Below.refl _ _) _) (Below.refl _ _)
    · have h16 := hR.no16 hdi (by decide)
      have hRb := hR.bel h16
      simp [wordX, isX] at hd ⊢
      try simp [hd]
      go_simp
      go_at_call 17
      refine (CS2.out wx).mono ?_
      rintro r wy ⟨rfl, hb⟩
      exact nextXR _ rfl rfl (hR.next hdi hb _) hb
    · have h16 := hR.no16 hdi (by decide)
      have hRb := hR.bel h16
      simp [wordX, isX] at hd ⊢
      refine wp_load_mid 41 _ rfl bx 0 (by simp [go_sem]) _ _ (HRX.out wx hRb) Tryd.underlying41 rfl (by kernel_rfl) ?_
      exact nextXR _ rfl HVX.out.symm (hR.next hdi (Below.refl _ _) _) (Below.refl _ _)
    · have h16 := hR.no16 hdi (by decide)
      have hRb := hR.bel h16
      simp [wordX, isX] at hd ⊢
      go_simp; exact nextXR _ rfl rfl (hR.next hdi (Below.refl _ _) _) (Below.refl _ _)
    · have h16 := hR.no16 hdi (by decide)
      have hRb := hR.bel h16
      simp [wordX, isX] at hd ⊢
      try simp [hd]
      go_simp
      go_at_call 17
      refine (CS3.out wx).mono ?_
      rintro r wy ⟨rfl, hb⟩
      exact nextXR _ rfl rfl (hR.next hdi hb _) hb
    · have h16 := hR.no16 hdi (by decide)
      have hRb := hR.bel h16
      simp [wordX, isX] at hd ⊢
      refine wp_load_mid 41 _ rfl by_ 0 (by simp [go_sem]) _ _ (HRY.out wx hRb) Tryd.underlying41 rfl (by kernel_rfl) ?_
      exact nextXR _ rfl HVY.out.symm (hR.next hdi (Below.refl _ _) _) (Below.refl _ _)
    · have h16 := hR.no16 hdi (by decide)
      have hRb := hR.bel h16
      simp [wordX, isX] at hd ⊢
      go_simp; exact nextXR _ rfl rfl (hR.next hdi (Below.refl _ _) _) (Below.refl _ _)
    · have h16 := hR.no16 hdi (by decide)
      have hRb := hR.bel h16
      simp [wordX, isX] at hd ⊢
      try simp [hd]
      go_simp
      go_at_call 17
      refine (CS3.out wx).mono ?_
      rintro r wy ⟨rfl, hb⟩
      exact nextXR _ rfl rfl (hR.next hdi hb _) hb
    · have h16 := hR.no16 hdi (by decide)
      have hRb := hR.bel h16
      simp [wordX, isX] at hd ⊢
      simp only [hd, HVS3.out, HVS2.out, HVX.out, HVY.out]
      clear hd
      go_simp
      exact nextXR _ rfl (until_of (litW_new 6 _ _ _ _)) (hR.next hdi ((Below.refl _ _).alloc (Nat.le_refl _) _) _) ((Below.refl _ _).alloc (Nat.le_refl _) _)
    · have h16 := hR.no16 hdi (by decide)
      have hRb := hR.bel h16
      simp [wordX] at hd ⊢
      obtain ⟨g, hg, hcs⟩ : litW 6 [.string ⟨#[]⟩, .int .u16 6, .int .u32 0, .string D3, .string ⟨#[]⟩, .int .u16 6, .int .u32 0, .string D2, .string ⟨#[1, 120]⟩, .int .u16 99, .int .u32 0, .string ⟨#[]⟩, .string ⟨#[]⟩, .int .u16 6, .int .u32 0, .string D3, .string ⟨#[1, 121]⟩, .int .u16 99, .int .u32 0, .string ⟨#[]⟩, .string ⟨#[]⟩, .int .u16 6, .int .u32 0, .string D3] (x 10) wx := by first | exact hd h16 | exact hd.1 h16 | exact hd.2 h16
      simp only [hg]
      clear hd
      go_simp
      go_at_call 8
      refine (PT.out g wx hcs).mono ?_
      rintro r wy ⟨A, c, A1, c1, A2, c2, rfl, o1, o2, o3⟩
      exact nextXR _ rfl (until_of ⟨A, c, A1, c1, A2, c2, rfl, o1.out hRb.size hRb, o2.out hRb.size hRb, o3.out hRb.size hRb⟩) (hR.next hdi o1.bel _) o1.bel
    · have h16 := hR.no16 hdi (by decide)
      have hRb := hR.bel h16
      simp [wordX] at hd ⊢
      obtain ⟨A, c, A1, c1, A2, c2, hv, o1, o2, o3⟩ : PW6 (fun A c => .tuple #[.agg #[.bool false, .slice none 0 0, .slice A 1 c], .nilIface]) w3.heap.size w3 (fun A1 c1 A2 c2 => [.string ⟨#[]⟩, .int .u16 6, .int .u32 0, .string D2, .string ⟨#[]⟩, .int .u16 6, .int .u32 0, .string D3, .slice A1 1 c1, .slice A2 1 c2]) [.string ⟨#[1, 120]⟩, .int .u16 99, .int .u32 0, .string ⟨#[]⟩] [.string ⟨#[1, 121]⟩, .int .u16 99, .int .u32 0, .string ⟨#[]⟩] (x 11) wx := hd h16
      simp only [hv]
      go_simp
      exact nextXR _ rfl ⟨⟨A, c, rfl⟩, until_of ⟨A, c, A1, c1, A2, c2, rfl, o1, o2, o3⟩⟩ (hR.next hdi (Below.refl _ _) _) (Below.refl _ _)
    · have h16 := hR.no16 hdi (by decide)
      have hRb := hR.bel h16
      simp [wordX] at hd ⊢
      obtain ⟨A, c, A1, c1, A2, c2, hv, o1, o2, o3⟩ : PW6 (fun A c => .tuple #[.agg #[.bool false, .slice none 0 0, .slice A 1 c], .nilIface]) w3.heap.size w3 (fun A1 c1 A2 c2 => [.string ⟨#[]⟩, .int .u16 6, .int .u32 0, .string D2, .string ⟨#[]⟩, .int .u16 6, .int .u32 0, .string D3, .slice A1 1 c1, .slice A2 1 c2]) [.string ⟨#[1, 120]⟩, .int .u16 99, .int .u32 0, .string ⟨#[]⟩] [.string ⟨#[1, 121]⟩, .int .u16 99, .int .u32 0, .string ⟨#[]⟩] (x 12) wx := hd.2 h16
      simp only [hv]
      go_simp
      exact nextXR _ rfl (until_of ⟨A, c, A1, c1, A2, c2, rfl, o1, o2, o3⟩) (hR.next hdi (Below.refl _ _) _) (Below.refl _ _)
    · simp [wordX] at hd ⊢
      obtain ⟨A, c, hv⟩ : shapeW (fun A c => .tuple #[.agg #[.bool false, .slice none 0 0, .slice A 1 c], .nilIface]) (x 12) wx := by first | exact hd.1 | exact hd.1.1
      simp only [hv]
      go_simp
      exact nextXR _ rfl rfl (hR.late _) (Below.refl _ _)
    · have h16 := hR.no16 hdi (by decide)
      have hRb := hR.bel h16
      simp [wordX] at hd ⊢
      go_simp; exact nextXR _ rfl (until_of ⟨_, rfl, hRb.size, Cs.new _ _ _ _⟩) (hR.next hdi ((Below.refl _ _).alloc (Nat.le_refl _) _) _) ((Below.refl _ _).alloc (Nat.le_refl _) _)
    · simp [wordX, isX] at hd ⊢
      go_simp; exact nextXR _ rfl rfl (hR.late _) (Below.refl _ _)
  · refine ⟨unskipped rfl, unskipped rfl, unskipped rfl, unskipped rfl, unskipped rfl, unskipped rfl, unskipped rfl, unskipped rfl, unskipped rfl, unskipped rfl, unskipped rfl, unskipped rfl, unskipped rfl, unskipped rfl, unskipped rfl, unskipped rfl, ?_, unskipped rfl, trivial⟩
    intro _ d x wx hR hdi hcl hsrc hd
    refine ⟨fun _ => ?_, fun hX => by simp at hX⟩
    have hall : ∀ i, i < 14 ∨ i = 15 → d i = true := fun i hi => by
      refine SrcX.reach (K := 16) hcl hsrc rfl 20 i (by omega) ?_
      have h16 : i < 16 := by omega
      have h14 : (i == 14) = false := by rw [beq_eq_false_iff_ne]; omega
      clear hi
      revert i
      decide +kernel
    have hRb := hR.bel hdi
    simp only [DoneX] at hd
    obtain ⟨-, -, -, -, -, -, -, -, -, -, -, -, -, h13, -, h15, -⟩ := hd
    obtain ⟨A, c, A1, c1, A2, c2, x13, o1, o2, o3⟩ : PW6 (fun A c => .agg #[.bool false, .slice none 0 0, .slice A 1 c]) w3.heap.size w3 (fun A1 c1 A2 c2 => [.string ⟨#[]⟩, .int .u16 6, .int .u32 0, .string D2, .string ⟨#[]⟩, .int .u16 6, .int .u32 0, .string D3, .slice A1 1 c1, .slice A2 1 c2]) [.string ⟨#[1, 120]⟩, .int .u16 99, .int .u32 0, .string ⟨#[]⟩] [.string ⟨#[1, 121]⟩, .int .u16 99, .int .u32 0, .string ⟨#[]⟩] (x 13) wx := h13 (hall 13 (by decide)) hdi
    obtain ⟨q, x15, hq, hcq⟩ : boxW w3.heap.size [.bool false, .slice none 0 0, .slice none 0 0] (x 15) wx := h15 (hall 15 (by decide)) hdi
    have n1 : ∀ k, (Value.slice A 1 c).ownBlock = some k → k ≠ q := fun k hk => by
      obtain ⟨A', c', e, -, -, h3⟩ := o1.slice3
      injection e with e1 e2 e3
      subst e1 e3
      rcases h3 with ⟨-, h, -⟩ | ⟨g, rfl, -⟩
      · cases h
      · injection hk with hk
        subst hk
        exact apart_bool (hcq.get 0 _) (o1.cell 0 _ rfl) (fun b => by intro e; cases e)
    have n2 : ∀ k, (Value.slice A1 1 c1).ownBlock = some k → k ≠ q := fun k hk => by
      obtain ⟨A', c', e, -, -, h3⟩ := o2.slice3
      injection e with e1 e2 e3
      subst e1 e3
      rcases h3 with ⟨-, h, -⟩ | ⟨g, rfl, -⟩
      · cases h
      · injection hk with hk
        subst hk
        exact apart_bool (hcq.get 0 _) (o2.cell 0 _ rfl) (fun b => by intro e; cases e)
    have n3 : ∀ k, (Value.slice A2 1 c2).ownBlock = some k → k ≠ q := fun k hk => by
      obtain ⟨A', c', e, -, -, h3⟩ := o3.slice3
      injection e with e1 e2 e3
      subst e1 e3
      rcases h3 with ⟨-, h, -⟩ | ⟨g, rfl, -⟩
      · cases h
      · injection hk with hk
        subst hk
        exact apart_bool (hcq.get 0 _) (o3.cell 0 _ rfl) (fun b => by intro e; cases e)
    have hst := setCells_heap wx q [.bool false, .slice none 0 0, .slice A 1 c] 0
    have hbs := below_setCells' hq [.bool false, .slice none 0 0, .slice A 1 c] 0 hRb
    have hX := hR.store hall undef (w' := wx.setCells q 0 [.bool false, .slice none 0 0, .slice A 1 c]) ⟨hbs, q, A, c, A1, c1, A2, c2, x15, hq, hcq.mid _ rfl,
      o1.block hbs (by rw [hst.1]; exact Nat.le_refl _) (fun k hk => hst.2 k (n1 k hk)),
      o2.block hbs (by rw [hst.1]; exact Nat.le_refl _) (fun k hk => hst.2 k (n2 k hk)),
      o3.block hbs (by rw [hst.1]; exact Nat.le_refl _) (fun k hk => hst.2 k (n3 k hk))⟩
    dsimp only
    refine wp_store_mid 31 _ _ rfl q 0 #[.bool false, .slice none 0 0, .slice A 1 c] x15 x13 (hcq.there 3 rfl) (by kernel_rfl) (by simp [Value.oneCell']) ?_
    refine nextKR _ rfl trivial hX ?_
    exact ⟨fun _ _ h => h, fun _ _ h => h, fun _ _ h => h, fun _ _ h => h, fun _ _ h => h, fun _ _ h => h, fun _ _ h => h, fun _ _ h => h, fun _ _ h => h, fun _ _ h => h, fun _ _ _ => until_self, fun _ _ _ => until_self, fun _ _ h => ⟨h.1, until_self⟩, fun _ _ _ => until_self, fun _ _ h => h, fun _ _ _ => until_self, fun h => absurd rfl h, fun _ _ h => h, trivial⟩
  intro x w5 d hall hR hx
  have hR16 := hR.f16 (hall 16 (by decide))
  obtain ⟨hb5, q, A, c, A1, c1, A2, c2, x15, hq, hcq, o1, o2, o3⟩ := hR16
  simp only [AllX] at hx
  obtain ⟨-, -, -, -, -, -, -, -, -, -, -, -, -, -, -, -, -, x17, -⟩ := hx
  have x17 : x 17 = .nilIface := x17
  rw [x15, x17]
  go_upto_region 4 with fail
  obtain ⟨A_, c_, e1, -, -, h1⟩ := o1.slice3
  injection e1 with e1 e2 e3
  subst e1 e3
  rcases h1 with ⟨-, h, -⟩ | ⟨g1, rfl, hg1, hg1'⟩
  · cases h
  obtain ⟨A_, c_, e1, -, -, h1⟩ := o2.slice3
  injection e1 with e1 e2 e3
  subst e1 e3
  rcases h1 with ⟨-, h, -⟩ | ⟨ga, rfl, hga, hga'⟩
  · cases h
  obtain ⟨A_, c_, e1, -, -, h1⟩ := o3.slice3
  injection e1 with e1 e2 e3
  subst e1 e3
  rcases h1 with ⟨-, h, -⟩ | ⟨gb, rfl, hgb, hgb'⟩
  · cases h
  have k2 := hcq.get 2 _
  have k8 := o1.cell 8 _ rfl
  have k9 := o1.cell 9 _ rfl
  have hql := hcq.lt
  have HB5 := Lib.hid hb5
  have HRA : Hid (∀ wx, Below w5.heap.size w5 wx → wx.rangeAt ga 0 [.string ⟨#[1, 120]⟩, .int .u16 99, .int .u32 0, .string ⟨#[]⟩]) := Lib.hid (fun wx hb j v hv => by rw [Nat.zero_add]; exact (o2.keep hb (Nat.le_refl _)).cell j v hv)
  have HRB : Hid (∀ wx, Below w5.heap.size w5 wx → wx.rangeAt gb 0 [.string ⟨#[1, 121]⟩, .int .u16 99, .int .u32 0, .string ⟨#[]⟩]) := Lib.hid (fun wx hb j v hv => by rw [Nat.zero_add]; exact (o3.keep hb (Nat.le_refl _)).cell j v hv)
  clear o1 o2 o3 hcq hb5 hR hall x15 x17 hq PT CS2
  refine wp_region_goesG data_follows (fun x => by simp [putsF, Act.put]; rfl) w5.heap.size w5
    [isV .nilIface, isV (.bool true), isV (.bool true), isV (.pointer (some ⟨q, 2, none⟩)), isV (.slice (some ⟨g1, 0, none⟩) 1 c), isV (.int .i64 1), isV (.bool true), isV (.bool true), isV (.bool true), isV (.pointer (some ⟨q, 2, none⟩)), isV (.slice (some ⟨g1, 0, none⟩) 1 c), isV (.pointer (some ⟨g1, 0, none⟩)), isV (.pointer (some ⟨g1, 8, none⟩)), isV (.slice (some ⟨ga, 0, none⟩) 1 c1), isV (.int .i64 1), isV (.bool true), isV (.bool true), isV (.bool true), isV (.pointer (some ⟨q, 2, none⟩)), isV (.slice (some ⟨g1, 0, none⟩) 1 c), isV (.pointer (some ⟨g1, 0, none⟩)), isV (.pointer (some ⟨g1, 9, none⟩)), isV (.slice (some ⟨gb, 0, none⟩) 1 c2), isV (.int .i64 1), isV (.bool true), isV (.bool true), isV (.bool true), isV (.pointer (some ⟨q, 2, none⟩)), isV (.slice (some ⟨g1, 0, none⟩) 1 c), isV (.pointer (some ⟨g1, 0, none⟩)), isV (.pointer (some ⟨g1, 8, none⟩)), isV (.slice (some ⟨ga, 0, none⟩) 1 c1), isV (.pointer (some ⟨ga, 0, none⟩)), isV VX, isV VX, isV (.bool true), isV (.bool true), isV (.bool true), isV (.pointer (some ⟨q, 2, none⟩)), isV (.slice (some ⟨g1, 0, none⟩) 1 c), isV (.pointer (some ⟨g1, 0, none⟩)), isV (.pointer (some ⟨g1, 9, none⟩)), isV (.slice (some ⟨gb, 0, none⟩) 1 c2), isV (.pointer (some ⟨gb, 0, none⟩)), isV VY, isV VY, isV (.bool true), isV (.bool true), isV (.bool true), isV (.func (.func 17) #[] #[]), isV VS3, litW 1 [.string ⟨#[]⟩, .int .u16 6, .int .u32 0, .string D3], isV (.bool true), isV (.bool true), isV (.bool true)]
    (by kernel_rfl) (by kernel_rfl) (by kernel_rfl) rfl ?_ (Below.refl _ _) ?_ ?_
  · repeat (first | exact trivial | refine ⟨by first | exact isV_stays _ | exact litW_stays _ _, ?_⟩)
  · refine ⟨?_, ?_, ?_, ?_, ?_, ?_, ?_, ?_, ?_, ?_, ?_, ?_, ?_, ?_, ?_, ?_, ?_, ?_, ?_, ?_, ?_, ?_, ?_, ?_, ?_, ?_, ?_, ?_, ?_, ?_, ?_, ?_, ?_, ?_, ?_, ?_, ?_, ?_, ?_, ?_, ?_, ?_, ?_, ?_, ?_, ?_, ?_, ?_, ?_, ?_, ?_, ?_, ?_, ?_, ?_, trivial⟩
    all_goals
      intro x wx hR hd
      simp at hd
      have k2' := (hR.cell (p := ⟨q, 2, none⟩) hql).trans k2
      have k8' := (hR.cell (p := ⟨g1, 8, none⟩) hg1').trans k8
      have k9' := (hR.cell (p := ⟨g1, 9, none⟩) hg1').trans k9
    · refine ⟨fun _ => ?_, fun hX => by first | (simp at hX; done) | (simp [hd] at hX; done)⟩
      (try simp [hd]); go_simp; exact next_same _ rfl rfl hR
    · refine ⟨fun _ => ?_, fun hX => by first | (simp at hX; done) | (simp [hd] at hX; done)⟩
      (try simp [hd]); go_simp; exact next_same _ rfl rfl hR
    · refine ⟨fun _ => ?_, fun hX => by first | (simp at hX; done) | (simp [hd] at hX; done)⟩
      (try simp [hd]); go_simp; exact next_same _ rfl rfl hR
    · refine ⟨fun _ => ?_, fun hX => by first | (simp at hX; done) | (simp [hd] at hX; done)⟩
      (try simp [hd]); go_simp; exact next_same _ rfl rfl hR
    · refine ⟨fun _ => ?_, fun hX => by first | (simp at hX; done) | (simp [hd] at hX; done)⟩
      (try simp [hd]); go_simp; exact next_same _ rfl rfl hR
    · refine ⟨fun _ => ?_, fun hX => by first | (simp at hX; done) | (simp [hd] at hX; done)⟩
      (try simp [hd]); go_simp; exact next_same _ rfl rfl hR
    · refine ⟨fun _ => ?_, fun hX => by first | (simp at hX; done) | (simp [hd] at hX; done)⟩
      (try simp [hd]); go_simp; exact next_same _ rfl rfl hR
    · refine ⟨fun _ => ?_, fun hX => by first | (simp at hX; done) | (simp [hd] at hX; done)⟩
      (try simp [hd]); go_simp; exact next_same _ rfl rfl hR
    · refine ⟨fun _ => ?_, fun hX => by first | (simp at hX; done) | (simp [hd] at hX; done)⟩
      (try simp [hd]); go_simp; exact next_same _ rfl rfl hR
    · refine ⟨fun _ => ?_, fun hX => by first | (simp at hX; done) | (simp [hd] at hX; done)⟩
      (try simp [hd]); go_simp; exact next_same _ rfl rfl hR
    · refine ⟨fun _ => ?_, fun hX => by first | (simp at hX; done) | (simp [hd] at hX; done)⟩
      (try simp [hd]); go_simp; exact next_same _ rfl rfl hR
    · refine ⟨fun _ => ?_, fun hX => by first | (simp at hX; done) | (simp [hd] at hX; done)⟩
      (try simp [hd]); go_simp; exact next_same _ rfl rfl hR
    · refine ⟨fun _ => ?_, fun hX => by first | (simp at hX; done) | (simp [hd] at hX; done)⟩
      (try simp [hd]); go_simp; exact next_same _ rfl rfl hR
    · refine ⟨fun _ => ?_, fun hX => by first | (simp at hX; done) | (simp [hd] at hX; done)⟩
      (try simp [hd]); go_simp; exact next_same _ rfl rfl hR
    · refine ⟨fun _ => ?_, fun hX => by first | (simp at hX; done) | (simp [hd] at hX; done)⟩
      (try simp [hd]); go_simp; exact next_same _ rfl rfl hR
    · refine ⟨fun _ => ?_, fun hX => by first | (simp at hX; done) | (simp [hd] at hX; done)⟩
      (try simp [hd]); go_simp; exact next_same _ rfl rfl hR
    · refine ⟨fun _ => ?_, fun hX => by first | (simp at hX; done) | (simp [hd] at hX; done)⟩
      (try simp [hd]); go_simp; exact next_same _ rfl rfl hR
    · refine ⟨fun _ => ?_, fun hX => by first | (simp at hX; done) | (simp [hd] at hX; done)⟩
      (try simp [hd]); go_simp; exact next_same _ rfl rfl hR
    · refine ⟨fun _ => ?_, fun hX => by first | (simp at hX; done) | (simp [hd] at hX; done)⟩
      (try simp [hd]); go_simp; exact next_same _ rfl rfl hR
    · refine ⟨fun _ => ?_, fun hX => by first | (simp at hX; done) | (simp [hd] at hX; done)⟩
      (try simp [hd]); go_simp; exact next_same _ rfl rfl hR
    · refine ⟨fun _ => ?_, fun hX => by first | (simp at hX; done) | (simp [hd] at hX; done)⟩
      (try simp [hd]); go_simp; exact next_same _ rfl rfl hR
    · refine ⟨fun _ => ?_, fun hX => by first | (simp at hX; done) | (simp [hd] at hX; done)⟩
      (try simp [hd]); go_simp; exact next_same _ rfl rfl hR
    · refine ⟨fun _ => ?_, fun hX => by first | (simp at hX; done) | (simp [hd] at hX; done)⟩
      (try simp [hd]); go_simp; exact next_same _ rfl rfl hR
    · refine ⟨fun _ => ?_, fun hX => by first | (simp at hX; done) | (simp [hd] at hX; done)⟩
      (try simp [hd]); go_simp; exact next_same _ rfl rfl hR
    · refine ⟨fun _ => ?_, fun hX => by first | (simp at hX; done) | (simp [hd] at hX; done)⟩
      (try simp [hd]); go_simp; exact next_same _ rfl rfl hR
    · refine ⟨fun _ => ?_, fun hX => by first | (simp at hX; done) | (simp [hd] at hX; done)⟩
      (try simp [hd]); go_simp; exact next_same _ rfl rfl hR
    · refine ⟨fun _ => ?_, fun hX => by first | (simp at hX; done) | (simp [hd] at hX; done)⟩
      (try simp [hd]); go_simp; exact next_same _ rfl rfl hR
    · refine ⟨fun _ => ?_, fun hX => by first | (simp at hX; done) | (simp [hd] at hX; done)⟩
      (try simp [hd]); go_simp; exact next_same _ rfl rfl hR
    · refine ⟨fun _ => ?_, fun hX => by first | (simp at hX; done) | (simp [hd] at hX; done)⟩
      (try simp [hd]); go_simp; exact next_same _ rfl rfl hR
    · refine ⟨fun _ => ?_, fun hX => by first | (simp at hX; done) | (simp [hd] at hX; done)⟩
      (try simp [hd]); go_simp; exact next_same _ rfl rfl hR
    · refine ⟨fun _ => ?_, fun hX => by first | (simp at hX; done) | (simp [hd] at hX; done)⟩
      (try simp [hd]); go_simp; exact next_same _ rfl rfl hR
    · refine ⟨fun _ => ?_, fun hX => by first | (simp at hX; done) | (simp [hd] at hX; done)⟩
      (try simp [hd]); go_simp; exact next_same _ rfl rfl hR
    · refine ⟨fun _ => ?_, fun hX => by first | (simp at hX; done) | (simp [hd] at hX; done)⟩
      (try simp [hd]); go_simp; exact next_same _ rfl rfl hR
    · refine ⟨fun _ => ?_, fun hX => by first | (simp at hX; done) | (simp [hd] at hX; done)⟩
      refine wp_load_mid 41 _ rfl ga 0 (by simp [go_sem, hd]) _ _ (HRA.out wx hR) Tryd.underlying41 rfl (by kernel_rfl) ?_
      exact next_same _ rfl HVX.out.symm hR
    · refine ⟨fun _ => ?_, fun hX => by first | (simp at hX; done) | (simp [hd] at hX; done)⟩
      refine wp_load_mid 41 _ rfl bx 0 (by simp [go_sem, hd]) _ _ (HRX.out wx (below_trans HB5.out HB5.out.size hR)) Tryd.underlying41 rfl (by kernel_rfl) ?_
      exact next_same _ rfl HVX.out.symm hR
    · refine ⟨fun _ => ?_, fun hX => by first | (simp at hX; done) | (simp [hd] at hX; done)⟩
      first
        | (obtain ⟨hd0, hd1, -⟩ := hd; exact wp_binop _ _ _ _ _ rfl hd0 hd1 (by rw [HVX.out]; first | kernel_rfl | rfl) (HEX.out wx) (next_same _ rfl rfl hR))
        | (obtain ⟨hd0, hd1⟩ := hd; exact wp_binop _ _ _ _ _ rfl hd0 hd1 (by rw [HVX.out]; first | kernel_rfl | rfl) (HEX.out wx) (next_same _ rfl rfl hR))
    · refine ⟨fun _ => ?_, fun hX => by first | (simp at hX; done) | (simp [hd] at hX; done)⟩
      (try simp [hd]); go_simp; exact next_same _ rfl rfl hR
    · refine ⟨fun _ => ?_, fun hX => by first | (simp at hX; done) | (simp [hd] at hX; done)⟩
      (try simp [hd]); go_simp; exact next_same _ rfl rfl hR
    · refine ⟨fun _ => ?_, fun hX => by first | (simp at hX; done) | (simp [hd] at hX; done)⟩
      (try simp [hd]); go_simp; exact next_same _ rfl rfl hR
    · refine ⟨fun _ => ?_, fun hX => by first | (simp at hX; done) | (simp [hd] at hX; done)⟩
      (try simp [hd]); go_simp; exact next_same _ rfl rfl hR
    · refine ⟨fun _ => ?_, fun hX => by first | (simp at hX; done) | (simp [hd] at hX; done)⟩
      (try simp [hd]); go_simp; exact next_same _ rfl rfl hR
    · refine ⟨fun _ => ?_, fun hX => by first | (simp at hX; done) | (simp [hd] at hX; done)⟩
      (try simp [hd]); go_simp; exact next_same _ rfl rfl hR
    · refine ⟨fun _ => ?_, fun hX => by first | (simp at hX; done) | (simp [hd] at hX; done)⟩
      (try simp [hd]); go_simp; exact next_same _ rfl rfl hR
    · refine ⟨fun _ => ?_, fun hX => by first | (simp at hX; done) | (simp [hd] at hX; done)⟩
      (try simp [hd]); go_simp; exact next_same _ rfl rfl hR
    · refine ⟨fun _ => ?_, fun hX => by first | (simp at hX; done) | (simp [hd] at hX; done)⟩
      refine wp_load_mid 41 _ rfl gb 0 (by simp [go_sem, hd]) _ _ (HRB.out wx hR) Tryd.underlying41 rfl (by kernel_rfl) ?_
      exact next_same _ rfl HVY.out.symm hR
    · refine ⟨fun _ => ?_, fun hX => by first | (simp at hX; done) | (simp [hd] at hX; done)⟩
      refine wp_load_mid 41 _ rfl by_ 0 (by simp [go_sem, hd]) _ _ (HRY.out wx (below_trans HB5.out HB5.out.size hR)) Tryd.underlying41 rfl (by kernel_rfl) ?_
      exact next_same _ rfl HVY.out.symm hR
    · refine ⟨fun _ => ?_, fun hX => by first | (simp at hX; done) | (simp [hd] at hX; done)⟩
      first
        | (obtain ⟨hd0, hd1, -⟩ := hd; exact wp_binop _ _ _ _ _ rfl hd0 hd1 (by rw [HVY.out]; first | kernel_rfl | rfl) (HEY.out wx) (next_same _ rfl rfl hR))
        | (obtain ⟨hd0, hd1⟩ := hd; exact wp_binop _ _ _ _ _ rfl hd0 hd1 (by rw [HVY.out]; first | kernel_rfl | rfl) (HEY.out wx) (next_same _ rfl rfl hR))
    · refine ⟨fun _ => ?_, fun hX => by first | (simp at hX; done) | (simp [hd] at hX; done)⟩
      (try simp [hd]); go_simp; exact next_same _ rfl rfl hR
    · refine ⟨fun _ => ?_, fun hX => by first | (simp at hX; done) | (simp [hd] at hX; done)⟩
      (try simp [hd]); go_simp; exact next_same _ rfl rfl hR
    · refine ⟨fun _ => ?_, fun hX => by first | (simp at hX; done) | (simp [hd] at hX; done)⟩
      (try simp [hd]); go_simp; exact next_same _ rfl rfl hR
    · refine ⟨fun _ => ?_, fun hX => by first | (simp at hX; done) | (simp [hd] at hX; done)⟩
      try simp [hd]
      go_simp
      go_at_call 17
      refine (CS3.out wx).mono ?_
      rintro r wy ⟨rfl, hb⟩
      exact next_call _ rfl rfl hR hR.size hb
    · refine ⟨fun _ => ?_, fun hX => by first | (simp at hX; done) | (simp [hd] at hX; done)⟩
      have hx50 : x 50 = VS3 := by first | exact hd | exact hd.1 | exact hd.2
      simp only [hx50, HVS3.out]
      clear hd
      go_simp
      exact next_call _ rfl (litW_new 1 _ _ _ _) hR hR.size ((Below.refl _ _).alloc (Nat.le_refl _) _)
    · refine ⟨fun _ => ?_, fun hX => by first | (simp at hX; done) | (simp [hd] at hX; done)⟩
      obtain ⟨g, hg, hcs⟩ : litW 1 [.string ⟨#[]⟩, .int .u16 6, .int .u32 0, .string D3] (x 51) wx := by first | exact hd | exact hd.1 | exact hd.2
      simp only [hg]
      clear hd
      go_simp
      go_at_call 19
      refine (DN.out g wx hcs).mono ?_
      rintro r wy ⟨rfl, hb⟩
      exact next_call _ rfl rfl hR hR.size hb
    · refine ⟨fun _ => ?_, fun hX => by first | (simp at hX; done) | (simp [hd] at hX; done)⟩
      (try simp [hd]); go_simp; exact next_same _ rfl rfl hR
    · refine ⟨fun _ => ?_, fun hX => by first | (simp at hX; done) | (simp [hd] at hX; done)⟩
      (try simp [hd]); go_simp; exact next_same _ rfl rfl hR
  intro x w7 hR hx
  simp [AllWords] at hx
  have h54 : x 54 = .bool true := by simp [hx]
  rw [h54]
  clear hx h54
  have HB7 := Lib.hid (below_trans HB3.out HB3.out.size (below_trans HB5.out HB5.out.size hR))
  clear hR
  go_wp2_with fail
  go_ret
  exact ⟨rfl, HB7.out⟩
end Go.Proofs.YtpbbnpglcadimaaDoor
namespace Go.Proofs.YtpbbnpglcadimaaDoor
open Go.RowKit
set_option linter.unusedVariables false
set_option linter.unusedSimpArgs false
set_option maxRecDepth 20000
attribute [local simp] putsF isV wordOf Deps Region.binds Region.wanted Act.put wantedX isB
theorem full_facts (n c L : Nat) (h : L = n - 1) (hc : n ≤ c) (h2 : 2 ≤ n) : ¬ c = 1 ∧ (1 : Int) ≤ L ∧ 1 ≤ L ∧ (L : Int) ≤ c ∧ L ≤ c ∧ ¬ L = 0 := by omega
end Go.Proofs.YtpbbnpglcadimaaDoor
namespace Go.Proofs.YtpbbnpglcadimaaDoor
open Go.RowKit
set_option linter.unusedVariables false
set_option linter.unusedSimpArgs false
set_option maxRecDepth 20000
theorem dataOf_ty9 (q : Nat) (X s : ByteArray) : (dataOf q X s).1 < 65536 := by
  unfold dataOf
  (repeat' split) <;> first | decide | (simp; done) | omega
def fit9 (r : RecT) : Prop := (0 ≤ r.2.1 ∧ r.2.1 < 65536) ∧ r.1.size ≤ 100000 ∧ r.2.2.2.size ≤ 100000
theorem fit9_soa (o : ByteArray) (ho : o.size ≤ 254) (n : Nat) : fit9 (soaR o n) := by
  refine ⟨⟨by show (0 : Int) ≤ 6; decide, by show (6 : Int) < 65536; decide⟩, Nat.le_trans ho (by decide), ?_⟩
  have hl := nameZ_len [] (by simp)
  show (soaD n).size ≤ 100000
  unfold soaD
  rw [mk_size, dataL_len9]
  simp
  omega
theorem fit9_rec (a : ActT) : fit9 (recOf a) := ⟨⟨Int.natCast_nonneg _, by
  have := dataOf_ty9 (a.2.1.toNat % 8) (nmB a.2.2.2.1.2.2.2) (txtB a.2.2.2.2)
  show ((dataOf _ _ _).1 : Int) < 65536
  omega⟩, Nat.le_trans (recOf_name a) (by decide), Nat.le_trans (recOf_data a) (by decide)⟩
theorem underN_le (o s : ByteArray) (ho : o.size ≤ 254) : (underN o s).size ≤ 254 := by
  unfold underN
  split
  · rename_i h
    unfold joinOf at h ⊢
    split
    · rename_i h2
      show (s ++ o).size ≤ 254
      rw [ByteArray.size_append]; exact h2.2.2
    · rename_i h2
      rw [if_neg h2] at h; cases h
  · exact ho
theorem fit9_under (o : ByteArray) (ho : o.size ≤ 254) (s : Bool) (a : ActT) : fit9 (underR o s a) := by
  have h := fit9_rec a
  unfold underR
  split
  · split
    · exact fit9_soa o ho _
    · exact ⟨⟨by show (0 : Int) ≤ 16; decide, by show (16 : Int) < 65536; decide⟩, Nat.le_trans ho (by decide), by show (ByteArray.mk #[1, 120]).size ≤ 100000; decide⟩
  · exact ⟨h.1, Nat.le_trans (underN_le o _ ho) (by decide), h.2.2⟩
theorem fit9_unders (o : ByteArray) (ho : o.size ≤ 254) (s : Bool) (ds : List ActT) (most : Nat) : ∀ r ∈ undersOf o s ds most, fit9 r := by
  intro r hr
  unfold undersOf at hr
  obtain ⟨a, -, rfl⟩ := List.mem_map.1 hr
  exact fit9_under o ho s a
theorem originB_le (n : Nat) : (originB n).size ≤ 254 := by
  unfold originB
  rw [mk_size]
  exact nameZ_le _ (by intro z hz; simp at hz; omega)
theorem may_fun : ∃ m : RecT → Bool, ∀ r, fit9 r → ∀ w, Calls Tryd.prog 40 #[recV r] w fun e w' => e = .returned (.bool (m r)) ∧ Below w.heap.size w w' := by
  have key : ∀ r : RecT, ∃ q : Bool, fit9 r → ∀ w, Calls Tryd.prog 40 #[recV r] w fun e w' => e = .returned (.bool q) ∧ Below w.heap.size w w' := fun r => by
    by_cases h : fit9 r
    · obtain ⟨q, hq⟩ := mayrec_any r h.1 h.2.1 h.2.2
      exact ⟨q, fun _ => hq⟩
    · exact ⟨false, fun h' => absurd h' h⟩
  exact ⟨fun r => Classical.choose (key r), fun r => Classical.choose_spec (key r)⟩
end Go.Proofs.YtpbbnpglcadimaaDoor
namespace Go.Proofs.YtpbbnpglcadimaaDoor
open Go.RowKit
set_option linter.unusedVariables false
set_option linter.unusedSimpArgs false
set_option maxRecDepth 20000
/-- A row of acts: where it lies, how long it is, its room, what it holds. -/
abbrev RowA := Option Addr × Nat × Nat × List ActT
structure Rows9 (w : World) (A : Option Addr) (np : Nat) (rows : List RowA) : Prop where
  len : rows.length = np
  at_ : ∀ (i : Nat) (r : RowA), rows[i]? = some r → ∃ b off, A = some ⟨b, off, none⟩ ∧ b < w.heap.size ∧ w.cell? ⟨b, off + i, none⟩ = some (.slice r.1 r.2.1 r.2.2.1)
  acts : ∀ (i : Nat) (r : RowA), rows[i]? = some r → ActsAt w r.1 r.2.1 r.2.2.2 ∧ r.2.1 ≤ maxLen
theorem Rows9.below {w w' : World} {A : Option Addr} {np : Nat} {rows : List RowA} (h : Rows9 w A np rows) (hb : Below w.heap.size w w') : Rows9 w' A np rows := by
  refine ⟨h.len, fun i r hr => ?_, fun i r hr => ⟨(h.acts i r hr).1.below hb, (h.acts i r hr).2⟩⟩
  obtain ⟨b, off, hA, hlt, hc⟩ := h.at_ i r hr
  exact ⟨b, off, hA, Nat.lt_of_lt_of_le hlt hb.size, (hb.cell (p := ⟨b, off + i, none⟩) hlt).trans hc⟩
def rowAt (rows : List RowA) (i : Nat) : List ActT := (rows[i]?.map fun r => r.2.2.2).getD []
/-- A number, some further on. -/
def serP (fr k : Nat) : Nat := (fr + k) % 4294967296
def stepR (o : ByteArray) (fr : Nat) (rows : List RowA) (k : Nat) : List RecT :=
  [soaR o (serP fr k)] ++ undersOf o false (rowAt rows (2 * k)) 5 ++ [soaR o (serP fr (k + 1))] ++ undersOf o false (rowAt rows (2 * k + 1)) 5
def chainK (o : ByteArray) (fr : Nat) (rows : List RowA) : Nat → List RecT
  | 0 => []
  | k + 1 => chainK o fr rows k ++ stepR o fr rows k
/-- A chain of deltas. -/
def chainR (o : ByteArray) (fr : Nat) (rows : List RowA) (n : Nat) : List RecT := [soaR o (serP fr n)] ++ chainK o fr rows n ++ [soaR o (serP fr n)]
theorem stepR_len (o : ByteArray) (fr : Nat) (rows : List RowA) (k : Nat) : (stepR o fr rows k).length ≤ 12 := by
  unfold stepR
  simp only [List.length_append, List.length_cons, List.length_nil, undersOf_len]
  omega
theorem chainK_len (o : ByteArray) (fr : Nat) (rows : List RowA) : ∀ k, (chainK o fr rows k).length ≤ 12 * k
  | 0 => Nat.le_refl _
  | k + 1 => by
    have := chainK_len o fr rows k
    have := stepR_len o fr rows k
    unfold chainK
    rw [List.length_append]
    omega
theorem fit9_chain (o : ByteArray) (ho : o.size ≤ 254) (fr : Nat) (rows : List RowA) (n : Nat) : ∀ r ∈ chainR o fr rows n, fit9 r := by
  have hk : ∀ k, ∀ r ∈ chainK o fr rows k, fit9 r := by
    intro k
    induction k with
    | zero => intro r hr; cases hr
    | succ k ih =>
      intro r hr
      unfold chainK at hr
      rcases List.mem_append.1 hr with hr | hr
      · exact ih r hr
      · unfold stepR at hr
        simp only [List.mem_append, List.mem_singleton] at hr
        rcases hr with ((rfl | hr) | rfl) | hr
        · exact fit9_soa o ho _
        · exact fit9_unders o ho _ _ _ r hr
        · exact fit9_soa o ho _
        · exact fit9_unders o ho _ _ _ r hr
  intro r hr
  unfold chainR at hr
  simp only [List.mem_append, List.mem_singleton] at hr
  rcases hr with (rfl | hr) | rfl
  · exact fit9_soa o ho _
  · exact hk n r hr
  · exact fit9_soa o ho _
/-- A list that grows, and a box that stays, in another block. -/
structure CH (W : World) (gb : Nat) (cs : List Value) (v : Value) (n : Nat) (l : List Value) (w : World) : Prop where
  obm : OBM 4 W.heap.size W v n l w
  box : Cs w gb cs
  own : ∀ q, v.ownBlock = some q → gb < q
theorem CH.below {W w w' : World} {gb n : Nat} {cs l : List Value} {v : Value} (h : CH W gb cs v n l w) (hb : Below w.heap.size w w') : CH W gb cs v n l w' := ⟨h.obm.keep hb (Nat.le_refl _), h.box.below hb, h.own⟩
theorem CH.alloc {W w : World} {gb n : Nat} {cs l : List Value} {v : Value} (h : CH W gb cs v n l w) (o : Obj) : CH W gb cs v n l (w.alloc o) := h.below ((Below.refl _ _).alloc (Nat.le_refl _) _)
theorem CH.app {W w w' : World} {gb n n' : Nat} {cs l l' : List Value} {v v' : Value} (h : CH W gb cs v n l w) (q1 : OBM 4 W.heap.size W v' n' l' w') (q2 : w.heap.size ≤ w'.heap.size) (q3 : ∀ k, k < w.heap.size → some k ≠ v.ownBlock → w'.heap[k]? = w.heap[k]?) (q4 : v'.ownBlock = v.ownBlock ∨ v'.ownBlock = some w.heap.size) : CH W gb cs v' n' l' w' := by
  refine ⟨q1, h.box.block (q3 gb h.box.lt (fun e => by have := h.own gb e.symm; omega)) q2, fun q hq => ?_⟩
  rcases q4 with e | e
  · rw [e] at hq; exact h.own q hq
  · rw [e] at hq; injection hq with hq; have := h.box.lt; omega
theorem ch_len (o : ByteArray) (fr : Nat) (rows : List RowA) (k N : Nat) (hk : k < N) (hN : N ≤ 4) (a b : Nat) (ha : a ≤ 5) (hb : b ≤ 5) : 1 + (chainK o fr rows k).length + 1 ≤ 100 ∧ 1 + (chainK o fr rows k).length + 1 + a ≤ 100 ∧ 1 + (chainK o fr rows k).length + 1 + a + 1 ≤ 100 ∧ 1 + (chainK o fr rows k).length + 1 + a + 1 + b ≤ 100 := by
  have := chainK_len o fr rows k
  refine ⟨by omega, by omega, by omega, by omega⟩
theorem idx_facts (k K2 K3 N np : Nat) (h2 : K2 = 2 * k) (h3 : K3 = 2 * k + 1) (hk : k < N) (hN : N ≤ 4) (hnp : 2 * N ≤ np) : wrap64 (2 * (k : Int)) = (K2 : Int) ∧ IntKind.i64.wrap (2 * (k : Int)) = (K2 : Int) ∧ wrap64 ((K2 : Int) + 1) = (K3 : Int) ∧ IntKind.i64.wrap ((K2 : Int) + 1) = (K3 : Int) ∧ (K2 : Int) < np ∧ K2 < np ∧ (K3 : Int) < np ∧ K3 < np := by
  refine ⟨by unfold wrap64; omega, by rw [IntKind.wrap_i64]; omega, by unfold wrap64; omega, by rw [IntKind.wrap_i64]; omega, by omega, by omega, by omega, by omega⟩
theorem len_max {n : Nat} (h : n ≤ 100) : n ≤ maxLen ∧ n * 40 ≤ 140737488355328 := by unfold maxLen; omega
theorem obm_of_cs9 {B g : Nat} {W w : World} {a b c d : Value} (hb : Below B W w) (hs : B ≤ w.heap.size) (hg : B ≤ g) (h : Cs w g [a, b, c, d]) : OBM 4 B W (.slice (some ⟨g, 0, none⟩) 1 1) 1 [a, b, c, d] w := by
  refine ⟨hb, hs, rfl, .inr ⟨g, 1, rfl, hg, h.lt, Nat.le_refl _, by decide, fun j hj => ?_, fun j u hu => h.get j u hu⟩⟩
  have h1 := h.2 j (by simpa using hj)
  exact ⟨by rw [h1.1]; rfl, h1.2⟩
theorem serP_lt (fr k : Nat) : serP fr k < 4294967296 := Nat.mod_lt _ (by decide)
theorem serP_wrap (fr k : Nat) (hf : fr < 4294967296) (hk : k < 16) : IntKind.u32.wrap (k : Int) = (k : Int) ∧ IntKind.u32.wrap ((fr : Int) + (k : Int)) = ((serP fr k : Nat) : Int) ∧ IntKind.u32.wrap (((serP fr k : Nat) : Int) + 1) = ((serP fr (k + 1) : Nat) : Int) := by
  unfold serP
  refine ⟨?_, ?_, ?_⟩
  · show (k : Int) % 4294967296 = k; omega
  · show ((fr : Int) + k) % 4294967296 = _; omega
  · show ((((fr + k) % 4294967296 : Nat) : Int) + 1) % 4294967296 = _; omega
set_option maxHeartbeats 6400000 in
theorem chain_any (o : ByteArray) (fr : Nat) (A : Option Addr) (np cp : Nat) (rows : List RowA) (w : World) (h : Rows9 w A np rows) (hf : fr < 4294967296) (hob : o.size ≤ 254) (hnp : np ≤ 9223372036854775807) :
    Calls Tryd.prog 7 #[.string o, .int .u32 (fr : Nat), .slice A np cp] w fun e w' => ∃ v, e = .returned v ∧ OBM 4 w.heap.size w v (chainR o fr rows (min (np / 2) 4)).length (flatR (chainR o fr rows (min (np / 2) 4))) w' := by
  obtain ⟨N, hN⟩ : ∃ N, N = min (np / 2) 4 := ⟨_, rfl⟩
  rw [← hN]
  have hN4 : N ≤ 4 := by omega
  have hN2 : 2 * N ≤ np := by omega
  obtain ⟨i0, hi, hz0, hz1, hz2⟩ := info_parts4 rec_info
  have SO : Hid (∀ k w, Calls Tryd.prog 10 #[.string o, .int .u32 (serP fr k : Nat)] w fun e w' => e = .returned (.agg #[.string o, .int .u16 6, .int .u32 9, .string (soaD (serP fr k))]) ∧ Below w.heap.size w w') := Lib.hid (fun k w => soa9_any o (serP fr k) (serP_lt fr k) w)
  have HW := Lib.hid (fun k (hk : k < 16) => serP_wrap fr k hf hk)
  obtain ⟨DN, hDN⟩ : ∃ D, D = soaD (serP fr N) := ⟨_, rfl⟩
  have HDN := Lib.hid hDN
  have SN := SO.out N
  rw [← hDN] at SN
  have SN := Lib.hid SN
  have HH := Lib.hid h
  have HNN := Lib.hid (And.intro hN4 hN2)
  have hwN := (HW.out N (by omega)).1
  have hwN2 := (HW.out N (by omega)).2.1
  have hnd : (np : Int).tdiv 2 = ((np / 2 : Nat) : Int) := by rw [Int.tdiv_eq_ediv_of_nonneg (by omega)]; omega
  obtain ⟨HV, hHV⟩ : ∃ q, q = np / 2 := ⟨_, rfl⟩
  rw [← hHV] at hnd
  have hnd2 : (np : Int) / 2 = (HV : Int) := by omega
  have hmin1 : (if (4 : Int) < HV then (4 : Int) else (HV : Int)) = (N : Int) := by split <;> omega
  have hmin2 : (if 4 < HV then (4 : Int) else (HV : Int)) = (N : Int) := by split <;> omega
  clear h hDN hN4 hN2 hN hHV
  go_enter Tryd.func7, Tryd.ntmps7
  go_wp2_with fail
  refine (SN.out _).mono ?_
  rintro e wS ⟨rfl, hbS⟩
  have hcx := (Cs.new wS #[.string o, .int .u16 6, .int .u32 9, .string DN] 41 [.string o, .int .u16 6, .int .u32 9, .string DN]).alloc (.cells #[.string o, .int .u16 6, .int .u32 9, .string DN] 41)
  have hbx := (hbS.alloc hbS.size (.cells #[.string o, .int .u16 6, .int .u32 9, .string DN] 41)).alloc (Nat.le_trans hbS.size (by simp)) (.cells #[.string o, .int .u16 6, .int .u32 9, .string DN] 41)
  have hcy := Cs.new (wS.alloc (.cells #[.string o, .int .u16 6, .int .u32 9, .string DN] 41)) #[.string o, .int .u16 6, .int .u32 9, .string DN] 41 [.string o, .int .u16 6, .int .u32 9, .string DN]
  rw [show (wS.alloc (.cells #[.string o, .int .u16 6, .int .u32 9, .string DN] 41)).heap.size = wS.heap.size + 1 by simp] at hcy
  have HGS := Lib.hid hbS.size
  have H3 := Lib.hid (And.intro hcx (And.intro hcy hbx))
  clear hcx hcy hbx hbS
  go_upto_region 4 with fail
  obtain ⟨hcx, hcy, hbx⟩ := H3.out
  generalize (wS.alloc (.cells #[.string o, .int .u16 6, .int .u32 9, .string DN] 41)).alloc (.cells #[.string o, .int .u16 6, .int .u32 9, .string DN] 41) = wL at *
  obtain ⟨g9, hg9⟩ : ∃ g, g = wS.heap.size + 1 := ⟨_, rfl⟩
  obtain ⟨gb, hgb⟩ : ∃ g, g = wS.heap.size := ⟨_, rfl⟩
  rw [← hg9] at hcy ⊢
  rw [← hgb] at hcx ⊢
  have hgg : gb < g9 := by omega
  have hgw : w.heap.size ≤ g9 := by have := HGS.out; omega
  have X0 : Hid (CH w gb [.string o, .int .u16 6, .int .u32 9, .string DN] (.slice (some ⟨g9, 0, none⟩) 1 1) 1 [.string o, .int .u16 6, .int .u32 9, .string DN] wL) := Lib.hid ⟨obm_of_cs9 hbx hbx.size hgw hcy, hcx, fun q hq => by injection hq with hq; subst hq; exact hgg⟩
  clear hcx hcy hbx hg9 hgb hgg hgw H3 HGS
  go_wp2_with fail
  go_loopw [9, 10] (fun v9 vk wr => ∃ k : Nat, k ≤ N ∧ vk = .int .i64 (k : Nat) ∧ Hid (CH w gb [.string o, .int .u16 6, .int .u32 9, .string DN] v9 (1 + (chainK o fr rows k).length) ([.string o, .int .u16 6, .int .u32 9, .string DN] ++ flatR (chainK o fr rows k)) wr)) (fun _ vk _ => N - (intOf vk).toNat)
  case atStart => exact ⟨0, Nat.zero_le _, rfl, X0⟩
  case round =>
    obtain ⟨k, hk, rfl, HX⟩ := hrel
    by_cases hlt : k < N
    · have hlt' : (k : Int) < N := by omega
      have hn4 := HNN.out.1
      have hn2 := HNN.out.2
      obtain ⟨hwk1, hwk2, hwk3⟩ := HW.out k (by omega)
      obtain ⟨K2, hK2⟩ : ∃ q, q = 2 * k := ⟨_, rfl⟩
      obtain ⟨K3, hK3⟩ : ∃ q, q = 2 * k + 1 := ⟨_, rfl⟩
      obtain ⟨⟨A1, n1, c1, d1⟩, hr1⟩ : ∃ r, rows[K2]? = some r := ⟨_, List.getElem?_eq_getElem (by rw [HH.out.len]; omega)⟩
      obtain ⟨⟨A2, n2, c2, d2⟩, hr2⟩ : ∃ r, rows[K3]? = some r := ⟨_, List.getElem?_eq_getElem (by rw [HH.out.len]; omega)⟩
      obtain ⟨bb, off, rfl, hbb, hcl1⟩ := HH.out.at_ K2 _ hr1
      obtain ⟨_, _, hAe, _, hcl2⟩ := HH.out.at_ K3 _ hr2
      injection hAe with hAe; injection hAe with e1 e2; subst e1 e2
      have ac1 := HH.out.acts K2 _ hr1
      have ac2 := HH.out.acts K3 _ hr2
      obtain ⟨U1, hU1⟩ : ∃ U, U = undersOf o false d1 5 := ⟨_, rfl⟩
      obtain ⟨U2, hU2⟩ : ∃ U, U = undersOf o false d2 5 := ⟨_, rfl⟩
      have UN1 : Hid (∀ wx, Below w.heap.size w wx → Calls Tryd.prog 12 #[.string o, .slice A1 n1 c1, .int .i64 5, .bool false] wx fun e w' => ∃ v, e = .returned v ∧ OBM 4 wx.heap.size wx v U1.length (flatR U1) w') := Lib.hid (fun wx hb => by rw [hU1]; exact under_any o A1 n1 c1 5 false d1 wx (ac1.1.below hb) ac1.2 (by decide) (Nat.le_trans hob (by decide)))
      have UN2 : Hid (∀ wx, Below w.heap.size w wx → Calls Tryd.prog 12 #[.string o, .slice A2 n2 c2, .int .i64 5, .bool false] wx fun e w' => ∃ v, e = .returned v ∧ OBM 4 wx.heap.size wx v U2.length (flatR U2) w') := Lib.hid (fun wx hb => by rw [hU2]; exact under_any o A2 n2 c2 5 false d2 wx (ac2.1.below hb) ac2.2 (by decide) (Nat.le_trans hob (by decide)))
      have hKC1 : Hid (∀ wx, Below w.heap.size w wx → wx.cell? ⟨bb, off + K2, none⟩ = some (.slice A1 n1 c1)) := Lib.hid (fun wx hb => (hb.cell (p := ⟨bb, off + K2, none⟩) hbb).trans hcl1)
      have hKC2 : Hid (∀ wx, Below w.heap.size w wx → wx.cell? ⟨bb, off + K3, none⟩ = some (.slice A2 n2 c2)) := Lib.hid (fun wx hb => (hb.cell (p := ⟨bb, off + K3, none⟩) hbb).trans hcl2)
      have hst : chainK o fr rows (k + 1) = chainK o fr rows k ++ ([soaR o (serP fr k)] ++ U1 ++ [soaR o (serP fr (k + 1))] ++ U2) := by
        show chainK o fr rows k ++ stepR o fr rows k = _
        unfold stepR rowAt
        rw [← hK3, ← hK2, hr1, hr2, hU1, hU2]
        rfl
      obtain ⟨l1, l2, l3, l4⟩ := ch_len o fr rows k N hlt hn4 U1.length U2.length (by rw [hU1, undersOf_len]; omega) (by rw [hU2, undersOf_len]; omega)
      have LN1 := Lib.hid (len_max l1)
      have LN2 := Lib.hid (len_max l2)
      have LN3 := Lib.hid (len_max l3)
      have LN4 := Lib.hid (len_max l4)
      have S1C := SO.out k
      have S2C := SO.out (k + 1)
      obtain ⟨D1, hD1⟩ : ∃ D, D = soaD (serP fr k) := ⟨_, rfl⟩
      obtain ⟨D2, hD2⟩ : ∃ D, D = soaD (serP fr (k + 1)) := ⟨_, rfl⟩
      rw [← hD1] at S1C
      rw [← hD2] at S2C
      have hfl : flatR (chainK o fr rows (k + 1)) = flatR (chainK o fr rows k) ++ ([.string o, .int .u16 6, .int .u32 9, .string D1] ++ flatR U1 ++ [.string o, .int .u16 6, .int .u32 9, .string D2] ++ flatR U2) := by
        rw [hst, hD1, hD2]
        unfold flatR
        simp [recCells, soaR]
      have hln : (chainK o fr rows (k + 1)).length = (chainK o fr rows k).length + (1 + U1.length + 1 + U2.length) := by
        rw [hst]; simp; omega
      have HFL := Lib.hid hfl
      have HLN := Lib.hid hln
      obtain ⟨S1, hS1⟩ : ∃ q, q = serP fr k := ⟨_, rfl⟩
      obtain ⟨S2, hS2⟩ : ∃ q, q = serP fr (k + 1) := ⟨_, rfl⟩
      rw [← hS1] at S1C hwk2 hwk3
      rw [← hS2] at S2C hwk3
      have S1C := Lib.hid S1C
      have S2C := Lib.hid S2C
      obtain ⟨m1, m2, m3, m4, m5, m6, m7, m8⟩ := idx_facts k K2 K3 N np hK2 hK3 hlt hn4 hn2
      clear hK2 hK3 hr1 hr2 hbb hcl1 hcl2 ac1 ac2 hU1 hU2 hst l1 l2 l3 l4 hD1 hD2 hfl hln hS1 hS2 hn4 hn2
      go_wp2_with fail
      refine (S1C.out _).mono ?_
      rintro e waB ⟨rfl, hb⟩
      have hcB := Lib.hid ((HX.out.below hb).alloc (.cells #[.string o, .int .u16 6, .int .u32 9, .string D1] 41))
      have hSB : Hid (Src Tryd.prog 4 27 (.slice (some ⟨waB.heap.size, 0, none⟩) 1 1) 1 [.string o, .int .u16 6, .int .u32 9, .string D1] (waB.alloc (.cells #[.string o, .int .u16 6, .int .u32 9, .string D1] 41))) := by
        refine Lib.hid (Src.ofSlice _ Tryd.underlying27 _ 1 1 _ rfl ?_ (recCells_one (o, 6, 9, D1)))
        exact news_at waB #[.string o, .int .u16 6, .int .u32 9, .string D1] _
      have hoB := Lib.hid hcB.out.obm
      clear hb
      go_wp2_with (first | (at_builtin; go_loud (refine wpList_append_obm rfl _ _ 27 27 rfl 41 i0 _ 40 Tryd.underlying27 hi hz0 hz1 hz2 rfl hoB.out rfl rfl hSB.out rfl LN1.out.1 LN1.out.2 ?_)))
      intro vB wB q1 q2 q3 q4
      have XB := Lib.hid (hcB.out.app q1 (by simpa using q2) (fun k hk hne => q3 k (by simpa using hk) hne) (by simpa using q4))
      clear q1 q2 q3 q4 hoB hSB hcB
      have kc1 := hKC1.out wB XB.out.obm.bel
      go_wp2_with fail
      refine (UN1.out _ XB.out.obm.bel).mono ?_
      rintro e waC ⟨vCu, rfl, hu⟩
      obtain ⟨AC, CC, rfl, -, -, gC⟩ := hu.slice
      have hcC := Lib.hid (XB.out.below hu.bel)
      have hSC : Hid (Src Tryd.prog 4 27 (.slice AC U1.length CC) U1.length (flatR U1) waC) := Lib.hid (Sl.srcM Tryd.underlying27 hu.sl (fun e => (gC e).1) (flatR_one U1))
      have hoC := Lib.hid hcC.out.obm
      clear hu gC
      go_wp2_with (first | (at_builtin; go_loud (refine wpList_append_obm rfl _ _ 27 27 rfl 41 i0 _ 40 Tryd.underlying27 hi hz0 hz1 hz2 rfl hoC.out rfl rfl hSC.out (flatR_len U1) LN2.out.1 LN2.out.2 ?_)))
      intro vC wC q1 q2 q3 q4
      have XC := Lib.hid (hcC.out.app q1 q2 q3 q4)
      clear q1 q2 q3 q4 hoC hSC hcC
      clear kc1
      go_wp2_with fail
      refine (S2C.out _).mono ?_
      rintro e waD ⟨rfl, hb⟩
      have hcD := Lib.hid ((XC.out.below hb).alloc (.cells #[.string o, .int .u16 6, .int .u32 9, .string D2] 41))
      have hSD : Hid (Src Tryd.prog 4 27 (.slice (some ⟨waD.heap.size, 0, none⟩) 1 1) 1 [.string o, .int .u16 6, .int .u32 9, .string D2] (waD.alloc (.cells #[.string o, .int .u16 6, .int .u32 9, .string D2] 41))) := by
        refine Lib.hid (Src.ofSlice _ Tryd.underlying27 _ 1 1 _ rfl ?_ (recCells_one (o, 6, 9, D2)))
        exact news_at waD #[.string o, .int .u16 6, .int .u32 9, .string D2] _
      have hoD := Lib.hid hcD.out.obm
      clear hb
      go_wp2_with (first | (at_builtin; go_loud (refine wpList_append_obm rfl _ _ 27 27 rfl 41 i0 _ 40 Tryd.underlying27 hi hz0 hz1 hz2 rfl hoD.out rfl rfl hSD.out rfl LN3.out.1 LN3.out.2 ?_)))
      intro vD wD q1 q2 q3 q4
      have XD := Lib.hid (hcD.out.app q1 (by simpa using q2) (fun k hk hne => q3 k (by simpa using hk) hne) (by simpa using q4))
      clear q1 q2 q3 q4 hoD hSD hcD
      have kc2 := hKC2.out wD XD.out.obm.bel
      go_wp2_with fail
      refine (UN2.out _ XD.out.obm.bel).mono ?_
      rintro e waE ⟨vEu, rfl, hu⟩
      obtain ⟨AE, CE, rfl, -, -, gE⟩ := hu.slice
      have hcE := Lib.hid (XD.out.below hu.bel)
      have hSE : Hid (Src Tryd.prog 4 27 (.slice AE U2.length CE) U2.length (flatR U2) waE) := Lib.hid (Sl.srcM Tryd.underlying27 hu.sl (fun e => (gE e).1) (flatR_one U2))
      have hoE := Lib.hid hcE.out.obm
      clear hu gE
      go_wp2_with (first | (at_builtin; go_loud (refine wpList_append_obm rfl _ _ 27 27 rfl 41 i0 _ 40 Tryd.underlying27 hi hz0 hz1 hz2 rfl hoE.out rfl rfl hSE.out (flatR_len U2) LN4.out.1 LN4.out.2 ?_)))
      intro vE wE q1 q2 q3 q4
      have XE := Lib.hid (hcE.out.app q1 q2 q3 q4)
      clear q1 q2 q3 q4 hoE hSE hcE
      clear kc2
      go_wp2_with fail
      go_round
      case rel =>
        refine ⟨k + 1, hlt, by go_num, Lib.hid ?_⟩
        have h := XE.out
        rw [HFL.out, HLN.out]
        have e1 : 1 + ((chainK o fr rows k).length + (1 + U1.length + 1 + U2.length)) = 1 + (chainK o fr rows k).length + 1 + U1.length + 1 + U2.length := by omega
        rw [e1]
        simpa using h
      case measure => simp [intOf]; omega
    · have hlt' : ¬ (k : Int) < N := by omega
      obtain rfl : k = N := by omega
      have HRX := Lib.hid HX.out.box.range
      have hlen : 1 + (chainK o fr rows k).length + 1 ≤ 100 := by have := chainK_len o fr rows k; have := HNN.out.1; omega
      have LN := Lib.hid (len_max hlen)
      have hcF := Lib.hid (HX.out.alloc (.cells #[.string o, .int .u16 6, .int .u32 9, .string DN] 41))
      have hSF : Hid (Src Tryd.prog 4 27 (.slice (some ⟨wr.heap.size, 0, none⟩) 1 1) 1 [.string o, .int .u16 6, .int .u32 9, .string DN] (wr.alloc (.cells #[.string o, .int .u16 6, .int .u32 9, .string DN] 41))) := by
        refine Lib.hid (Src.ofSlice _ Tryd.underlying27 _ 1 1 _ rfl ?_ (recCells_one (o, 6, 9, DN)))
        exact news_at wr #[.string o, .int .u16 6, .int .u32 9, .string DN] _
      have hoF := Lib.hid hcF.out.obm
      clear hlen hlt
      go_wp2_with (first | (at_builtin; go_loud (refine wpList_append_obm rfl _ _ 27 27 rfl 41 i0 _ 40 Tryd.underlying27 hi hz0 hz1 hz2 rfl hoF.out rfl rfl hSF.out rfl LN.out.1 LN.out.2 ?_)) | refine wpList_load_mid rfl 41 _ rfl gb 0 rfl _ _ HRX.out Tryd.underlying41 rfl (by kernel_rfl) ?_)
      intro vF wF q1 q2 q3 q4
      have QF := Lib.hid q1
      clear q1 q2 q3 q4
      go_wp2_with fail
      go_ret
      have hl2 : (chainR o fr rows k).length = 1 + (chainK o fr rows k).length + 1 := by unfold chainR; simp; omega
      have hf2 : flatR (chainR o fr rows k) = [.string o, .int .u16 6, .int .u32 9, .string DN] ++ flatR (chainK o fr rows k) ++ [.string o, .int .u16 6, .int .u32 9, .string DN] := by
        unfold chainR flatR
        rw [HDN.out]
        simp [recCells, soaR]
      refine ⟨_, rfl, ?_⟩
      rw [hl2, hf2]
      exact QF.out
end Go.Proofs.YtpbbnpglcadimaaDoor
namespace Go.Proofs.YtpbbnpglcadimaaDoor
open Go.RowKit
set_option linter.unusedVariables false
theorem soaD_inj {m n : Nat} (hm : m < 4294967296) (hn : n < 4294967296) (h : soaD m = soaD n) : m = n := by
  have h2 : dataL (nameZ []) (nameZ []) [m, 10, 3, 40, 1] = dataL (nameZ []) (nameZ []) [n, 10, 3, 40, 1] := by
    have := congrArg (fun b : ByteArray => b.data.toList) h
    simpa [soaD] using this
  have hM : mayL (nameZ []) := by unfold mayL; decide +kernel
  have := (dataL_inj hM hM hM hM rfl rfl (by intro x hx; simp at hx; omega) (by intro x hx; simp at hx; omega) h2).2.2
  injection this
theorem eqB_soa (o : ByteArray) {m n : Nat} (hm : m < 4294967296) (hn : n < 4294967296) : eqB (soaR o m) (soaR o n) = decide (m = n) := by
  by_cases h : m = n
  · subst h; rw [eqB_refl, decide_eq_true rfl]
  · rw [decide_eq_false h]
    cases he : eqB (soaR o m) (soaR o n) with
    | false => rfl
    | true =>
      have := (eqB_iff _ _).1 he
      unfold soaR at this
      injection this with _ this
      injection this with _ this
      injection this with _ this
      exact absurd (soaD_inj hm hn this) h
theorem cntR_append (a : RecT) (l m : List RecT) : cntR a (l ++ m) = cntR a l + cntR a m := by
  unfold cntR
  rw [List.filter_append, List.length_append]
theorem cntR_soa (o : ByteArray) {m n : Nat} (hm : m < 4294967296) (hn : n < 4294967296) : cntR (soaR o n) [soaR o m] = if m = n then 1 else 0 := by
  unfold cntR
  rw [List.filter_cons, eqB_soa o hm hn]
  by_cases h : m = n <;> simp [h]
theorem underR_type (o : ByteArray) (a : ActT) : (underR o false a).2.1 ≠ 6 := by
  unfold underR
  by_cases h : ((recOf a).2.1 == 6) = true
  · rw [if_pos h, if_neg (by simp)]; show (16 : Int) ≠ 6; decide
  · rw [if_neg h]; simpa using h
theorem cntR_unders (o : ByteArray) (n : Nat) (ds : List ActT) (k : Nat) : cntR (soaR o n) (undersOf o false ds k) = 0 := by
  unfold cntR undersOf
  rw [List.length_eq_zero_iff, List.filter_eq_nil_iff]
  intro r hr
  obtain ⟨x, _, rfl⟩ := List.mem_map.1 hr
  intro he
  have := (eqB_iff _ _).1 he
  exact underR_type o x (by rw [this]; rfl)
theorem serP_ne (fr : Nat) {j k : Nat} (hj : j ≤ 4) (hk : k ≤ 4) : serP fr j = serP fr k ↔ j = k := by
  unfold serP; omega
theorem cntR_step (o : ByteArray) (fr : Nat) (rows : List RowA) (N k : Nat) (hN : N ≤ 4) (hk : k + 1 ≤ 4) : cntR (soaR o (serP fr N)) (stepR o fr rows k) = (if k = N then 1 else 0) + (if k + 1 = N then 1 else 0) := by
  unfold stepR
  rw [cntR_append, cntR_append, cntR_append, cntR_unders, cntR_unders, cntR_soa o (serP_lt _ _) (serP_lt _ _), cntR_soa o (serP_lt _ _) (serP_lt _ _)]
  simp only [serP_ne fr (show k ≤ 4 by omega) hN, serP_ne fr hk hN]
  omega
theorem cntR_chain (o : ByteArray) (fr : Nat) (rows : List RowA) (N : Nat) (hN : N ≤ 4) : ∀ k, k ≤ N → cntR (soaR o (serP fr N)) (chainK o fr rows k) = if k = N ∧ 0 < N then 1 else 0
  | 0, _ => by
    unfold chainK cntR
    by_cases h : 0 = N ∧ 0 < N
    · omega
    · rw [if_neg h]; rfl
  | k + 1, h => by
    unfold chainK
    rw [cntR_append, cntR_chain o fr rows N hN k (by omega), cntR_step o fr rows N k hN (by omega)]
    rw [if_neg (by omega), if_neg (by omega)]
    by_cases h2 : k + 1 = N
    · rw [if_pos h2, if_pos (by omega)]
    · rw [if_neg h2, if_neg (by omega)]
theorem chainK_first (o : ByteArray) (fr : Nat) (rows : List RowA) : ∀ k, 0 < k → ∃ t, chainK o fr rows k = soaR o (serP fr 0) :: t
  | 0, h => absurd h (by omega)
  | 1, _ => ⟨_, by unfold chainK chainK stepR; rfl⟩
  | k + 2, _ => by
    obtain ⟨t, ht⟩ := chainK_first o fr rows (k + 1) (by omega)
    refine ⟨t ++ stepR o fr rows (k + 1), ?_⟩
    rw [chainK, ht]; rfl
/-- The whole chain is all there. -/
theorem chain_done (o : ByteArray) (fr : Nat) (rows : List RowA) (N : Nat) (hN : N ≤ 4) : doneR (chainR o fr rows N) = true := by
  have hc : cntR (soaR o (serP fr N)) (chainR o fr rows N) = 2 + if 0 < N then 1 else 0 := by
    unfold chainR
    rw [cntR_append, cntR_append, cntR_chain o fr rows N hN N (Nat.le_refl _), cntR_soa o (serP_lt _ _) (serP_lt _ _), if_pos rfl]
    by_cases h : 0 < N <;> simp [h]
  rcases Nat.eq_zero_or_pos N with h0 | h0
  · subst h0
    unfold chainR chainK
    show (if (soaB _ && !(eqB _ _)) = true then _ else _) = true
    rw [eqB_refl]
    have h2 : cntR (soaR o (serP fr 0)) [soaR o (serP fr 0), soaR o (serP fr 0)] = 2 := hc
    simp [h2]
  · obtain ⟨t, ht⟩ := chainK_first o fr rows N h0
    rw [if_pos h0] at hc
    unfold chainR at hc ⊢
    rw [ht] at hc ⊢
    show (if (soaB _ && !(eqB _ _)) = true then decide (3 ≤ cntR _ _) else decide (2 ≤ cntR _ _)) = true
    have h3 : cntR (soaR o (serP fr N)) (soaR o (serP fr N) :: soaR o (serP fr 0) :: (t ++ [soaR o (serP fr N)])) = 3 := hc
    split <;> simp [h3]
/-- No beginning of it is. -/
theorem chain_part (o : ByteArray) (fr : Nat) (rows : List RowA) (N : Nat) (hN : N ≤ 4) (h0 : 0 < N) (k : Nat) (h2 : 2 ≤ k) (hk : k < (chainR o fr rows N).length) : doneR ((chainR o fr rows N).take k) = false := by
  obtain ⟨t, ht⟩ := chainK_first o fr rows N h0
  have hi : cntR (soaR o (serP fr N)) ([soaR o (serP fr N)] ++ chainK o fr rows N) = 2 := by
    rw [cntR_append, cntR_chain o fr rows N hN N (Nat.le_refl _), cntR_soa o (serP_lt _ _) (serP_lt _ _), if_pos rfl, if_pos ⟨rfl, h0⟩]
  have htk : (chainR o fr rows N).take k = ([soaR o (serP fr N)] ++ chainK o fr rows N).take k := by
    unfold chainR at hk ⊢
    rw [List.take_append_of_le_length]
    simp at hk ⊢
    omega
  have hle : cntR (soaR o (serP fr N)) (([soaR o (serP fr N)] ++ chainK o fr rows N).take k) ≤ 2 := by
    rw [← hi]
    unfold cntR
    exact ((List.take_sublist _ _).filter _).length_le
  rw [htk]
  rw [ht] at hle ⊢
  obtain ⟨j, rfl⟩ : ∃ j, k = j + 2 := ⟨k - 2, by omega⟩
  have e : ([soaR o (serP fr N)] ++ soaR o (serP fr 0) :: t).take (j + 2) = soaR o (serP fr N) :: soaR o (serP fr 0) :: t.take j := rfl
  rw [e] at hle ⊢
  show (if (soaB _ && !(eqB _ _)) = true then decide (3 ≤ cntR _ _) else decide (2 ≤ cntR _ _)) = false
  have hs : soaB (soaR o (serP fr 0)) = true := rfl
  rw [hs, eqB_soa o (serP_lt _ _) (serP_lt _ _), decide_eq_false (fun h => by have := (serP_ne fr (show 0 ≤ 4 by omega) hN).1 h; omega)]
  rw [if_pos (show (true && !false) = true from rfl)]
  exact decide_eq_false (by omega)
theorem chainR_len (o : ByteArray) (fr : Nat) (rows : List RowA) (N : Nat) (hN : N ≤ 4) : (chainR o fr rows N).length ≤ 50 := by
  have := chainK_len o fr rows N
  unfold chainR
  simp
  omega
end Go.Proofs.YtpbbnpglcadimaaDoor
namespace Go.Proofs.YtpbbnpglcadimaaDoor
open Go.RowKit
set_option linter.unusedVariables false
set_option linter.unusedSimpArgs false
theorem sizeR_le10 {M : Nat} : ∀ (l : List RecT), (∀ r ∈ l, 10 + r.1.size + r.2.2.2.size ≤ M) → sizeR l ≤ l.length * M
  | [], _ => by simp [sizeR]
  | r :: l, h => by
    have h1 := sizeR_le10 l (fun q hq => h q (by simp [hq]))
    have h2 := h r (by simp)
    unfold sizeR at h1 ⊢
    rw [List.map_cons, List.sum_cons, List.length_cons, Nat.succ_mul]
    omega
theorem soa_small (o : ByteArray) (ho : o.size ≤ 254) (n : Nat) : 10 + (soaR o n).1.size + (soaR o n).2.2.2.size ≤ 864 := by
  have hl := nameZ_len [] (by simp)
  have h2 : (soaD n).size ≤ 600 := by
    unfold soaD
    rw [mk_size, dataL_len9]
    simp
    omega
  show 10 + o.size + (soaD n).size ≤ 864
  omega
theorem under_small (o : ByteArray) (ho : o.size ≤ 254) (a : ActT) : 10 + (underR o false a).1.size + (underR o false a).2.2.2.size ≤ 864 := by
  have h := recOf_data a
  unfold underR
  split
  · split
    · exact soa_small o ho _
    · show 10 + o.size + (ByteArray.mk #[1, 120]).size ≤ 864
      have : (ByteArray.mk #[1, 120]).size = 2 := rfl
      omega
  · have h2 := underN_le10 o (recOf a).1 ho
    show 10 + (underN o (recOf a).1).size + (recOf a).2.2.2.size ≤ 864
    omega
theorem zone_small (o : ByteArray) (ho : o.size ≤ 254) (n : Nat) (ds : List ActT) (most : Nat) : ∀ r ∈ zoneR o n ds most, 10 + r.1.size + r.2.2.2.size ≤ 864 := by
  intro r hr
  unfold zoneR at hr
  rw [sortedR_mem, List.mem_append, List.mem_singleton] at hr
  rcases hr with h | rfl
  · unfold undersOf at h
    obtain ⟨a, -, rfl⟩ := List.mem_map.1 h
    exact under_small o ho a
  · exact soa_small o ho n
theorem zone_fit10 (o : ByteArray) (ho : o.size ≤ 254) (n : Nat) (ds : List ActT) (most : Nat) : ∀ r ∈ zoneR o n ds most, fit10 r := by
  intro r hr
  unfold zoneR at hr
  rw [sortedR_mem, List.mem_append, List.mem_singleton] at hr
  rcases hr with h | rfl
  · exact fit10_unders o ho false ds most r h
  · exact fit10_soa o ho n
theorem zone_right10 (o : ByteArray) (hl : (labelsOf o).isSome = true) (ho : o.size ≤ 254) (n : Nat) (ds : List ActT) : checkR mayR o (zoneR o n ds 10) = 0 := by
  have h1 := zoneR_len o n ds 10
  have h2 := sizeR_le10 (zoneR o n ds 10) (zone_small o ho n ds 10)
  have h3 : (zoneR o n ds 10).length * 864 ≤ 11 * 864 := Nat.mul_le_mul_right _ h1
  rw [zone_check o n ds 10 hl, if_pos]
  unfold fitsR
  rw [decide_eq_true (by omega), decide_eq_true (by omega)]
  rfl
section
variable (o : ByteArray) (acts : List ActT) (rows : List RowA)
/-- The zone behind k deltas. -/
def zsR : Nat → List RecT
  | 0 => zoneR o 1 acts 10
  | k + 1 => zoneR o (k + 2) (rowAt rows k) 10
theorem zsR_eq : ∀ k, ∃ ds, zsR o acts rows k = zoneR o (k + 1) ds 10
  | 0 => ⟨acts, rfl⟩
  | k + 1 => ⟨rowAt rows k, rfl⟩
def goR (k : Nat) : List RecT := nosoa (woR (zsR o acts rows k) (zsR o acts rows (k + 1)))
def coR (k : Nat) : List RecT := nosoa (woR (zsR o acts rows (k + 1)) (zsR o acts rows k))
theorem soaR_ne {m n : Nat} (hm : m < 4294967296) (hn : n < 4294967296) (h : m ≠ n) : soaR o m ≠ soaR o n := fun e => by
  have := eqB_soa o hm hn
  rw [e, eqB_soa o hn hn, decide_eq_false h, decide_eq_true rfl] at this
  cases this
theorem zs_leads (k : Nat) (hk : k < 1000) : apdR (zsR o acts rows k) (soaR o (k + 1)) (soaR o (k + 2)) (goR o acts rows k) (coR o acts rows k) = .inr (zsR o acts rows (k + 1)) := by
  obtain ⟨d1, e1⟩ := zsR_eq o acts rows k
  obtain ⟨d2, e2⟩ := zsR_eq o acts rows (k + 1)
  unfold goR coR
  rw [e1, e2]
  have h1 := zoneR_soa o (k + 1) d1 10
  have h2 := zoneR_soa o (k + 1 + 1) d2 10
  exact delta_leads (zoneR_rising _ _ _ _) (zoneR_rising _ _ _ _) h1.1 h2.1 rfl rfl h1.2 h2.2 (soaR_ne o (by omega) (by omega) (by omega))
theorem zs_late (t : RecT) (g c : List RecT) : apdR (zsR o acts rows 0) (soaR o 2) t g c = .inl 5 := by
  have h1 := zoneR_soa o 1 acts 10
  have hf : firstS (zsR o acts rows 0) = some (soaR o 1) := find_unique h1.1 rfl h1.2
  unfold apdR
  rw [hf]
  simp only [eqB_soa o (show 1 < 4294967296 by decide) (show 2 < 4294967296 by decide)]
  rfl
theorem zs_ok (k : Nat) : Rising (zsR o acts rows k) ∧ (zsR o acts rows k).length ≤ 11 := by
  obtain ⟨ds, e⟩ := zsR_eq o acts rows k
  rw [e]
  exact ⟨zoneR_rising _ _ _ _, zoneR_len _ _ _ _⟩
theorem zs_right (hl : (labelsOf o).isSome = true) (ho : o.size ≤ 254) (k : Nat) : checkR mayR o (zsR o acts rows k) = 0 ∧ ∀ r ∈ zsR o acts rows k, fit10 r := by
  obtain ⟨ds, e⟩ := zsR_eq o acts rows k
  rw [e]
  exact ⟨zone_right10 o hl ho _ _, zone_fit10 o ho _ _ _⟩
theorem go_le (k : Nat) : (goR o acts rows k).length ≤ 11 := Nat.le_trans (nosoa_le _) (Nat.le_trans (woR_le _ _) (zs_ok o acts rows k).2)
theorem co_le (k : Nat) : (coR o acts rows k).length ≤ 11 := Nat.le_trans (nosoa_le _) (Nat.le_trans (woR_le _ _) (zs_ok o acts rows (k + 1)).2)
end
end Go.Proofs.YtpbbnpglcadimaaDoor
namespace Go.Proofs.YtpbbnpglcadimaaDoor
open Go.RowKit
set_option linter.unusedVariables false
set_option linter.unusedSimpArgs false
theorem OBM.setOther2 {sz B n : Nat} {W w : World} {v : Value} {l : List Value} (h : OBM sz B W v n l w) (g j : Nat) (u : Value) (hg : B ≤ g) (hne : v.ownBlock ≠ some g) : OBM sz B W v n l (w.setCell ⟨g, j, none⟩ u) :=
  h.block (h.bel.setCell hg u) (by simp) (fun k hk => Below.heap_setCell _ _ _ _ (fun e => hne (by rw [hk]; exact congrArg some e)))
structure TwoS (wS wM : World) (B1 B2 : Nat) (f1 f2 : Value → List Value) (b1 b2 a1 : Value) (l1 : List RecT) (a2 : Value) (l2 : List RecT) (v : World) : Prop where
  bel : Below wS.heap.size wS v
  size : wM.heap.size ≤ v.heap.size
  keep : ∀ k, k < wM.heap.size → k ≠ B1 → k ≠ B2 → v.heap[k]? = wM.heap[k]?
  box1 : Cs v B1 (f1 b1)
  box2 : Cs v B2 (f2 b2)
  o1 : OBM 4 wS.heap.size wS a1 l1.length (flatR l1) v
  o2 : OBM 4 wS.heap.size wS a2 l2.length (flatR l2) v
  p1 : ∀ k, a1.ownBlock = some k → wM.heap.size ≤ k ∧ a2.ownBlock ≠ some k
  p2 : ∀ k, a2.ownBlock = some k → wM.heap.size ≤ k
/-- Where the boxes lie. -/
structure TwoB (wS wM : World) (B1 B2 : Nat) : Prop where
  s1 : wS.heap.size ≤ B1
  s2 : wS.heap.size ≤ B2
  m1 : B1 < wM.heap.size
  m2 : B2 < wM.heap.size
  ne : B1 ≠ B2
section
variable {wS wM : World} {B1 B2 : Nat} {f1 f2 : Value → List Value} {b1 b2 a1 a2 : Value} {l1 l2 : List RecT} {v v' : World}
theorem TwoS.goes (h : TwoS wS wM B1 B2 f1 f2 b1 b2 a1 l1 a2 l2 v) (hb : Below v.heap.size v v') : TwoS wS wM B1 B2 f1 f2 b1 b2 a1 l1 a2 l2 v' :=
  ⟨below_trans h.bel h.bel.size hb, Nat.le_trans h.size hb.size, fun k hk h1 h2 => (hb.block k (Nat.lt_of_lt_of_le hk h.size)).trans (h.keep k hk h1 h2), h.box1.below hb, h.box2.below hb, h.o1.keep hb (Nat.le_refl _), h.o2.keep hb (Nat.le_refl _), h.p1, h.p2⟩
theorem TwoS.app1 (h : TwoS wS wM B1 B2 f1 f2 b1 b2 a1 l1 a2 l2 v) (hB : TwoB wS wM B1 B2) {a' : Value} {r : RecT} (q1 : OBM 4 wS.heap.size wS a' (l1.length + 1) (flatR l1 ++ recCells r) v') (q2 : v.heap.size ≤ v'.heap.size)
    (q3 : ∀ k, k < v.heap.size → some k ≠ a1.ownBlock → v'.heap[k]? = v.heap[k]?) (q4 : a'.ownBlock = a1.ownBlock ∨ a'.ownBlock = some v.heap.size) : TwoS wS wM B1 B2 f1 f2 b1 b2 a' (l1 ++ [r]) a2 l2 v' := by
  have hn : ∀ k, k < wM.heap.size → some k ≠ a1.ownBlock := fun k hk e => by have := (h.p1 k e.symm).1; omega
  refine ⟨q1.bel, Nat.le_trans h.size q2, fun k hk h1 h2 => (q3 k (Nat.lt_of_lt_of_le hk h.size) (hn k hk)).trans (h.keep k hk h1 h2), h.box1.block (q3 B1 h.box1.lt (hn B1 hB.m1)) q2, h.box2.block (q3 B2 h.box2.lt (hn B2 hB.m2)) q2, ?_, h.o2.block q1.bel q2 (fun k hk => q3 k (h.o2.lt k hk).2 (fun e => (h.p1 k e.symm).2 hk)), fun k hk => ?_, h.p2⟩
  · rw [List.length_append, flatR_append]; simpa [flatR] using q1
  · rcases q4 with q4 | q4
    · exact h.p1 k (q4.symm.trans hk)
    · rw [q4] at hk
      injection hk with hk
      subst hk
      exact ⟨h.size, fun e => by have := (h.o2.lt _ e).2; omega⟩
theorem TwoS.app2 (h : TwoS wS wM B1 B2 f1 f2 b1 b2 a1 l1 a2 l2 v) (hB : TwoB wS wM B1 B2) {a' : Value} {r : RecT} (q1 : OBM 4 wS.heap.size wS a' (l2.length + 1) (flatR l2 ++ recCells r) v') (q2 : v.heap.size ≤ v'.heap.size)
    (q3 : ∀ k, k < v.heap.size → some k ≠ a2.ownBlock → v'.heap[k]? = v.heap[k]?) (q4 : a'.ownBlock = a2.ownBlock ∨ a'.ownBlock = some v.heap.size) : TwoS wS wM B1 B2 f1 f2 b1 b2 a1 l1 a' (l2 ++ [r]) v' := by
  have hn : ∀ k, k < wM.heap.size → some k ≠ a2.ownBlock := fun k hk e => by have := h.p2 k e.symm; omega
  refine ⟨q1.bel, Nat.le_trans h.size q2, fun k hk h1 h2 => (q3 k (Nat.lt_of_lt_of_le hk h.size) (hn k hk)).trans (h.keep k hk h1 h2), h.box1.block (q3 B1 h.box1.lt (hn B1 hB.m1)) q2, h.box2.block (q3 B2 h.box2.lt (hn B2 hB.m2)) q2, h.o1.block q1.bel q2 (fun k hk => q3 k (h.o1.lt k hk).2 (fun e => (h.p1 k hk).2 e.symm)), ?_, fun k hk => ⟨(h.p1 k hk).1, ?_⟩, fun k hk => ?_⟩
  · rw [List.length_append, flatR_append]; simpa [flatR] using q1
  · rcases q4 with q4 | q4
    · rw [q4]; exact (h.p1 k hk).2
    · rw [q4]; intro e; injection e with e; have := (h.o1.lt k hk).2; omega
  · rcases q4 with q4 | q4
    · exact h.p2 k (q4.symm.trans hk)
    · rw [q4] at hk
      injection hk with hk
      subst hk
      exact h.size
theorem TwoS.sto1 (h : TwoS wS wM B1 B2 f1 f2 b1 b2 a1 l1 a2 l2 v) (hB : TwoB wS wM B1 B2) (j : Nat) (u : Value) (hj : j < (f1 b1).length) (hf : (f1 b1).set j u = f1 u) : TwoS wS wM B1 B2 f1 f2 u b2 a1 l1 a2 l2 (v.setCell ⟨B1, j, none⟩ u) := by
  refine ⟨h.bel.setCell hB.s1 u, by simpa using h.size, fun k hk h1 h2 => (Below.heap_setCell _ _ _ _ h1).trans (h.keep k hk h1 h2), by rw [← hf]; exact h.box1.set' j u hj, h.box2.other B1 j u hB.ne, h.o1.setOther2 B1 j u hB.s1 (fun e => ?_), h.o2.setOther2 B1 j u hB.s1 (fun e => ?_), h.p1, h.p2⟩
  · have := (h.p1 _ e).1; have := hB.m1; omega
  · have := h.p2 _ e; have := hB.m1; omega
theorem TwoS.sto2 (h : TwoS wS wM B1 B2 f1 f2 b1 b2 a1 l1 a2 l2 v) (hB : TwoB wS wM B1 B2) (j : Nat) (u : Value) (hj : j < (f2 b2).length) (hf : (f2 b2).set j u = f2 u) : TwoS wS wM B1 B2 f1 f2 b1 u a1 l1 a2 l2 (v.setCell ⟨B2, j, none⟩ u) := by
  refine ⟨h.bel.setCell hB.s2 u, by simpa using h.size, fun k hk h1 h2 => (Below.heap_setCell _ _ _ _ h2).trans (h.keep k hk h1 h2), h.box1.other B2 j u hB.ne.symm, by rw [← hf]; exact h.box2.set' j u hj, h.o1.setOther2 B2 j u hB.s2 (fun e => ?_), h.o2.setOther2 B2 j u hB.s2 (fun e => ?_), h.p1, h.p2⟩
  · have := (h.p1 _ e).1; have := hB.m2; omega
  · have := h.p2 _ e; have := hB.m2; omega
end
/-- In the midst of the drawn region: appended by 4 and 9, stored by 11 and 13; the record's box lies at BA. -/
structure TwoR (wS wM : World) (B1 B2 BA N0 : Nat) (f1 f2 : Value → List Value) (v1 : Value) (l1 : List RecT) (v2 : Value) (l2 : List RecT) (r : RecT) (d : Nat → Bool) (x : Nat → Value) (w : World) : Prop where
  st : TwoS wS wM B1 B2 f1 f2 (if d 11 = true then x 4 else v1) (if d 13 = true then x 9 else v2) (if d 4 = true then x 4 else v1) (if d 4 = true then l1 ++ [r] else l1) (if d 9 = true then x 9 else v2) (if d 9 = true then l2 ++ [r] else l2) w
  rb : Cs w BA [.string r.1, .int .u16 r.2.1, .int .u32 r.2.2.1, .string r.2.2.2]
  n1 : (if d 4 = true then x 4 else v1).ownBlock ≠ some BA
  n2 : (if d 9 = true then x 9 else v2).ownBlock ≠ some BA
  sz : N0 ≤ w.heap.size
section
variable {wS wM : World} {B1 B2 BA N0 : Nat} {f1 f2 : Value → List Value} {v1 v2 : Value} {l1 l2 : List RecT} {r : RecT} {d : Nat → Bool} {x : Nat → Value} {w w' : World}
theorem TwoR.next (h : TwoR wS wM B1 B2 BA N0 f1 f2 v1 l1 v2 l2 r d x w) {i : Nat} {v : Value} (hi : 4 ≠ i ∧ 9 ≠ i ∧ 11 ≠ i ∧ 13 ≠ i) (hb : Below w.heap.size w w') : TwoR wS wM B1 B2 BA N0 f1 f2 v1 l1 v2 l2 r (setD d i) (fun j => if j = i then v else x j) w' := by
  have e4 : setD d i 4 = d 4 := setD_ne d hi.1
  have e9 : setD d i 9 = d 9 := setD_ne d hi.2.1
  have e11 : setD d i 11 = d 11 := setD_ne d hi.2.2.1
  have e13 : setD d i 13 = d 13 := setD_ne d hi.2.2.2
  have x4 : (if 4 = i then v else x 4) = x 4 := if_neg hi.1
  have x9 : (if 9 = i then v else x 9) = x 9 := if_neg hi.2.1
  refine ⟨?_, h.rb.below hb, ?_, ?_, Nat.le_trans h.sz hb.size⟩
  · simp only [e4, e9, e11, e13, x4, x9]; exact h.st.goes hb
  · simp only [e4, x4]; exact h.n1
  · simp only [e9, x9]; exact h.n2
/-- Ahead of the first append. -/
theorem TwoR.s0 (h : TwoR wS wM B1 B2 BA N0 f1 f2 v1 l1 v2 l2 r d x w) (d4 : d 4 = false) (d9 : d 9 = false) (d11 : d 11 = false) (d13 : d 13 = false) : TwoS wS wM B1 B2 f1 f2 v1 v2 v1 l1 v2 l2 w ∧ v1.ownBlock ≠ some BA ∧ v2.ownBlock ≠ some BA := by
  have a := h.st; have b := h.n1; have c := h.n2
  rw [d4, d9, d11, d13] at a; rw [d4] at b; rw [d9] at c
  exact ⟨a, b, c⟩
theorem TwoR.s4 (h : TwoR wS wM B1 B2 BA N0 f1 f2 v1 l1 v2 l2 r d x w) (d4 : d 4 = true) (d9 : d 9 = false) (d11 : d 11 = false) (d13 : d 13 = false) : TwoS wS wM B1 B2 f1 f2 v1 v2 (x 4) (l1 ++ [r]) v2 l2 w ∧ (x 4).ownBlock ≠ some BA ∧ v2.ownBlock ≠ some BA := by
  have a := h.st; have b := h.n1; have c := h.n2
  rw [d4, d9, d11, d13] at a; rw [d4] at b; rw [d9] at c
  exact ⟨a, b, c⟩
theorem TwoR.s9 (h : TwoR wS wM B1 B2 BA N0 f1 f2 v1 l1 v2 l2 r d x w) (d4 : d 4 = true) (d9 : d 9 = true) (d11 : d 11 = false) (d13 : d 13 = false) : TwoS wS wM B1 B2 f1 f2 v1 v2 (x 4) (l1 ++ [r]) (x 9) (l2 ++ [r]) w ∧ (x 4).ownBlock ≠ some BA ∧ (x 9).ownBlock ≠ some BA := by
  have a := h.st; have b := h.n1; have c := h.n2
  rw [d4, d9, d11, d13] at a; rw [d4] at b; rw [d9] at c
  exact ⟨a, b, c⟩
theorem TwoR.s11 (h : TwoR wS wM B1 B2 BA N0 f1 f2 v1 l1 v2 l2 r d x w) (d4 : d 4 = true) (d9 : d 9 = true) (d11 : d 11 = true) (d13 : d 13 = false) : TwoS wS wM B1 B2 f1 f2 (x 4) v2 (x 4) (l1 ++ [r]) (x 9) (l2 ++ [r]) w ∧ (x 4).ownBlock ≠ some BA ∧ (x 9).ownBlock ≠ some BA := by
  have a := h.st; have b := h.n1; have c := h.n2
  rw [d4, d9, d11, d13] at a; rw [d4] at b; rw [d9] at c
  exact ⟨a, b, c⟩
theorem TwoR.s13 (h : TwoR wS wM B1 B2 BA N0 f1 f2 v1 l1 v2 l2 r d x w) (d4 : d 4 = true) (d9 : d 9 = true) (d11 : d 11 = true) (d13 : d 13 = true) : TwoS wS wM B1 B2 f1 f2 (x 4) (x 9) (x 4) (l1 ++ [r]) (x 9) (l2 ++ [r]) w := by
  have a := h.st
  rw [d4, d9, d11, d13] at a
  exact a
theorem TwoR.start (h : TwoS wS wM B1 B2 f1 f2 v1 v2 v1 l1 v2 l2 w) (hr : Cs w BA [.string r.1, .int .u16 r.2.1, .int .u32 r.2.2.1, .string r.2.2.2]) (h1 : v1.ownBlock ≠ some BA) (h2 : v2.ownBlock ≠ some BA) (hs : N0 ≤ w.heap.size) : TwoR wS wM B1 B2 BA N0 f1 f2 v1 l1 v2 l2 r (fun _ => false) x w := ⟨h, hr, h1, h2, hs⟩
/-- Behind operation 4. -/
theorem TwoR.do4 (h : TwoR wS wM B1 B2 BA N0 f1 f2 v1 l1 v2 l2 r d x w) (hB : TwoB wS wM B1 B2) (d4 : d 4 = false) (d9 : d 9 = false) (d11 : d 11 = false) (d13 : d 13 = false) {a' : Value} (q1 : OBM 4 wS.heap.size wS a' (l1.length + 1) (flatR l1 ++ recCells r) w') (q2 : w.heap.size ≤ w'.heap.size)
    (q3 : ∀ k, k < w.heap.size → some k ≠ v1.ownBlock → w'.heap[k]? = w.heap[k]?) (q4 : a'.ownBlock = v1.ownBlock ∨ a'.ownBlock = some w.heap.size) : TwoR wS wM B1 B2 BA N0 f1 f2 v1 l1 v2 l2 r (setD d 4) (fun j => if j = 4 then a' else x j) w' := by
  obtain ⟨hs, hn1, hn2⟩ := h.s0 d4 d9 d11 d13
  have e4 : setD d 4 4 = true := setD_self d 4
  have e9 : setD d 4 9 = false := (setD_ne d (by decide)).trans d9
  have e11 : setD d 4 11 = false := (setD_ne d (by decide)).trans d11
  have e13 : setD d 4 13 = false := (setD_ne d (by decide)).trans d13
  refine ⟨?_, h.rb.block (q3 BA h.rb.lt (fun e => hn1 e.symm)) q2, ?_, ?_, Nat.le_trans h.sz q2⟩
  · rw [e4, e9, e11, e13]; exact hs.app1 hB q1 q2 q3 q4
  · rw [e4]
    show a'.ownBlock ≠ some BA
    rcases q4 with q4 | q4
    · rw [q4]; exact hn1
    · rw [q4]; intro e; injection e with e; have := h.rb.lt; omega
  · rw [e9]; exact hn2
/-- Behind operation 9. -/
theorem TwoR.do9 (h : TwoR wS wM B1 B2 BA N0 f1 f2 v1 l1 v2 l2 r d x w) (hB : TwoB wS wM B1 B2) (d4 : d 4 = true) (d9 : d 9 = false) (d11 : d 11 = false) (d13 : d 13 = false) {a' : Value} (q1 : OBM 4 wS.heap.size wS a' (l2.length + 1) (flatR l2 ++ recCells r) w') (q2 : w.heap.size ≤ w'.heap.size)
    (q3 : ∀ k, k < w.heap.size → some k ≠ v2.ownBlock → w'.heap[k]? = w.heap[k]?) (q4 : a'.ownBlock = v2.ownBlock ∨ a'.ownBlock = some w.heap.size) : TwoR wS wM B1 B2 BA N0 f1 f2 v1 l1 v2 l2 r (setD d 9) (fun j => if j = 9 then a' else x j) w' := by
  obtain ⟨hs, hn1, hn2⟩ := h.s4 d4 d9 d11 d13
  have e4 : setD d 9 4 = true := (setD_ne d (by decide)).trans d4
  have e9 : setD d 9 9 = true := setD_self d 9
  have e11 : setD d 9 11 = false := (setD_ne d (by decide)).trans d11
  have e13 : setD d 9 13 = false := (setD_ne d (by decide)).trans d13
  refine ⟨?_, h.rb.block (q3 BA h.rb.lt (fun e => hn2 e.symm)) q2, ?_, ?_, Nat.le_trans h.sz q2⟩
  · rw [e4, e9, e11, e13]; exact hs.app2 hB q1 q2 q3 q4
  · rw [e4]; exact hn1
  · rw [e9]
    show a'.ownBlock ≠ some BA
    rcases q4 with q4 | q4
    · rw [q4]; exact hn2
    · rw [q4]; intro e; injection e with e; have := h.rb.lt; omega
theorem TwoR.do11 (h : TwoR wS wM B1 B2 BA N0 f1 f2 v1 l1 v2 l2 r d x w) (hB : TwoB wS wM B1 B2) (hA : B1 ≠ BA) (d4 : d 4 = true) (d9 : d 9 = true) (d11 : d 11 = false) (d13 : d 13 = false) (j : Nat) (hj : j < (f1 v1).length) (hf : (f1 v1).set j (x 4) = f1 (x 4)) {u : Value} :
    TwoR wS wM B1 B2 BA N0 f1 f2 v1 l1 v2 l2 r (setD d 11) (fun j => if j = 11 then u else x j) (w.setCell ⟨B1, j, none⟩ (x 4)) := by
  obtain ⟨hs, hn1, hn2⟩ := h.s9 d4 d9 d11 d13
  have e4 : setD d 11 4 = true := (setD_ne d (by decide)).trans d4
  have e9 : setD d 11 9 = true := (setD_ne d (by decide)).trans d9
  have e11 : setD d 11 11 = true := setD_self d 11
  have e13 : setD d 11 13 = false := (setD_ne d (by decide)).trans d13
  refine ⟨?_, h.rb.other B1 j _ hA, ?_, ?_, by simpa using h.sz⟩
  · rw [e4, e9, e11, e13]; exact hs.sto1 hB j (x 4) hj hf
  · rw [e4]; exact hn1
  · rw [e9]; exact hn2
theorem TwoR.do13 (h : TwoR wS wM B1 B2 BA N0 f1 f2 v1 l1 v2 l2 r d x w) (hB : TwoB wS wM B1 B2) (hA : B2 ≠ BA) (d4 : d 4 = true) (d9 : d 9 = true) (d11 : d 11 = true) (d13 : d 13 = false) (j : Nat) (hj : j < (f2 v2).length) (hf : (f2 v2).set j (x 9) = f2 (x 9)) {u : Value} :
    TwoR wS wM B1 B2 BA N0 f1 f2 v1 l1 v2 l2 r (setD d 13) (fun j => if j = 13 then u else x j) (w.setCell ⟨B2, j, none⟩ (x 9)) := by
  obtain ⟨hs, hn1, hn2⟩ := h.s11 d4 d9 d11 d13
  have e4 : setD d 13 4 = true := (setD_ne d (by decide)).trans d4
  have e9 : setD d 13 9 = true := (setD_ne d (by decide)).trans d9
  have e11 : setD d 13 11 = true := (setD_ne d (by decide)).trans d11
  have e13 : setD d 13 13 = true := setD_self d 13
  refine ⟨?_, h.rb.other B2 j _ hA, ?_, ?_, by simpa using h.sz⟩
  · rw [e4, e9, e11, e13]; exact hs.sto2 hB j (x 9) hj hf
  · rw [e4]; exact hn1
  · rw [e9]; exact hn2
end
def anyX : WordX := fun _ _ _ => True
theorem anyX_stays : StaysX anyX := fun _ _ _ _ _ _ _ _ => trivial
/-- A slice of n elements over a block of these cells, which lies above B. -/
def litC (B n : Nat) (vs : List Value) : Value → World → Prop := fun v w => ∃ g, v = .slice (some ⟨g, 0, none⟩) n n ∧ B ≤ g ∧ Cs w g vs
theorem litC_stays (B n : Nat) (vs : List Value) : ∀ v w w', litC B n vs v w → Goes w w' → litC B n vs v w' := by
  rintro v w w' ⟨g, rfl, hB, h⟩ hb
  exact ⟨g, rfl, hB, h.below hb⟩
theorem until_mono11 {k : Nat} {p : Value → World → Prop} {d : Nat → Bool} {K : Nat} {v : Value} {w : World} (h : until_ k p d v w) : until_ k p (setD d K) v w := fun hk => h (setD_false hk)
/-- A delta's cells, by its gone records; by its new ones. -/
def dF2 (o D1 D2 : ByteArray) (vn : Value) : Value → List Value := fun v => [.string o, .int .u16 6, .int .u32 9, .string D1, .string o, .int .u16 6, .int .u32 9, .string D2, v, vn]
def dF3 (o D1 D2 : ByteArray) (vg : Value) : Value → List Value := fun v => [.string o, .int .u16 6, .int .u32 9, .string D1, .string o, .int .u16 6, .int .u32 9, .string D2, vg, v]
end Go.Proofs.YtpbbnpglcadimaaDoor
namespace Go.Proofs.YtpbbnpglcadimaaDoor
open Go.RowKit
set_option linter.unusedVariables false
set_option linter.unusedSimpArgs false
structure Two2 (W : World) (s1 s2 : Nat) (v1 : Value) (n1 : Nat) (l1 : List Value) (v2 : Value) (n2 : Nat) (l2 : List Value) (xs : List (Value × List RecT)) (w : World) : Prop where
  o1 : OBM s1 W.heap.size W v1 n1 l1 w
  o2 : OBM s2 W.heap.size W v2 n2 l2 w
  ne : ∀ q, v1.ownBlock = some q → v2.ownBlock ≠ some q
  xs : ∀ x ∈ xs, OBM 4 W.heap.size W x.1 x.2.length (flatR x.2) w ∧ ∀ q, x.1.ownBlock = some q → v1.ownBlock ≠ some q ∧ v2.ownBlock ≠ some q
section
variable {W w w' : World} {s1 s2 n1 n2 : Nat} {v1 v2 : Value} {l1 l2 : List Value} {xs : List (Value × List RecT)}
theorem Two2.swap (h : Two2 W s1 s2 v1 n1 l1 v2 n2 l2 xs w) : Two2 W s2 s1 v2 n2 l2 v1 n1 l1 xs w :=
  ⟨h.o2, h.o1, fun q hq e => h.ne q e hq, fun x hx => ⟨(h.xs x hx).1, fun q hq => ⟨((h.xs x hx).2 q hq).2, ((h.xs x hx).2 q hq).1⟩⟩⟩
theorem Two2.keep {C : Nat} (h : Two2 W s1 s2 v1 n1 l1 v2 n2 l2 xs w) (hb : Below C w w') (hC : w.heap.size ≤ C) : Two2 W s1 s2 v1 n1 l1 v2 n2 l2 xs w' :=
  ⟨h.o1.keep hb hC, h.o2.keep hb hC, h.ne, fun x hx => ⟨(h.xs x hx).1.keep hb hC, (h.xs x hx).2⟩⟩
theorem Two2.app1 (h : Two2 W s1 s2 v1 n1 l1 v2 n2 l2 xs w) {v' : Value} {n' : Nat} {l' : List Value} (q1 : OBM s1 W.heap.size W v' n' l' w') (q2 : w.heap.size ≤ w'.heap.size)
    (q3 : ∀ k, k < w.heap.size → some k ≠ v1.ownBlock → w'.heap[k]? = w.heap[k]?) (q4 : v'.ownBlock = v1.ownBlock ∨ v'.ownBlock = some w.heap.size) : Two2 W s1 s2 v' n' l' v2 n2 l2 xs w' := by
  refine ⟨q1, h.o2.block q1.bel q2 (fun k hk => q3 k (h.o2.lt k hk).2 (fun e => h.ne k e.symm hk)), fun q hq e => ?_, fun x hx => ⟨(h.xs x hx).1.block q1.bel q2 (fun k hk => q3 k ((h.xs x hx).1.lt k hk).2 (fun e => ((h.xs x hx).2 k hk).1 e.symm)), fun q hq => ⟨fun e => ?_, ((h.xs x hx).2 q hq).2⟩⟩⟩
  · rcases q4 with q4 | q4
    · exact h.ne q (q4.symm.trans hq) e
    · rw [q4] at hq
      injection hq with hq
      have := (h.o2.lt q e).2
      omega
  · rcases q4 with q4 | q4
    · exact ((h.xs x hx).2 q hq).1 (q4.symm.trans e)
    · rw [q4] at e
      injection e with e
      have := ((h.xs x hx).1.lt q hq).2
      omega
theorem Two2.app2 (h : Two2 W s1 s2 v1 n1 l1 v2 n2 l2 xs w) {v' : Value} {n' : Nat} {l' : List Value} (q1 : OBM s2 W.heap.size W v' n' l' w') (q2 : w.heap.size ≤ w'.heap.size)
    (q3 : ∀ k, k < w.heap.size → some k ≠ v2.ownBlock → w'.heap[k]? = w.heap[k]?) (q4 : v'.ownBlock = v2.ownBlock ∨ v'.ownBlock = some w.heap.size) : Two2 W s1 s2 v1 n1 l1 v' n' l' xs w' :=
  (h.swap.app1 q1 q2 q3 q4).swap
/-- A slice that came since. -/
theorem Two2.fresh (h : Two2 W s1 s2 v1 n1 l1 v2 n2 l2 xs w) {v : Value} {l : List RecT} (hx : OBM 4 w.heap.size w v l.length (flatR l) w') : Two2 W s1 s2 v1 n1 l1 v2 n2 l2 (xs ++ [(v, l)]) w' := by
  have h' := h.keep hx.bel (Nat.le_refl _)
  refine ⟨h'.o1, h'.o2, h'.ne, fun x hm => ?_⟩
  rcases List.mem_append.1 hm with hm | hm
  · exact h'.xs x hm
  · rw [List.mem_singleton] at hm
    subst hm
    refine ⟨hx.out h.o1.base h.o1.bel, fun q hq => ⟨fun e => ?_, fun e => ?_⟩⟩
    · have := (hx.lt q hq).1; have := (h.o1.lt q e).2; omega
    · have := (hx.lt q hq).1; have := (h.o2.lt q e).2; omega
end
/-- A box and a slice of records that grows; b is what the box holds, a is the slice. -/
structure OneS (wS wM : World) (B1 : Nat) (f : Value → List Value) (b a : Value) (l : List RecT) (v : World) : Prop where
  bel : Below wS.heap.size wS v
  size : wM.heap.size ≤ v.heap.size
  keep : ∀ k, k < wM.heap.size → k ≠ B1 → v.heap[k]? = wM.heap[k]?
  box : Cs v B1 (f b)
  own : OBM 4 wS.heap.size wS a l.length (flatR l) v
  past : ∀ k, a.ownBlock = some k → wM.heap.size ≤ k
section
variable {wS wM : World} {B1 : Nat} {f : Value → List Value} {b a : Value} {l : List RecT} {v v' : World}
theorem OneS.goes (h : OneS wS wM B1 f b a l v) (hb : Below v.heap.size v v') : OneS wS wM B1 f b a l v' :=
  ⟨below_trans h.bel h.bel.size hb, Nat.le_trans h.size hb.size, fun k hk h1 => (hb.block k (Nat.lt_of_lt_of_le hk h.size)).trans (h.keep k hk h1), h.box.below hb, h.own.keep hb (Nat.le_refl _), h.past⟩
theorem OneS.app (h : OneS wS wM B1 f b a l v) (hB : B1 < wM.heap.size) {a' : Value} {r : RecT} (q1 : OBM 4 wS.heap.size wS a' (l.length + 1) (flatR l ++ recCells r) v') (q2 : v.heap.size ≤ v'.heap.size)
    (q3 : ∀ k, k < v.heap.size → some k ≠ a.ownBlock → v'.heap[k]? = v.heap[k]?) (q4 : a'.ownBlock = a.ownBlock ∨ a'.ownBlock = some v.heap.size) : OneS wS wM B1 f b a' (l ++ [r]) v' := by
  have hn : ∀ k, k < wM.heap.size → some k ≠ a.ownBlock := fun k hk e => by have := h.past k e.symm; omega
  refine ⟨q1.bel, Nat.le_trans h.size q2, fun k hk h1 => (q3 k (Nat.lt_of_lt_of_le hk h.size) (hn k hk)).trans (h.keep k hk h1), h.box.block (q3 B1 h.box.lt (hn B1 hB)) q2, ?_, fun k hk => ?_⟩
  · rw [List.length_append, flatR_append]; simpa [flatR] using q1
  · rcases q4 with q4 | q4
    · exact h.past k (q4.symm.trans hk)
    · rw [q4] at hk
      injection hk with hk
      subst hk
      exact h.size
theorem OneS.sto (h : OneS wS wM B1 f b a l v) (hS : wS.heap.size ≤ B1) (hB : B1 < wM.heap.size) (j : Nat) (u : Value) (hj : j < (f b).length) (hf : (f b).set j u = f u) : OneS wS wM B1 f u a l (v.setCell ⟨B1, j, none⟩ u) := by
  refine ⟨h.bel.setCell hS u, by simpa using h.size, fun k hk h1 => (Below.heap_setCell _ _ _ _ h1).trans (h.keep k hk h1), by rw [← hf]; exact h.box.set' j u hj, h.own.setOther2 B1 j u hS (fun e => ?_), h.past⟩
  have := h.past _ e
  omega
end
end Go.Proofs.YtpbbnpglcadimaaDoor
namespace Go.Proofs.YtpbbnpglcadimaaDoor
open Go.RowKit
set_option linter.unusedVariables false
set_option linter.unusedSimpArgs false
theorem OBM.rowR3 {B n : Nat} {W w : World} {v : Value} {l : List RecT} (h : OBM 4 B W v n (flatR l) w) (hn : l.length = n) : ∃ A c, v = .slice A n c ∧ RowROk w (A, n, c, l) := by
  obtain ⟨A, c, rfl, h1, h2, h3⟩ := h.slice
  exact ⟨A, c, rfl, h.sl, fun e => (h3 e).1, hn⟩
/-- A delta as the loop holds it: from, to, the slices of what goes and what comes. -/
abbrev DX := RecT × RecT × Value × Value
def cellsDX (d : DX) : List Value := dltCells d.1 d.2.1 d.2.2.1 d.2.2.2
def flatDX (xs : List DX) : List Value := xs.flatMap cellsDX
theorem flatDX_snoc (xs : List DX) (d : DX) : flatDX (xs ++ [d]) = flatDX xs ++ cellsDX d := by unfold flatDX; simp
theorem flatDX_get : ∀ (xs : List DX) (k : Nat) (x : DX), xs[k]? = some x → ∀ j u, (cellsDX x)[j]? = some u → (flatDX xs)[k * 10 + j]? = some u
  | [], k, x, h, _, _, _ => by simp at h
  | y :: xs, 0, x, h, j, u, hu => by
    simp at h; subst h
    have hj := (List.getElem?_eq_some_iff.1 hu).1
    unfold flatDX
    rw [List.flatMap_cons, Nat.zero_mul, Nat.zero_add, List.getElem?_append_left hj]
    exact hu
  | y :: xs, k + 1, x, h, j, u, hu => by
    have := flatDX_get xs k x (by simpa using h) j u hu
    unfold flatDX at this ⊢
    rw [List.flatMap_cons, List.getElem?_append_right (by rw [show (cellsDX y).length = 10 from rfl]; omega), show (cellsDX y).length = 10 from rfl, show (k + 1) * 10 + j - 10 = k * 10 + j by omega]
    exact this
/-- A slice as a row of records. -/
def rowW (v : Value) (l : List RecT) : RowR := match v with
  | .slice A n c => (A, n, c, l)
  | _ => (none, 0, 0, l)
section
variable (o : ByteArray) (acts : List ActT) (rows : List RowA)
/-- The loop's state behind k rounds. -/
structure ChS (W : World) (k : Nat) (zv dv : Value) (zx : List Value) (dx : List DX) (xs : List (Value × List RecT)) (w : World) : Prop where
  two : Two2 W 1 10 zv (k + 1) zx dv k (flatDX dx) xs w
  zl : zx.length = k + 1
  dl : dx.length = k
  z : ∀ i v, zx[i]? = some v → (v, zsR o acts rows i) ∈ xs
  d : ∀ i x, dx[i]? = some x → (x.1 = soaR o (i + 1) ∧ x.2.1 = soaR o (i + 2)) ∧ (x.2.2.1, goR o acts rows i) ∈ xs ∧ (x.2.2.2, coR o acts rows i) ∈ xs
def dltsOf (dx : List DX) : List DltT := dx.mapIdx fun i x => (x.1, x.2.1, rowW x.2.2.1 (goR o acts rows i), rowW x.2.2.2 (coR o acts rows i))
theorem dltsOf_len (dx : List DX) : (dltsOf o acts rows dx).length = dx.length := by unfold dltsOf; simp
theorem dltsOf_get {dx : List DX} {i : Nat} {d : DltT} (h : (dltsOf o acts rows dx)[i]? = some d) : ∃ x, dx[i]? = some x ∧ d = (x.1, x.2.1, rowW x.2.2.1 (goR o acts rows i), rowW x.2.2.2 (coR o acts rows i)) := by
  unfold dltsOf at h
  rw [List.getElem?_mapIdx, Option.map_eq_some_iff] at h
  obtain ⟨x, h1, h2⟩ := h
  exact ⟨x, h1, h2.symm⟩
variable {o acts rows} {W w w' : World} {k : Nat} {zv dv : Value} {zx : List Value} {dx : List DX} {xs : List (Value × List RecT)}
theorem ChS.keep {C : Nat} (h : ChS o acts rows W k zv dv zx dx xs w) (hb : Below C w w') (hC : w.heap.size ≤ C) : ChS o acts rows W k zv dv zx dx xs w' := ⟨h.two.keep hb hC, h.zl, h.dl, h.z, h.d⟩
/-- A slice that came since. -/
theorem ChS.fresh (h : ChS o acts rows W k zv dv zx dx xs w) {v : Value} {l : List RecT} (hx : OBM 4 w.heap.size w v l.length (flatR l) w') : ChS o acts rows W k zv dv zx dx (xs ++ [(v, l)]) w' :=
  ⟨h.two.fresh hx, h.zl, h.dl, fun i v hv => List.mem_append_left _ (h.z i v hv), fun i x hx => ⟨(h.d i x hx).1, List.mem_append_left _ (h.d i x hx).2.1, List.mem_append_left _ (h.d i x hx).2.2⟩⟩
/-- The round's end. -/
theorem ChS.step (h : ChS o acts rows W k zv dv zx dx xs w) {zv' dv' nz vg vn : Value} (ht : Two2 W 1 10 zv' (k + 1 + 1) (zx ++ [nz]) dv' (k + 1) (flatDX dx ++ cellsDX (soaR o (k + 1), soaR o (k + 2), vg, vn)) xs w')
    (hz : (nz, zsR o acts rows (k + 1)) ∈ xs) (hg : (vg, goR o acts rows k) ∈ xs) (hc : (vn, coR o acts rows k) ∈ xs) : ChS o acts rows W (k + 1) zv' dv' (zx ++ [nz]) (dx ++ [(soaR o (k + 1), soaR o (k + 2), vg, vn)]) xs w' := by
  refine ⟨by rw [flatDX_snoc]; exact ht, by rw [List.length_append, h.zl]; rfl, by rw [List.length_append, h.dl]; rfl, fun i v hv => ?_, fun i x hx => ?_⟩
  · by_cases hi : i < zx.length
    · rw [List.getElem?_append_left hi] at hv; exact h.z i v hv
    · rw [List.getElem?_append_right (by omega)] at hv
      have hl := (List.getElem?_eq_some_iff.1 hv).1
      simp at hl
      obtain rfl : i = k + 1 := by have := h.zl; omega
      rw [h.zl] at hv
      simp at hv
      subst hv; exact hz
  · by_cases hi : i < dx.length
    · rw [List.getElem?_append_left hi] at hx; exact h.d i x hx
    · rw [List.getElem?_append_right (by omega)] at hx
      have hl := (List.getElem?_eq_some_iff.1 hx).1
      simp at hl
      obtain rfl : i = k := by have := h.dl; omega
      rw [h.dl] at hx
      simp at hx
      subst hx; exact ⟨⟨rfl, rfl⟩, hg, hc⟩
/-- A zone that is held. -/
theorem ChS.zone (h : ChS o acts rows W k zv dv zx dx xs w) {i : Nat} (hi : i ≤ k) : ∃ A c, zx[i]? = some (.slice A (zsR o acts rows i).length c) ∧ RowROk w (A, (zsR o acts rows i).length, c, zsR o acts rows i) ∧ OBM 4 W.heap.size W (.slice A (zsR o acts rows i).length c) (zsR o acts rows i).length (flatR (zsR o acts rows i)) w := by
  have hl : i < zx.length := by have := h.zl; omega
  have hv := List.getElem?_eq_getElem hl
  have hm := (h.two.xs _ (h.z i _ hv)).1
  obtain ⟨A, c, e, hr⟩ := hm.rowR3 rfl
  have e : zx[i] = .slice A (zsR o acts rows i).length c := e
  refine ⟨A, c, by rw [hv, e], hr, ?_⟩
  have hm2 : OBM 4 W.heap.size W zx[i] (zsR o acts rows i).length (flatR (zsR o acts rows i)) w := hm
  rw [e] at hm2; exact hm2
/-- Where the i-th zone's slice lies. -/
theorem ChS.zcell (h : ChS o acts rows W k zv dv zx dx xs w) {i : Nat} {v : Value} (hv : zx[i]? = some v) : ∃ g c, zv = .slice (some ⟨g, 0, none⟩) (k + 1) c ∧ g < w.heap.size ∧ w.cell? ⟨g, i, none⟩ = some v := by
  rcases h.two.o1.own with ⟨-, hn⟩ | ⟨g, c, e, h1, h2, h3, h4, h5, h6⟩
  · omega
  · exact ⟨g, c, e, h2, h6 i v hv⟩
/-- The deltas, as Deltas takes them. -/
theorem ChS.dsAt (h : ChS o acts rows W k zv dv zx dx xs w) : ∃ A c, dv = .slice A k c ∧ k ≤ c ∧ DsAt w A (dltsOf o acts rows dx) := by
  obtain ⟨A, c, rfl, hle, -⟩ := h.two.o2.slice
  refine ⟨A, c, rfl, hle, ⟨fun i d hd => ?_, fun d hd => ?_, fun d hd => ?_⟩⟩
  · obtain ⟨x, hx, rfl⟩ := dltsOf_get o acts rows hd
    have hik : i < k := by have := (List.getElem?_eq_some_iff.1 hx).1; have := h.dl; omega
    obtain ⟨-, hg, hc⟩ := h.d i x hx
    obtain ⟨Ag, cg, eg, -⟩ := (h.two.xs _ hg).1.rowR3 rfl
    obtain ⟨An, cn, en, -⟩ := (h.two.xs _ hc).1.rowR3 rfl
    have eg : x.2.2.1 = .slice Ag (goR o acts rows i).length cg := eg
    have en : x.2.2.2 = .slice An (coR o acts rows i).length cn := en
    rcases h.two.o2.own with ⟨-, hn⟩ | ⟨g, cap, e, h1, h2, h3, h4, h5, h6⟩
    · omega
    · injection e with e1 e2 e3
      refine ⟨g, 0, e1, h2, fun j u hu => ?_⟩
      rw [Nat.zero_add]
      refine h6 _ u (flatDX_get dx i x hx j u ?_)
      have ec : dltC (x.1, x.2.1, rowW x.2.2.1 (goR o acts rows i), rowW x.2.2.2 (coR o acts rows i)) = cellsDX x := by
        unfold dltC cellsDX
        rw [eg, en]; rfl
      rw [← ec]; exact hu
  · obtain ⟨i, hi, rfl⟩ := List.mem_iff_getElem.1 hd
    obtain ⟨x, hx, e⟩ := dltsOf_get o acts rows (List.getElem?_eq_getElem hi)
    rw [e]
    obtain ⟨-, hg, hc⟩ := h.d i x hx
    obtain ⟨Ag, cg, eg, hr⟩ := (h.two.xs _ hg).1.rowR3 rfl
    have eg : x.2.2.1 = .slice Ag (goR o acts rows i).length cg := eg
    have hle := go_le o acts rows i
    simp only [eg, rowW]
    exact ⟨hr, by omega⟩
  · obtain ⟨i, hi, rfl⟩ := List.mem_iff_getElem.1 hd
    obtain ⟨x, hx, e⟩ := dltsOf_get o acts rows (List.getElem?_eq_getElem hi)
    rw [e]
    obtain ⟨-, hg, hc⟩ := h.d i x hx
    obtain ⟨Ag, cg, eg, hr⟩ := (h.two.xs _ hc).1.rowR3 rfl
    have eg : x.2.2.2 = .slice Ag (coR o acts rows i).length cg := eg
    have hle := co_le o acts rows i
    simp only [eg, rowW]
    exact ⟨hr, by omega⟩
theorem rowW_list (v : Value) (l : List RecT) : (rowW v l).2.2.2 = l := by unfold rowW; split <;> rfl
/-- They lead on. -/
theorem ChS.leads (h : ChS o acts rows W k zv dv zx dx xs w) (hk : k ≤ 900) : ∀ i d, (dltsOf o acts rows dx)[i]? = some d → apdR (zsR o acts rows i) d.1 d.2.1 d.2.2.1.2.2.2 d.2.2.2.2.2.2 = .inr (zsR o acts rows (i + 1)) := by
  intro i d hd
  obtain ⟨x, hx, rfl⟩ := dltsOf_get o acts rows hd
  have hik : i < k := by have := (List.getElem?_eq_some_iff.1 hx).1; have := h.dl; omega
  obtain ⟨⟨e1, e2⟩, -⟩ := h.d i x hx
  simp only [rowW_list]
  rw [e1, e2]
  exact zs_leads o acts rows i (by omega)
/-- Without the first one, the next does not lead on. -/
theorem ChS.late (h : ChS o acts rows W k zv dv zx dx xs w) (hk : 2 ≤ k) : ∃ d, (dltsOf o acts rows dx).tail[0]? = some d ∧ apdR (zsR o acts rows 0) d.1 d.2.1 d.2.2.1.2.2.2 d.2.2.2.2.2.2 = .inl 5 := by
  have hl : 1 < (dltsOf o acts rows dx).length := by rw [dltsOf_len, h.dl]; omega
  have hd := List.getElem?_eq_getElem hl
  obtain ⟨x, hx, e⟩ := dltsOf_get o acts rows hd
  obtain ⟨⟨e1, -⟩, -⟩ := h.d 1 x hx
  refine ⟨_, by rw [List.getElem?_tail]; exact hd, ?_⟩
  rw [e, e1]
  exact zs_late o acts rows _ _ _
theorem DsAt.tail10 {b off : Nat} {ds : List DltT} (h : DsAt w (some ⟨b, off, none⟩) ds) : DsAt w (some ⟨b, off + 10, none⟩) ds.tail := by
  refine ⟨fun i d hd => ?_, fun d hd => h.gone d (List.mem_of_mem_tail hd), fun d hd => h.new d (List.mem_of_mem_tail hd)⟩
  rw [List.getElem?_tail] at hd
  obtain ⟨b', off', e, h1, h2⟩ := h.cells (i + 1) d hd
  injection e with e
  injection e with e3 e4 e5
  subst e3 e4
  refine ⟨b, off + 10, rfl, h1, fun j u hu => ?_⟩
  have := h2 j u hu
  rw [show off + (i + 1) * 10 + j = off + 10 + i * 10 + j by omega] at this
  exact this
end
end Go.Proofs.YtpbbnpglcadimaaDoor
namespace Go.Proofs.YtpbbnpglcadimaaDoor
open Go.RowKit
set_option linter.unusedVariables false
set_option linter.unusedSimpArgs false
/-- Appended by 3 and 7; a box lies at BA. -/
structure TwoZ (W : World) (s1 s2 BA N0 : Nat) (v1 : Value) (n1 : Nat) (l1 e1 : List Value) (v2 : Value) (n2 : Nat) (l2 e2 : List Value) (xs : List (Value × List RecT)) (bx : List Value) (d : Nat → Bool) (x : Nat → Value) (w : World) : Prop where
  st : Two2 W s1 s2 (if d 3 = true then x 3 else v1) (if d 3 = true then n1 + 1 else n1) (if d 3 = true then l1 ++ e1 else l1) (if d 7 = true then x 7 else v2) (if d 7 = true then n2 + 1 else n2) (if d 7 = true then l2 ++ e2 else l2) xs w
  rb : Cs w BA bx
  m1 : (if d 3 = true then x 3 else v1).ownBlock ≠ some BA
  m2 : (if d 7 = true then x 7 else v2).ownBlock ≠ some BA
  sz : N0 ≤ w.heap.size
  b8 : d 8 = true → x 8 = x 3 ∧ d 3 = true
  b9 : d 9 = true → x 9 = x 7 ∧ d 7 = true
section
variable {W : World} {s1 s2 BA N0 : Nat} {v1 : Value} {n1 : Nat} {l1 e1 : List Value} {v2 : Value} {n2 : Nat} {l2 e2 : List Value} {xs : List (Value × List RecT)} {bx : List Value} {d : Nat → Bool} {x : Nat → Value} {w w' : World}
theorem TwoZ.start (h : Two2 W s1 s2 v1 n1 l1 v2 n2 l2 xs w) (hr : Cs w BA bx) (h1 : v1.ownBlock ≠ some BA) (h2 : v2.ownBlock ≠ some BA) (hs : N0 ≤ w.heap.size) : TwoZ W s1 s2 BA N0 v1 n1 l1 e1 v2 n2 l2 e2 xs bx (fun _ => false) x w := ⟨h, hr, h1, h2, hs, fun h => (by cases h), fun h => (by cases h)⟩
theorem TwoZ.next (h : TwoZ W s1 s2 BA N0 v1 n1 l1 e1 v2 n2 l2 e2 xs bx d x w) {i : Nat} {v : Value} (hi : 3 ≠ i ∧ 7 ≠ i ∧ 8 ≠ i ∧ 9 ≠ i) (hb : Below w.heap.size w w') : TwoZ W s1 s2 BA N0 v1 n1 l1 e1 v2 n2 l2 e2 xs bx (setD d i) (fun j => if j = i then v else x j) w' := by
  have e3 : setD d i 3 = d 3 := setD_ne d hi.1
  have e7 : setD d i 7 = d 7 := setD_ne d hi.2.1
  have e8 : setD d i 8 = d 8 := setD_ne d hi.2.2.1
  have e9 : setD d i 9 = d 9 := setD_ne d hi.2.2.2
  have x3 : (if 3 = i then v else x 3) = x 3 := if_neg hi.1
  have x7 : (if 7 = i then v else x 7) = x 7 := if_neg hi.2.1
  have x8 : (if 8 = i then v else x 8) = x 8 := if_neg hi.2.2.1
  have x9 : (if 9 = i then v else x 9) = x 9 := if_neg hi.2.2.2
  refine ⟨?_, h.rb.below hb, ?_, ?_, Nat.le_trans h.sz hb.size, by simp only [e8, e3, x8, x3]; exact h.b8, by simp only [e9, e7, x9, x7]; exact h.b9⟩
  · simp only [e3, e7, x3, x7]; exact h.st.keep hb (Nat.le_refl _)
  · simp only [e3, x3]; exact h.m1
  · simp only [e7, x7]; exact h.m2
theorem TwoZ.s0 (h : TwoZ W s1 s2 BA N0 v1 n1 l1 e1 v2 n2 l2 e2 xs bx d x w) (d3 : d 3 = false) (d7 : d 7 = false) : Two2 W s1 s2 v1 n1 l1 v2 n2 l2 xs w ∧ v1.ownBlock ≠ some BA ∧ v2.ownBlock ≠ some BA := by
  have a := h.st; have b := h.m1; have c := h.m2
  rw [d3] at a b; rw [d7] at a c
  exact ⟨a, b, c⟩
theorem TwoZ.s3 (h : TwoZ W s1 s2 BA N0 v1 n1 l1 e1 v2 n2 l2 e2 xs bx d x w) (d3 : d 3 = true) (d7 : d 7 = false) : Two2 W s1 s2 (x 3) (n1 + 1) (l1 ++ e1) v2 n2 l2 xs w ∧ (x 3).ownBlock ≠ some BA ∧ v2.ownBlock ≠ some BA := by
  have a := h.st; have b := h.m1; have c := h.m2
  rw [d3] at a b; rw [d7] at a c
  exact ⟨a, b, c⟩
theorem TwoZ.s7 (h : TwoZ W s1 s2 BA N0 v1 n1 l1 e1 v2 n2 l2 e2 xs bx d x w) (d3 : d 3 = true) (d7 : d 7 = true) : Two2 W s1 s2 (x 3) (n1 + 1) (l1 ++ e1) (x 7) (n2 + 1) (l2 ++ e2) xs w := by
  have a := h.st
  rw [d3, d7] at a
  exact a
/-- Behind the first append. -/
theorem TwoZ.do3 (h : TwoZ W s1 s2 BA N0 v1 n1 l1 e1 v2 n2 l2 e2 xs bx d x w) (d3 : d 3 = false) (d7 : d 7 = false) {a' : Value} (q1 : OBM s1 W.heap.size W a' (n1 + 1) (l1 ++ e1) w') (q2 : w.heap.size ≤ w'.heap.size)
    (q3 : ∀ k, k < w.heap.size → some k ≠ v1.ownBlock → w'.heap[k]? = w.heap[k]?) (q4 : a'.ownBlock = v1.ownBlock ∨ a'.ownBlock = some w.heap.size) : TwoZ W s1 s2 BA N0 v1 n1 l1 e1 v2 n2 l2 e2 xs bx (setD d 3) (fun j => if j = 3 then a' else x j) w' := by
  obtain ⟨hs, h1, h2⟩ := h.s0 d3 d7
  have e3 : setD d 3 3 = true := setD_self d 3
  have e7 : setD d 3 7 = false := (setD_ne d (by decide)).trans d7
  have e8 : setD d 3 8 = d 8 := setD_ne d (by decide)
  have e9 : setD d 3 9 = d 9 := setD_ne d (by decide)
  refine ⟨?_, h.rb.block (q3 BA h.rb.lt (fun e => h1 e.symm)) q2, ?_, ?_, Nat.le_trans h.sz q2, fun h8 => ?_, fun h9 => ?_⟩
  · rw [e3, e7]; exact hs.app1 q1 q2 q3 q4
  · rw [e3]
    show a'.ownBlock ≠ some BA
    rcases q4 with q4 | q4
    · rw [q4]; exact h1
    · rw [q4]; intro e; injection e with e; have := h.rb.lt; omega
  · rw [e7]; exact h2
  · rw [e8] at h8
    have := (h.b8 h8).2
    rw [d3] at this; cases this
  · rw [e9] at h9
    have := (h.b9 h9).2
    rw [d7] at this; cases this
/-- Behind the second one. -/
theorem TwoZ.do7 (h : TwoZ W s1 s2 BA N0 v1 n1 l1 e1 v2 n2 l2 e2 xs bx d x w) (d3 : d 3 = true) (d7 : d 7 = false) {a' : Value} (q1 : OBM s2 W.heap.size W a' (n2 + 1) (l2 ++ e2) w') (q2 : w.heap.size ≤ w'.heap.size)
    (q3 : ∀ k, k < w.heap.size → some k ≠ v2.ownBlock → w'.heap[k]? = w.heap[k]?) (q4 : a'.ownBlock = v2.ownBlock ∨ a'.ownBlock = some w.heap.size) : TwoZ W s1 s2 BA N0 v1 n1 l1 e1 v2 n2 l2 e2 xs bx (setD d 7) (fun j => if j = 7 then a' else x j) w' := by
  obtain ⟨hs, h1, h2⟩ := h.s3 d3 d7
  have e3 : setD d 7 3 = true := (setD_ne d (by decide)).trans d3
  have e7 : setD d 7 7 = true := setD_self d 7
  have e8 : setD d 7 8 = d 8 := setD_ne d (by decide)
  have e9 : setD d 7 9 = d 9 := setD_ne d (by decide)
  refine ⟨?_, h.rb.block (q3 BA h.rb.lt (fun e => h2 e.symm)) q2, ?_, ?_, Nat.le_trans h.sz q2, fun h8 => ?_, fun h9 => ?_⟩
  · rw [e3, e7]; exact hs.app2 q1 q2 q3 q4
  · rw [e3]; exact h1
  · rw [e7]
    show a'.ownBlock ≠ some BA
    rcases q4 with q4 | q4
    · rw [q4]; exact h2
    · rw [q4]; intro e; injection e with e; have := h.rb.lt; omega
  · rw [e8] at h8
    rw [e3]
    exact ⟨(h.b8 h8).1, rfl⟩
  · rw [e9] at h9
    have := (h.b9 h9).2
    rw [d7] at this; cases this
/-- What the first append gave is put where the list stood. -/
theorem TwoZ.do8 (h : TwoZ W s1 s2 BA N0 v1 n1 l1 e1 v2 n2 l2 e2 xs bx d x w) (d3 : d 3 = true) (hb : Below w.heap.size w w') : TwoZ W s1 s2 BA N0 v1 n1 l1 e1 v2 n2 l2 e2 xs bx (setD d 8) (fun j => if j = 8 then x 3 else x j) w' := by
  have e3 : setD d 8 3 = d 3 := setD_ne d (by decide)
  have e7 : setD d 8 7 = d 7 := setD_ne d (by decide)
  have e9 : setD d 8 9 = d 9 := setD_ne d (by decide)
  refine ⟨?_, h.rb.below hb, ?_, ?_, Nat.le_trans h.sz hb.size, fun _ => ⟨rfl, by rw [e3]; exact d3⟩, fun h9 => ?_⟩
  · simp only [e3, e7]; exact h.st.keep hb (Nat.le_refl _)
  · simp only [e3]; exact h.m1
  · simp only [e7]; exact h.m2
  · rw [e9] at h9
    rw [e7]
    exact h.b9 h9
/-- The same of the second one. -/
theorem TwoZ.do9 (h : TwoZ W s1 s2 BA N0 v1 n1 l1 e1 v2 n2 l2 e2 xs bx d x w) (d7 : d 7 = true) (hb : Below w.heap.size w w') : TwoZ W s1 s2 BA N0 v1 n1 l1 e1 v2 n2 l2 e2 xs bx (setD d 9) (fun j => if j = 9 then x 7 else x j) w' := by
  have e3 : setD d 9 3 = d 3 := setD_ne d (by decide)
  have e7 : setD d 9 7 = d 7 := setD_ne d (by decide)
  have e8 : setD d 9 8 = d 8 := setD_ne d (by decide)
  refine ⟨?_, h.rb.below hb, ?_, ?_, Nat.le_trans h.sz hb.size, fun h8 => ?_, fun _ => ⟨rfl, by rw [e7]; exact d7⟩⟩
  · simp only [e3, e7]; exact h.st.keep hb (Nat.le_refl _)
  · simp only [e3]; exact h.m1
  · simp only [e7]; exact h.m2
  · rw [e8] at h8
    rw [e3]
    exact h.b8 h8
end
end Go.Proofs.YtpbbnpglcadimaaDoor
