/- The walk of RankBetter. -/
import Derived.Test.YtdekaaclheoapaaLawRankOf
import Derived.Test.YtdekaaclheoapaaReg4
import Derived.Test.YtdekaaclheoapaaReg2
import Derived.Test.YtdekaaclheoapaaCs
import Derived.StillTailTactics
namespace Go.Proofs.Ytdekaaclheoapaa
open Go.RowKit
set_option linter.unusedVariables false
set_option linter.unusedSimpArgs false
set_option maxRecDepth 20000

/-- A trigger that may be, of a kind. -/
def TrigV (K : Nat) (v : Value) : Prop := ∃ (nm pa : ByteArray) (bits : Int) (len : Nat), v = trig (K : Int) nm pa bits ∧ nm.size ≤ 254 ∧ lenT nm pa bits = (len : Int) ∧ len ≤ 254
set_option maxHeartbeats 1600000 in
theorem code_trigger (q t : Nat) (hq : q < 256) (ht : t < 256) (A : Option Addr) (n c : Nat) (l : List UInt8) (six : Bool) (w : World) (hA : Sl w w.heap.size 1 A n (l.map bv)) (hn : n ≤ 140737488355328) :
    Calls Try.prog 31 #[.agg #[.int .u8 q, .slice A n c, .bool six, .int .u8 t]] w fun e w' => ∃ v, e = .returned v ∧ TrigV (q % 7) v ∧ Below w.heap.size w w' := by
  obtain ⟨W, hW⟩ : ∃ W, W = (w.alloc (.cells #[.int .u8 q, .slice A n c, .bool six, .int .u8 t] 60)).alloc (.cells #[.int .i64 0, .string ⟨#[]⟩, .string ⟨#[]⟩, .int .i64 0] 51) := ⟨_, rfl⟩
  have hz : (w.alloc (.cells #[.int .u8 q, .slice A n c, .bool six, .int .u8 t] 60)).heap.size = w.heap.size + 1 := by simp
  have hD : Cs W (w.heap.size + 1) [.int .i64 0, .string ⟨#[]⟩, .string ⟨#[]⟩, .int .i64 0] := by rw [hW]; exact (Cs.new _ _ _ _).at_ _ hz
  have hbW : Below w.heap.size w W := by rw [hW]; exact ((Below.refl _ _).alloc (Nat.le_refl _) _).alloc (by simp) _
  have TR := Lib.hid (trigger_all q t hq ht A n c l six W ((hA.below hbW).more hbW.size) hn)
  clear hz hA hq ht
  go_enter Try.func31, Try.ntmps31
  go_wp2_with fail
  rw [← hW]
  clear hW
  refine TR.out.mono ?_
  rintro e w1 ⟨nm, pa, bits, len, rfl, h1, h2, h3, h4, h5, h6, hb1'⟩
  have hD1 := hD.below hb1'
  have hb1 := below_trans hbW hbW.size hb1'
  have hv : TrigV (q % 7) (trig ((q % 7 : Nat) : Int) nm pa bits) := ⟨nm, pa, bits, len, rfl, h1, h2, h3⟩
  have HVV := Lib.hid hv
  obtain ⟨K, hK⟩ : ∃ K : Int, ((q % 7 : Nat) : Int) = K := ⟨_, rfl⟩
  rw [hK] at HVV ⊢
  unfold trig at HVV ⊢
  have d0 := hD1.get 0 _
  have d1 := hD1.get 1 _
  have d2 := hD1.get 2 _
  have d3 := hD1.get 3 _
  have f0 := hD1.froz 0
  have f1 := hD1.froz 1
  have f2 := hD1.froz 2
  have f3 := hD1.froz 3
  clear hD hD1 hbW hb1' TR hv hK h1 h2 h3 h4 h5 h6
  go_wp2_with fail
  refine bodyPost_ret (v := .agg #[.int .i64 K, .string nm, .string pa, .int .i64 bits]) (by simp [results, Try.results31, go_sem, d0, d1, d2, d3]) rfl ⟨_, rfl, HVV.out, ?_⟩
  iterate 4 (refine Below.setCell ?_ (by simp) _)
  exact hb1
/-- A pointer to a block of four cells from C on. -/
def PtrW (C : Nat) (v : Value) (w : World) : Prop := ∃ g c0 c1 c2 c3, v = .pointer (some ⟨g, 0, none⟩) ∧ C ≤ g ∧ Cs w g [c0, c1, c2, c3]
/-- It holds a trigger. -/
def HoldW (p v : Value) (w : World) : Prop := ∃ g K nm pa bits, p = .pointer (some ⟨g, 0, none⟩) ∧ v = .agg #[.int .i64 K, .string nm, .string pa, .int .i64 bits] ∧ Cs w g [.int .i64 K, .string nm, .string pa, .int .i64 bits]
theorem PtrW.goes {C : Nat} {v : Value} {w w' : World} (h : PtrW C v w) (hb : Below w.heap.size w w') : PtrW C v w' := by
  obtain ⟨g, c0, c1, c2, c3, e, hg, hc⟩ := h; exact ⟨g, c0, c1, c2, c3, e, hg, hc.below hb⟩
theorem HoldW.goes {p v : Value} {w w' : World} (h : HoldW p v w) (hb : Below w.heap.size w w') : HoldW p v w' := by
  obtain ⟨g, K, nm, pa, bits, e, hv, hc⟩ := h; exact ⟨g, K, nm, pa, bits, e, hv, hc.below hb⟩
/-- What two calls, two new variables and two stores have done. -/
structure JJ (w1 : World) (K J : Nat) (a b : Value) (d : Nat → Bool) (x : Nat → Value) (w : World) : Prop where
  bel : Below w1.heap.size w1 w
  j0 : d 0 = true → x 0 = a
  j2 : d 2 = true → x 2 = b
  j1 : d 1 = true → TrigV K (x 1)
  j3 : d 3 = true → TrigV J (x 3)
  j4 : d 4 = true → PtrW w1.heap.size (x 4) w
  j5 : d 5 = true → PtrW w1.heap.size (x 5) w
  ne : d 4 = true → d 5 = true → x 4 ≠ x 5
  j6 : d 6 = true → HoldW (x 4) (x 1) w
  j7 : d 7 = true → HoldW (x 5) (x 3) w
  k6 : d 6 = true → d 4 = true ∧ d 1 = true ∧ d 5 = true ∧ d 3 = true
  k7 : d 7 = true → d 4 = true ∧ d 1 = true ∧ d 5 = true ∧ d 3 = true ∧ d 6 = true
theorem JJ.goes {w1 : World} {K J : Nat} {a b : Value} {d : Nat → Bool} {x : Nat → Value} {w w' : World} (h : JJ w1 K J a b d x w) (hb : Below w.heap.size w w') : JJ w1 K J a b d x w' :=
  ⟨below_trans h.bel h.bel.size hb, h.j0, h.j2, h.j1, h.j3, fun e => (h.j4 e).goes hb, fun e => (h.j5 e).goes hb, h.ne, fun e => (h.j6 e).goes hb, fun e => (h.j7 e).goes hb, h.k6, h.k7⟩
theorem Cs.other4 {w : World} {b g : Nat} {vs : List Value} (h : Cs w b vs) (hg : g ≠ b) (u0 u1 u2 u3 : Value) :
    Cs ((((w.setCell ⟨g, 0, none⟩ u0).setCell ⟨g, 1, none⟩ u1).setCell ⟨g, 2, none⟩ u2).setCell ⟨g, 3, none⟩ u3) b vs := (((h.other g 0 u0 hg).other g 1 u1 hg).other g 2 u2 hg).other g 3 u3 hg
theorem Cs.four {w : World} {g : Nat} {c0 c1 c2 c3 : Value} (h : Cs w g [c0, c1, c2, c3]) (u0 u1 u2 u3 : Value) :
    Cs ((((w.setCell ⟨g, 0, none⟩ u0).setCell ⟨g, 1, none⟩ u1).setCell ⟨g, 2, none⟩ u2).setCell ⟨g, 3, none⟩ u3) g [u0, u1, u2, u3] := by
  have e0 := h.get 0 _
  have e1 := h.get 1 _
  have e2 := h.get 2 _
  have e3 := h.get 3 _
  have f0 := h.froz 0 (by simp)
  have f1 := h.froz 1 (by simp)
  have f2 := h.froz 2 (by simp)
  have f3 := h.froz 3 (by simp)
  refine ⟨by simpa using h.1, fun j hj => ?_⟩
  simp at hj
  have : j = 0 ∨ j = 1 ∨ j = 2 ∨ j = 3 := by omega
  rcases this with rfl | rfl | rfl | rfl <;> (constructor <;> simp [go_sem, e0, e1, e2, e3, f0, f1, f2, f3])
theorem rb_follows : Try.prog.follows .mixedOrders = true := by kernel_rfl
attribute [local simp] putsF isV wordOf Deps Region.binds Region.wanted Act.put wantedX isB
set_option maxHeartbeats 3200000 in
theorem rankBetter_walk (w : World) (z : Int) (hzw : (Lit.int .u8 z).wf = true)
    (q : Int) (hqw : (Lit.int .u8 q).wf = true) (A : Option Addr) (n c : Nat) (zs : List Int) (hV : SlView w A n c (zs.map (Value.int .u8))) (hl : zs.length = n) (hz : ∀ z ∈ zs, (Lit.int .u8 z).wf = true) (hc : c ≤ 140737488351232) (six : Bool) (t : Int) (htw : (Lit.int .u8 t).wf = true)
    (y : Int) (hyw : (Lit.int .u8 y).wf = true)
    (r : Int) (hrw : (Lit.int .u8 r).wf = true) (B : Option Addr) (m d : Nat) (ys : List Int) (hV2 : SlView w B m d (ys.map (Value.int .u8))) (hl2 : ys.length = m) (hy : ∀ z ∈ ys, (Lit.int .u8 z).wf = true) (hd : d ≤ 140737488351232) (six2 : Bool) (u : Int) (huw : (Lit.int .u8 u).wf = true) :
    Calls Try.prog 9 #[.int .u8 z, .agg #[.int .u8 q, .slice A n c, .bool six, .int .u8 t], .int .u8 y, .agg #[.int .u8 r, .slice B m d, .bool six2, .int .u8 u]] w fun e w' => e = .returned (.bool true) ∧ Below w.heap.size w w' := by
  obtain ⟨l, hzl⟩ := bytes_of zs hz
  rw [hzl] at hV
  obtain ⟨l2, hyl⟩ := bytes_of ys hy
  rw [hyl] at hV2
  have hnc := hV.le
  have hmd := hV2.le
  have hA : Sl w w.heap.size 1 A n (l.map bv) := hV.sl
  have hB : Sl w w.heap.size 1 B m (l2.map bv) := hV2.sl
  obtain ⟨z, rfl, hz8⟩ := rb_u8 hzw
  obtain ⟨y, rfl, hy8⟩ := rb_u8 hyw
  obtain ⟨q, rfl, hq8⟩ := rb_u8 hqw
  obtain ⟨r, rfl, hr8⟩ := rb_u8 hrw
  obtain ⟨t, rfl, ht8⟩ := rb_u8 htw
  obtain ⟨u, rfl, hu8⟩ := rb_u8 huw
  obtain ⟨K, hK⟩ : ∃ K, q % 7 = K := ⟨_, rfl⟩
  obtain ⟨J, hJ⟩ : ∃ K, r % 7 = K := ⟨_, rfl⟩
  have TA := Lib.hid (fun (w' : World) (h : Sl w' w'.heap.size 1 A n (l.map bv)) => code_trigger q t hq8 ht8 A n c l six w' h (by omega))
  have TB := Lib.hid (fun (w' : World) (h : Sl w' w'.heap.size 1 B m (l2.map bv)) => code_trigger r u hr8 hu8 B m d l2 six2 w' h (by omega))
  rw [hK] at TA
  rw [hJ] at TB
  have HKJ : Hid ((q : Int) % 7 = K ∧ (r : Int) % 7 = J ∧ K < 7 ∧ J < 7) := Lib.hid (by omega)
  clear hzl hyl hz hy hV hV2 hl hl2 hzw hyw hqw hrw htw huw hK hJ
  go_enter Try.func9, Try.ntmps9
  go_upto_region 1 with fail
  have hP := Cs.new w #[.int .u8 q, .slice A n c, .bool six, .int .u8 t] 60 [.int .u8 q, .slice A n c, .bool six, .int .u8 t]
  have hP' := hP.alloc (.cells #[.int .u8 r, .slice B m d, .bool six2, .int .u8 u] 60)
  have hQ := Cs.new (w.alloc (.cells #[.int .u8 q, .slice A n c, .bool six, .int .u8 t] 60)) #[.int .u8 r, .slice B m d, .bool six2, .int .u8 u] 60 [.int .u8 r, .slice B m d, .bool six2, .int .u8 u]
  have hsz : (w.alloc (.cells #[.int .u8 q, .slice A n c, .bool six, .int .u8 t] 60)).heap.size = w.heap.size + 1 := by simp
  rw [hsz] at hQ
  have hbW := ((Below.refl w.heap.size w).alloc (Nat.le_refl _) (.cells #[.int .u8 q, .slice A n c, .bool six, .int .u8 t] 60)).alloc (by simp) (.cells #[.int .u8 r, .slice B m d, .bool six2, .int .u8 u] 60)
  generalize hW : (w.alloc (.cells #[.int .u8 q, .slice A n c, .bool six, .int .u8 t] 60)).alloc (.cells #[.int .u8 r, .slice B m d, .bool six2, .int .u8 u] 60) = W at *
  clear hW hP hsz
  go_wp2_with fail
  refine (awake18_any _).mono ?_
  rintro e w1 ⟨rfl, hb1'⟩
  have hP1 := hP'.below hb1'
  have hQ1 := hQ.below hb1'
  have hb1 := below_trans hbW hbW.size hb1'
  have hA1 := (hA.below hb1).more hb1.size
  have hB1 := (hB.below hb1).more hb1.size
  clear hP' hQ hb1' hbW hA hB
  go_upto_region 3 with fail
  refine wp_region_joint rb_follows (JJ w1 K J (.agg #[.int .u8 q, .slice A n c, .bool six, .int .u8 t]) (.agg #[.int .u8 r, .slice B m d, .bool six2, .int .u8 u])) (by kernel_rfl) (by kernel_rfl) ?start ?steps ?fin
  case start => exact fun x => ⟨(Below.refl _ w1).drew, by simp, by simp, by simp, by simp, by simp, by simp, by simp, by simp, by simp, by simp, by simp⟩
  case steps =>
    intro i hi dd x wr hJ hdi hdeps
    have hi8 : i < 8 := hi
    have hbel := hJ.bel
    have hA2 := (hA1.below hbel).more hbel.size
    have hB2 := (hB1.below hbel).more hbel.size
    have hcs : i = 0 ∨ i = 1 ∨ i = 2 ∨ i = 3 ∨ i = 4 ∨ i = 5 ∨ i = 6 ∨ i = 7 := by omega
    rcases hcs with rfl | rfl | rfl | rfl | rfl | rfl | rfl | rfl
    all_goals
      simp at hdeps
      simp
    · have hc := hP1.below hbel
      have c0 := hc.get 0 _
      have c1 := hc.get 1 _
      have c2 := hc.get 2 _
      have c3 := hc.get 3 _
      have hG := hJ
      clear hc
      go_simp
      refine ⟨hbel, by simp, by simpa using hG.j2, by simpa using hG.j1, by simpa using hG.j3, by simpa using hG.j4, by simpa using hG.j5, by simpa using hG.ne, by simpa using hG.j6, by simpa using hG.j7, by simpa using hG.k6, by simpa using hG.k7⟩
    · have hx := hJ.j0 (hdeps)
      rw [hx]
      go_simp
      go_at_call 31
      refine (TA.out _ hA2).mono ?_
      rintro e w2 ⟨v, rfl, hv, hb⟩
      have hG := hJ.goes hb
      refine ⟨hG.bel, by simpa using hG.j0, by simpa using hG.j2, fun _ => by simpa using hv, by simpa using hG.j3, by simpa using hG.j4, by simpa using hG.j5, by simpa using hG.ne, fun h => absurd (hG.k6 (by simpa using h)).2.1 (by rw [hdi]; simp), fun h => absurd (hG.k7 (by simpa using h)).2.1 (by rw [hdi]; simp), fun h => absurd (hG.k6 (by simpa using h)).2.1 (by rw [hdi]; simp), fun h => absurd (hG.k7 (by simpa using h)).2.1 (by rw [hdi]; simp)⟩
    · have hc := hQ1.below hbel
      have c0 := hc.get 0 _
      have c1 := hc.get 1 _
      have c2 := hc.get 2 _
      have c3 := hc.get 3 _
      have hG := hJ
      clear hc
      go_simp
      refine ⟨hbel, by simpa using hG.j0, by simp, by simpa using hG.j1, by simpa using hG.j3, by simpa using hG.j4, by simpa using hG.j5, by simpa using hG.ne, by simpa using hG.j6, by simpa using hG.j7, by simpa using hG.k6, by simpa using hG.k7⟩
    · have hx := hJ.j2 (hdeps.1)
      rw [hx]
      go_simp
      go_at_call 31
      refine (TB.out _ hB2).mono ?_
      rintro e w2 ⟨v, rfl, hv, hb⟩
      have hG := hJ.goes hb
      refine ⟨hG.bel, by simpa using hG.j0, by simpa using hG.j2, by simpa using hG.j1, fun _ => by simpa using hv, by simpa using hG.j4, by simpa using hG.j5, by simpa using hG.ne, fun h => absurd (hG.k6 (by simpa using h)).2.2.2 (by rw [hdi]; simp), fun h => absurd (hG.k7 (by simpa using h)).2.2.2.1 (by rw [hdi]; simp), fun h => absurd (hG.k6 (by simpa using h)).2.2.2 (by rw [hdi]; simp), fun h => absurd (hG.k7 (by simpa using h)).2.2.2.1 (by rw [hdi]; simp)⟩
    · have hnew : PtrW w1.heap.size (.pointer (some ⟨wr.heap.size, 0, none⟩)) (wr.alloc (.cells #[.int .i64 0, .string ⟨#[]⟩, .string ⟨#[]⟩, .int .i64 0] 51)) :=
        ⟨wr.heap.size, _, _, _, _, rfl, hbel.size, Cs.new wr _ _ _⟩
      have hG := hJ.goes ((Below.refl wr.heap.size wr).alloc (Nat.le_refl _) (.cells #[.int .i64 0, .string ⟨#[]⟩, .string ⟨#[]⟩, .int .i64 0] 51))
      have hol : dd 5 = true → Value.pointer (some ⟨wr.heap.size, 0, none⟩) ≠ x 5 := fun h5 => by
        obtain ⟨g, _, _, _, _, e, _, hc⟩ := hJ.j5 h5
        rw [e]
        intro he
        have := hc.lt
        injection he with he
        injection he with he
        injection he with he
        omega
      go_simp
      refine ⟨hG.bel, by simpa using hG.j0, by simpa using hG.j2, by simpa using hG.j1, by simpa using hG.j3, fun _ => by simpa using hnew, by simpa using hG.j5, fun _ h => by simpa using hol (by simpa using h), fun h => absurd (hG.k6 (by simpa using h)).1 (by rw [hdi]; simp), fun h => absurd (hG.k7 (by simpa using h)).1 (by rw [hdi]; simp), fun h => absurd (hG.k6 (by simpa using h)).1 (by rw [hdi]; simp), fun h => absurd (hG.k7 (by simpa using h)).1 (by rw [hdi]; simp)⟩
    · have hnew : PtrW w1.heap.size (.pointer (some ⟨wr.heap.size, 0, none⟩)) (wr.alloc (.cells #[.int .i64 0, .string ⟨#[]⟩, .string ⟨#[]⟩, .int .i64 0] 51)) :=
        ⟨wr.heap.size, _, _, _, _, rfl, hbel.size, Cs.new wr _ _ _⟩
      have hG := hJ.goes ((Below.refl wr.heap.size wr).alloc (Nat.le_refl _) (.cells #[.int .i64 0, .string ⟨#[]⟩, .string ⟨#[]⟩, .int .i64 0] 51))
      have hol : dd 4 = true → Value.pointer (some ⟨wr.heap.size, 0, none⟩) ≠ x 4 := fun h5 => by
        obtain ⟨g, _, _, _, _, e, _, hc⟩ := hJ.j4 h5
        rw [e]
        intro he
        have := hc.lt
        injection he with he
        injection he with he
        injection he with he
        omega
      go_simp
      refine ⟨hG.bel, by simpa using hG.j0, by simpa using hG.j2, by simpa using hG.j1, by simpa using hG.j3, by simpa using hG.j4, fun _ => by simpa using hnew, fun h _ => by simpa using fun e => hol (by simpa using h) e.symm, fun h => absurd (hG.k6 (by simpa using h)).2.2.1 (by rw [hdi]; simp), fun h => absurd (hG.k7 (by simpa using h)).2.2.1 (by rw [hdi]; simp), fun h => absurd (hG.k6 (by simpa using h)).2.2.1 (by rw [hdi]; simp), fun h => absurd (hG.k7 (by simpa using h)).2.2.1 (by rw [hdi]; simp)⟩
    · obtain ⟨hd4, hd1, hd3, hd0, -, -, hd5⟩ := hdeps
      obtain ⟨g, c0, c1, c2, c3, eg, hg, hc⟩ := hJ.j4 hd4
      obtain ⟨h, b0, b1, b2, b3, eh, hh, hc'⟩ := hJ.j5 hd5
      have hgh : g ≠ h := fun e => hJ.ne hd4 hd5 (by rw [eg, eh, e])
      obtain ⟨nm, pa, bits, len, ev, -, -, -⟩ := hJ.j1 hd1
      unfold trig at ev
      have e0 := hc.get 0 _
      have e1 := hc.get 1 _
      have e2 := hc.get 2 _
      have e3 := hc.get 3 _
      have f0 := hc.froz 0 (by simp)
      have f1 := hc.froz 1 (by simp)
      have f2 := hc.froz 2 (by simp)
      have f3 := hc.froz 3 (by simp)
      have n1 := hc.four (.int .i64 K) (.string nm) (.string pa) (.int .i64 bits)
      have n2 := hc'.other4 hgh (.int .i64 K) (.string nm) (.string pa) (.int .i64 bits)
      have nb : Below w1.heap.size w1 ((((wr.setCell ⟨g, 0, none⟩ (.int .i64 K)).setCell ⟨g, 1, none⟩ (.string nm)).setCell ⟨g, 2, none⟩ (.string pa)).setCell ⟨g, 3, none⟩ (.int .i64 bits)) := by
        iterate 4 (refine Below.setCell ?_ hg _)
        exact hbel
      rw [eg, ev]
      clear hc hc' hgh
      go_simp
      first | refine ⟨nb, by simpa using hJ.j0, by simpa using hJ.j2, by simpa using hJ.j1, by simpa using hJ.j3, fun _ => ⟨g, _, _, _, _, by simpa using eg, hg, n1⟩, fun _ => ⟨h, _, _, _, _, by simpa using eh, hh, n2⟩, by simpa using hJ.ne, fun _ => ⟨g, _, _, _, _, by simpa using eg, by simpa using ev, n1⟩, fun h => absurd (hJ.k7 (by simpa using h)).2.2.2.2 (by rw [hdi]; simp), fun _ => by simp [hd4, hd1, hd5, hd3], fun h => absurd (hJ.k7 (by simpa using h)).2.2.2.2 (by rw [hdi]; simp)⟩ | refine ⟨undef, nb, by simpa using hJ.j0, by simpa using hJ.j2, by simpa using hJ.j1, by simpa using hJ.j3, fun _ => ⟨g, _, _, _, _, by simpa using eg, hg, n1⟩, fun _ => ⟨h, _, _, _, _, by simpa using eh, hh, n2⟩, by simpa using hJ.ne, fun _ => ⟨g, _, _, _, _, by simpa using eg, by simpa using ev, n1⟩, fun h => absurd (hJ.k7 (by simpa using h)).2.2.2.2 (by rw [hdi]; simp), fun _ => by simp [hd4, hd1, hd5, hd3], fun h => absurd (hJ.k7 (by simpa using h)).2.2.2.2 (by rw [hdi]; simp)⟩
    · have hd4 : dd 4 = true := by have := hdeps; simp_all
      have hd1 : dd 1 = true := by have := hdeps; simp_all
      have hd3 : dd 3 = true := by have := hdeps; simp_all
      have hd5 : dd 5 = true := by have := hdeps; simp_all
      have hd6 : dd 6 = true := by have := hdeps; simp_all
      obtain ⟨g, c0, c1, c2, c3, eg, hg, hc⟩ := hJ.j5 hd5
      obtain ⟨h, b0, b1, b2, b3, eh, hh, hc'⟩ := hJ.j4 hd4
      have hgh : g ≠ h := fun e => hJ.ne hd4 hd5 (by rw [eg, eh, e])
      obtain ⟨nm, pa, bits, len, ev, -, -, -⟩ := hJ.j3 hd3
      unfold trig at ev
      have e0 := hc.get 0 _
      have e1 := hc.get 1 _
      have e2 := hc.get 2 _
      have e3 := hc.get 3 _
      have f0 := hc.froz 0 (by simp)
      have f1 := hc.froz 1 (by simp)
      have f2 := hc.froz 2 (by simp)
      have f3 := hc.froz 3 (by simp)
      have n1 := hc.four (.int .i64 J) (.string nm) (.string pa) (.int .i64 bits)
      have n2 := hc'.other4 hgh (.int .i64 J) (.string nm) (.string pa) (.int .i64 bits)
      have nb : Below w1.heap.size w1 ((((wr.setCell ⟨g, 0, none⟩ (.int .i64 J)).setCell ⟨g, 1, none⟩ (.string nm)).setCell ⟨g, 2, none⟩ (.string pa)).setCell ⟨g, 3, none⟩ (.int .i64 bits)) := by
        iterate 4 (refine Below.setCell ?_ hg _)
        exact hbel
      obtain ⟨g6, K6, nm6, pa6, bits6, eg6, ev6, hc6⟩ := hJ.j6 hd6
      have hg6 : g ≠ g6 := fun e => hJ.ne hd4 hd5 (by rw [eg, eg6, e])
      have n6 := hc6.other4 hg6 (.int .i64 J) (.string nm) (.string pa) (.int .i64 bits)
      rw [eg, ev]
      clear hc hc' hgh
      go_simp
      first | refine ⟨nb, by simpa using hJ.j0, by simpa using hJ.j2, by simpa using hJ.j1, by simpa using hJ.j3, fun _ => ⟨h, _, _, _, _, by simpa using eh, hh, n2⟩, fun _ => ⟨g, _, _, _, _, by simpa using eg, hg, n1⟩, by simpa using hJ.ne, fun _ => ⟨g6, _, _, _, _, by simpa using eg6, by simpa using ev6, n6⟩, fun _ => ⟨g, _, _, _, _, by simpa using eg, by simpa using ev, n1⟩, fun _ => by simp [hd4, hd1, hd5, hd3], fun _ => by simp [hd4, hd1, hd5, hd3, hd6]⟩ | refine ⟨undef, nb, by simpa using hJ.j0, by simpa using hJ.j2, by simpa using hJ.j1, by simpa using hJ.j3, fun _ => ⟨h, _, _, _, _, by simpa using eh, hh, n2⟩, fun _ => ⟨g, _, _, _, _, by simpa using eg, hg, n1⟩, by simpa using hJ.ne, fun _ => ⟨g6, _, _, _, _, by simpa using eg6, by simpa using ev6, n6⟩, fun _ => ⟨g, _, _, _, _, by simpa using eg, by simpa using ev, n1⟩, fun _ => by simp [hd4, hd1, hd5, hd3], fun _ => by simp [hd4, hd1, hd5, hd3, hd6]⟩
  case fin =>
    intro dd x w2 hall hJ
    have h4 := hall 4 (by decide)
    have h5 := hall 5 (by decide)
    have h6 := hall 6 (by decide)
    have h7 := hall 7 (by decide)
    have h1 := hall 1 (by decide)
    have h3 := hall 3 (by decide)
    obtain ⟨g, Kg, nm, pa, tb, eg, ev, hCg⟩ := hJ.j6 h6
    obtain ⟨h, Kh, nm2, pa2, tb2, eh, ev2, hCh⟩ := hJ.j7 h7
    have hT1 := hJ.j1 h1
    have hT2 := hJ.j3 h3
    rw [ev] at hT1
    rw [ev2] at hT2
    have hb2 := below_trans hb1 hb1.size hJ.bel
    have hP2 := hP1.below hJ.bel
    have hQ2 := hQ1.below hJ.bel
    simp [eg, eh]
    obtain ⟨nm', pa', tb', len, e1, hnm, hlen, hle⟩ := hT1
    obtain ⟨nm2', pa2', tb2', len2, e2, hnm2, hlen2, hle2⟩ := hT2
    unfold trig at e1 e2
    simp only [Value.agg.injEq, Array.mk.injEq, List.cons.injEq, Value.int.injEq, Value.string.injEq, true_and, and_true] at e1 e2
    obtain ⟨rfl, rfl, rfl, rfl⟩ := e1
    obtain ⟨rfl, rfl, rfl, rfl⟩ := e2
    obtain ⟨hqK, hrJ, hK7, hJ7⟩ := HKJ.out
    clear hJ hall h4 h5 h6 h7 h1 h3 eg eh ev ev2 TA TB hP1 hQ1 hA1 hB1 hb1
    generalize x 0 = x0
    generalize x 1 = x1
    generalize x 2 = x2
    generalize x 3 = x3
    obtain ⟨Z, hZ⟩ : ∃ Z, z % 4 = Z := ⟨_, rfl⟩
    obtain ⟨Y, hY⟩ : ∃ Y, y % 4 = Y := ⟨_, rfl⟩
    have hz4 : (z : Int) % 4 = (Z : Int) := by omega
    have hy4 : (y : Int) % 4 = (Y : Int) := by omega
    have hz5 : ((z : Int)).tmod 4 = (Z : Int) := by rw [Int.tmod_eq_emod_of_nonneg (by omega)]; exact hz4
    have hy5 : ((y : Int)).tmod 4 = (Y : Int) := by rw [Int.tmod_eq_emod_of_nonneg (by omega)]; exact hy4
    have hZ4 : Z < 4 := by omega
    have hY4 : Y < 4 := by omega
    obtain ⟨X1, hX1⟩ : ∃ X, X = 256 * K + 255 - len := ⟨_, rfl⟩
    obtain ⟨X2, hX2⟩ : ∃ X, X = 256 * J + 255 - len2 := ⟨_, rfl⟩
    have hX1b : X1 < 1792 := by omega
    have hX2b : X2 < 1792 := by omega
    have OF1 := Lib.hid (fun w => of_rk Z K nm pa tb len w hK7 hnm hlen hle)
    have OF2 := Lib.hid (fun w => of_rk Y J nm2 pa2 tb2 len2 w hJ7 hnm2 hlen2 hle2)
    have LE1 := Lib.hid (fun w => length18_any (K : Int) nm pa tb w (by unfold maxLen; omega))
    have LE2 := Lib.hid (fun w => length18_any (J : Int) nm2 pa2 tb2 w (by unfold maxLen; omega))
    rw [hlen] at LE1
    rw [hlen2] at LE2
    rw [← hX1] at OF1
    rw [← hX2] at OF2
    have B1 := Lib.hid (fun w => better_rk Z X1 Y X2 (by omega) (by omega) (by omega) (by omega) w)
    have B2 := Lib.hid (fun w => better_rk Z X1 Z X1 (by omega) (by omega) (by omega) (by omega) w)
    have B3 := Lib.hid (fun w => better_rk Y X2 Z X1 (by omega) (by omega) (by omega) (by omega) w)
    have hbt : rkLt Z X1 Y X2 = (if Z = Y then decide (K < J ∨ K = J ∧ len2 < len) else decide (Z < Y)) := by
      unfold rkLt
      by_cases h : Z = Y
      · rw [if_pos h, decide_eq_decide]; omega
      · rw [if_neg h, decide_eq_decide]; omega
    have hself : rkLt Z X1 Z X1 = false := by unfold rkLt; simp
    have hanti : rkLt Z X1 Y X2 = true → rkLt Y X2 Z X1 = false := by unfold rkLt; simp only [decide_eq_true_eq, decide_eq_false_iff_not]; omega
    rw [hself] at B2
    have HBT := Lib.hid hbt
    have HAN := Lib.hid hanti
    clear hbt hself hanti hnm hlen hle hnm2 hlen2 hle2 hX1 hX2 hX1b hX2b hZ hY hz8 hy8
    unfold trig rk at *
    go_upto_region 4 with fail
    have i1 : IntKind.i64.wrap (Z : Int) = Z := IntWalk.i64_in _ (by omega)
    have i2 : IntKind.i64.wrap (Y : Int) = Y := IntWalk.i64_in _ (by omega)
    refine wp_region_goes rb_follows w2.heap.size w2
      [isV (.int .u8 z), isV (.int .u8 Z), isV (.int .i64 Z), isV (.agg #[.int .i64 K, .string nm, .string pa, .int .i64 tb]), isV (.complex .f64 (floatOfInt .f64 (Z : Int)) (floatOfInt .f64 (X1 : Int))),
       isV (.int .u8 y), isV (.int .u8 Y), isV (.int .i64 Y), isV (.agg #[.int .i64 J, .string nm2, .string pa2, .int .i64 tb2]), isV (.complex .f64 (floatOfInt .f64 (Y : Int)) (floatOfInt .f64 (X2 : Int))),
       isV (.complex .f64 (floatOfInt .f64 (Z : Int)) (floatOfInt .f64 (X1 : Int))), isV (.complex .f64 (floatOfInt .f64 (Y : Int)) (floatOfInt .f64 (X2 : Int)))]
      (by kernel_rfl) (by kernel_rfl) rfl ?_ (Below.refl _ w2) ?_ ?_
    · repeat (first | exact trivial | refine ⟨by first | exact isV_stays _, ?_⟩)
    · refine ⟨?_, ?_, ?_, ?_, ?_, ?_, ?_, ?_, ?_, ?_, ?_, ?_, trivial⟩
      all_goals
        intro x wr hR hd
        simp at hd ⊢
      · go_simp; exact next_same _ rfl rfl hR
      · go_simp; exact next_same _ rfl rfl hR
      · go_simp; exact next_same _ rfl rfl hR
      · have hc := hCg.below hR
        have c0 := hc.get 0 _
        have c1 := hc.get 1 _
        have c2 := hc.get 2 _
        have c3 := hc.get 3 _
        clear hc
        go_simp
        exact next_same _ rfl rfl hR
      · obtain ⟨hd0, hd1⟩ := hd
        go_simp
        go_at_call 26
        refine (OF1.out wr).mono ?_
        rintro e' w6 ⟨rfl, hb⟩
        exact next_call _ rfl rfl hR hR.size hb
      · go_simp; exact next_same _ rfl rfl hR
      · go_simp; exact next_same _ rfl rfl hR
      · go_simp; exact next_same _ rfl rfl hR
      · have hc := hCh.below hR
        have c0 := hc.get 0 _
        have c1 := hc.get 1 _
        have c2 := hc.get 2 _
        have c3 := hc.get 3 _
        clear hc
        go_simp
        exact next_same _ rfl rfl hR
      · obtain ⟨hd0, hd1⟩ : x 7 = .int .i64 Y ∧ x 8 = .agg #[.int .i64 J, .string nm2, .string pa2, .int .i64 tb2] := ⟨hd.1, by first | exact hd.2 | exact hd.2.1⟩
        clear hd
        go_simp
        go_at_call 26
        refine (OF2.out wr).mono ?_
        rintro e' w6 ⟨rfl, hb⟩
        exact next_call _ rfl rfl hR hR.size hb
      · have h4 : x 4 = .complex .f64 (floatOfInt .f64 (Z : Int)) (floatOfInt .f64 (X1 : Int)) := by simp_all
        clear hd
        go_simp
        exact next_same _ rfl rfl hR
      · have h9 : x 9 = .complex .f64 (floatOfInt .f64 (Y : Int)) (floatOfInt .f64 (X2 : Int)) := by simp_all
        clear hd
        go_simp
        exact next_same _ rfl rfl hR
    intro x w3 hb3' hx
    simp [AllWords] at hx ⊢
    obtain ⟨-, -, -, -, -, -, -, -, -, -, hx10, hx11⟩ := hx
    rw [hx10, hx11]
    have hP3 := hP2.below hb3'
    have hQ3 := hQ2.below hb3'
    have hCg3 := hCg.below hb3'
    have hCh3 := hCh.below hb3'
    have hb3 := below_trans hb2 hb2.size hb3'
    generalize x 0 = y0
    generalize x 1 = y1
    generalize x 2 = y2
    generalize x 3 = y3
    generalize x 4 = y4
    generalize x 5 = y5
    generalize x 6 = y6
    generalize x 7 = y7
    generalize x 8 = y8
    generalize x 9 = y9
    clear hx10 hx11 hP2 hQ2 hCg hCh hb3' hb2 OF1 OF2 x
    by_cases hZY : Z = Y
    · subst hZY
      have hbt0 := HBT.out
      rw [if_pos rfl] at hbt0
      have hqq : ((q : Int)).tmod 7 = (K : Int) := by rw [Int.tmod_eq_emod_of_nonneg (by omega)]; exact hqK
      have hrr : ((r : Int)).tmod 7 = (J : Int) := by rw [Int.tmod_eq_emod_of_nonneg (by omega)]; exact hrJ
      go_upto_region 7 with fail
      rcases Nat.lt_trichotomy K J with hKJ | hKJ | hKJ
      · have hbt : rkLt Z X1 Z X2 = true := by rw [hbt0]; simp; omega
        have hKJi : (K : Int) < J := by omega
        have b1 := B1.out
        rw [hbt] at b1
        have BB1 := Lib.hid b1
        have b3 := B3.out
        rw [HAN.out hbt] at b3
        have BB3 := Lib.hid b3
        clear b3
        clear b1 hbt B1 B3 HBT HAN
        refine wp_region_goesG rb_follows (fun x => by simp [putsF, Act.put]; rfl) w3.heap.size w3
          [isV (.pointer (some ⟨w.heap.size, 0, none⟩)), isV (.int .u8 q), isV (.int .u8 K), isV (.pointer (some ⟨w.heap.size + 1, 0, none⟩)), isV (.int .u8 r), isV (.int .u8 J), isV (.bool true), isV (.bool true), isV undef, isV undef, isV undef, isV undef, isV undef, isV undef, isV undef, isV undef, isV undef, isV undef, isV undef, isV undef, isV undef, isV undef, isV (.bool true), isV (.bool true)]
          (by kernel_rfl) (by kernel_rfl) (by kernel_rfl) rfl ?_ (Below.refl _ _) ?_ ?_
        · repeat (first | exact trivial | refine ⟨isV_stays _, ?_⟩)
        · refine ⟨?_, ?_, ?_, ?_, ?_, ?_, ?_, ?_, ?_, ?_, ?_, ?_, ?_, ?_, ?_, ?_, ?_, ?_, ?_, ?_, ?_, ?_, ?_, ?_, trivial⟩
          all_goals
            intro x wr hR hd
            simp at hd ⊢
          all_goals try simp [hd]
          all_goals try (intro h; exact absurd (show false = true from h) (by simp))
          all_goals try (go_simp; exact next_same _ rfl rfl hR)
          · have f0 := (hP3.below hR).get 0 _
            go_simp
            exact next_same _ rfl rfl hR
          · have f0 := (hQ3.below hR).get 0 _
            go_simp
            exact next_same _ rfl rfl hR
        intro x w4 hb4' hx
        simp [AllWords] at hx ⊢
        have hx23 : x 23 = .bool true := by simp [hx]
        clear hx
        rw [hx23]
        have hb4 := below_trans hb3 hb3.size hb4'
        clear hb4' hx23
        go_wp2_with fail
        refine (BB1.out _).mono ?_
        rintro e' w4 ⟨rfl, rfl⟩
        go_wp2_with fail
        refine (B2.out _).mono ?_
        rintro e' w4 ⟨rfl, rfl⟩
        go_wp2_with fail
        refine (BB1.out _).mono ?_
        rintro e' w4 ⟨rfl, rfl⟩
        go_wp2_with fail
        refine (BB3.out _).mono ?_
        rintro e' w4 ⟨rfl, rfl⟩
        go_wp2_with fail
        go_ret
        exact ⟨rfl, hb4⟩
      · subst hKJ
        by_cases hll : len2 < len
        · have hbt : rkLt Z X1 Z X2 = true := by rw [hbt0]; simp; exact hll
          have hl1 : (len2 : Int) < len := by omega
          have b1 := B1.out
          rw [hbt] at b1
          have BB1 := Lib.hid b1
          have b3 := B3.out
          rw [HAN.out hbt] at b3
          have BB3 := Lib.hid b3
          clear b3
          clear b1 hbt B1 B3 HBT HAN
          refine wp_region_goesG rb_follows (fun x => by simp [putsF, Act.put]; rfl) w3.heap.size w3
            [isV (.pointer (some ⟨w.heap.size, 0, none⟩)), isV (.int .u8 q), isV (.int .u8 K), isV (.pointer (some ⟨w.heap.size + 1, 0, none⟩)), isV (.int .u8 r), isV (.int .u8 K), isV (.bool false), isV (.bool false), isV (.pointer (some ⟨w.heap.size, 0, none⟩)), isV (.int .u8 q), isV (.int .u8 K), isV (.pointer (some ⟨w.heap.size + 1, 0, none⟩)), isV (.int .u8 r), isV (.int .u8 K), isV (.bool true), isV (.bool true), isV (.agg #[.int .i64 K, .string nm, .string pa, .int .i64 tb]), isV (.int .i64 (len : Int)), isV (.agg #[.int .i64 K, .string nm2, .string pa2, .int .i64 tb2]), isV (.int .i64 (len2 : Int)), isV (.bool true), isV (.bool true), isV (.bool true), isV (.bool true)]
            (by kernel_rfl) (by kernel_rfl) (by kernel_rfl) rfl ?_ (Below.refl _ _) ?_ ?_
          · repeat (first | exact trivial | refine ⟨isV_stays _, ?_⟩)
          · refine ⟨?_, ?_, ?_, ?_, ?_, ?_, ?_, ?_, ?_, ?_, ?_, ?_, ?_, ?_, ?_, ?_, ?_, ?_, ?_, ?_, ?_, ?_, ?_, ?_, trivial⟩
            all_goals
              intro x wr hR hd
              simp at hd ⊢
            all_goals try simp [hd]
            all_goals try (intro h; exact absurd (show false = true from h) (by simp))
            all_goals try (go_simp; exact next_same _ rfl rfl hR)
            · have f0 := (hP3.below hR).get 0 _
              go_simp
              exact next_same _ rfl rfl hR
            · have f0 := (hQ3.below hR).get 0 _
              go_simp
              exact next_same _ rfl rfl hR
            · have f0 := (hP3.below hR).get 0 _
              go_simp
              exact next_same _ rfl rfl hR
            · have f0 := (hQ3.below hR).get 0 _
              go_simp
              exact next_same _ rfl rfl hR
            · have hc := hCg3.below hR
              have c0 := hc.get 0 _
              have c1 := hc.get 1 _
              have c2 := hc.get 2 _
              have c3 := hc.get 3 _
              clear hc
              go_simp
              exact next_same _ rfl rfl hR
            · go_simp
              go_at_call 27
              refine (LE1.out wr).mono ?_
              rintro e' w6 ⟨rfl, hb⟩
              exact next_call _ rfl rfl hR hR.size hb
            · have hc := hCh3.below hR
              have c0 := hc.get 0 _
              have c1 := hc.get 1 _
              have c2 := hc.get 2 _
              have c3 := hc.get 3 _
              clear hc
              go_simp
              exact next_same _ rfl rfl hR
            · go_simp
              go_at_call 27
              refine (LE2.out wr).mono ?_
              rintro e' w6 ⟨rfl, hb⟩
              exact next_call _ rfl rfl hR hR.size hb
          intro x w4 hb4' hx
          simp [AllWords] at hx ⊢
          have hx23 : x 23 = .bool true := by simp [hx]
          clear hx
          rw [hx23]
          have hb4 := below_trans hb3 hb3.size hb4'
          clear hb4' hx23
          go_wp2_with fail
          refine (BB1.out _).mono ?_
          rintro e' w4 ⟨rfl, rfl⟩
          go_wp2_with fail
          refine (B2.out _).mono ?_
          rintro e' w4 ⟨rfl, rfl⟩
          go_wp2_with fail
          refine (BB1.out _).mono ?_
          rintro e' w4 ⟨rfl, rfl⟩
          go_wp2_with fail
          refine (BB3.out _).mono ?_
          rintro e' w4 ⟨rfl, rfl⟩
          go_wp2_with fail
          go_ret
          exact ⟨rfl, hb4⟩
        · have hbt : rkLt Z X1 Z X2 = false := by rw [hbt0]; simp; omega
          have hl1 : decide ((len2 : Int) < len) = false := by simp; omega
          have hl2 : decide (len2 < len) = false := decide_eq_false hll
          have b1 := B1.out
          rw [hbt] at b1
          have BB1 := Lib.hid b1
          clear b1 hbt B1 B3 HBT HAN
          refine wp_region_goesG rb_follows (fun x => by simp [putsF, Act.put]; rfl) w3.heap.size w3
            [isV (.pointer (some ⟨w.heap.size, 0, none⟩)), isV (.int .u8 q), isV (.int .u8 K), isV (.pointer (some ⟨w.heap.size + 1, 0, none⟩)), isV (.int .u8 r), isV (.int .u8 K), isV (.bool false), isV (.bool false), isV (.pointer (some ⟨w.heap.size, 0, none⟩)), isV (.int .u8 q), isV (.int .u8 K), isV (.pointer (some ⟨w.heap.size + 1, 0, none⟩)), isV (.int .u8 r), isV (.int .u8 K), isV (.bool true), isV (.bool true), isV (.agg #[.int .i64 K, .string nm, .string pa, .int .i64 tb]), isV (.int .i64 (len : Int)), isV (.agg #[.int .i64 K, .string nm2, .string pa2, .int .i64 tb2]), isV (.int .i64 (len2 : Int)), isV (.bool false), isV (.bool false), isV (.bool false), isV (.bool false)]
            (by kernel_rfl) (by kernel_rfl) (by kernel_rfl) rfl ?_ (Below.refl _ _) ?_ ?_
          · repeat (first | exact trivial | refine ⟨isV_stays _, ?_⟩)
          · refine ⟨?_, ?_, ?_, ?_, ?_, ?_, ?_, ?_, ?_, ?_, ?_, ?_, ?_, ?_, ?_, ?_, ?_, ?_, ?_, ?_, ?_, ?_, ?_, ?_, trivial⟩
            all_goals
              intro x wr hR hd
              simp at hd ⊢
            all_goals try simp [hd]
            all_goals try (intro h; exact absurd (show false = true from h) (by simp))
            all_goals try (go_simp; exact next_same _ rfl rfl hR)
            · have f0 := (hP3.below hR).get 0 _
              go_simp
              exact next_same _ rfl rfl hR
            · have f0 := (hQ3.below hR).get 0 _
              go_simp
              exact next_same _ rfl rfl hR
            · have f0 := (hP3.below hR).get 0 _
              go_simp
              exact next_same _ rfl rfl hR
            · have f0 := (hQ3.below hR).get 0 _
              go_simp
              exact next_same _ rfl rfl hR
            · have hc := hCg3.below hR
              have c0 := hc.get 0 _
              have c1 := hc.get 1 _
              have c2 := hc.get 2 _
              have c3 := hc.get 3 _
              clear hc
              go_simp
              exact next_same _ rfl rfl hR
            · go_simp
              go_at_call 27
              refine (LE1.out wr).mono ?_
              rintro e' w6 ⟨rfl, hb⟩
              exact next_call _ rfl rfl hR hR.size hb
            · have hc := hCh3.below hR
              have c0 := hc.get 0 _
              have c1 := hc.get 1 _
              have c2 := hc.get 2 _
              have c3 := hc.get 3 _
              clear hc
              go_simp
              exact next_same _ rfl rfl hR
            · go_simp
              go_at_call 27
              refine (LE2.out wr).mono ?_
              rintro e' w6 ⟨rfl, hb⟩
              exact next_call _ rfl rfl hR hR.size hb
          intro x w4 hb4' hx
          simp [AllWords] at hx ⊢
          have hx23 : x 23 = .bool false := by simp [hx]
          clear hx
          rw [hx23]
          have hb4 := below_trans hb3 hb3.size hb4'
          clear hb4' hx23
          go_wp2_with fail
          refine (BB1.out _).mono ?_
          rintro e' w4 ⟨rfl, rfl⟩
          go_wp2_with fail
          refine (B2.out _).mono ?_
          rintro e' w4 ⟨rfl, rfl⟩
          go_wp2_with fail
          refine (BB1.out _).mono ?_
          rintro e' w4 ⟨rfl, rfl⟩
          go_wp2_with fail
          go_ret
          exact ⟨rfl, hb4⟩
      · have hbt : rkLt Z X1 Z X2 = false := by rw [hbt0]; simp; omega
        have hKJi : decide ((K : Int) < J) = false := by simp; omega
        have hKJn : decide (K < J) = false := by simp; omega
        have hKe : ((K : Int) == J) = false := by simp; omega
        have hKen : (K == J) = false := by simp; omega
        have b1 := B1.out
        rw [hbt] at b1
        have BB1 := Lib.hid b1
        clear b1 hbt B1 B3 HBT HAN
        refine wp_region_goesG rb_follows (fun x => by simp [putsF, Act.put]; rfl) w3.heap.size w3
          [isV (.pointer (some ⟨w.heap.size, 0, none⟩)), isV (.int .u8 q), isV (.int .u8 K), isV (.pointer (some ⟨w.heap.size + 1, 0, none⟩)), isV (.int .u8 r), isV (.int .u8 J), isV (.bool false), isV (.bool false), isV (.pointer (some ⟨w.heap.size, 0, none⟩)), isV (.int .u8 q), isV (.int .u8 K), isV (.pointer (some ⟨w.heap.size + 1, 0, none⟩)), isV (.int .u8 r), isV (.int .u8 J), isV (.bool false), isV (.bool false), isV undef, isV undef, isV undef, isV undef, isV undef, isV (.bool false), isV (.bool false), isV (.bool false)]
          (by kernel_rfl) (by kernel_rfl) (by kernel_rfl) rfl ?_ (Below.refl _ _) ?_ ?_
        · repeat (first | exact trivial | refine ⟨isV_stays _, ?_⟩)
        · refine ⟨?_, ?_, ?_, ?_, ?_, ?_, ?_, ?_, ?_, ?_, ?_, ?_, ?_, ?_, ?_, ?_, ?_, ?_, ?_, ?_, ?_, ?_, ?_, ?_, trivial⟩
          all_goals
            intro x wr hR hd
            simp at hd ⊢
          all_goals try simp [hd]
          all_goals try (intro h; exact absurd (show false = true from h) (by simp))
          all_goals try (go_simp; exact next_same _ rfl rfl hR)
          · have f0 := (hP3.below hR).get 0 _
            go_simp
            exact next_same _ rfl rfl hR
          · have f0 := (hQ3.below hR).get 0 _
            go_simp
            exact next_same _ rfl rfl hR
          · have f0 := (hP3.below hR).get 0 _
            go_simp
            exact next_same _ rfl rfl hR
          · have f0 := (hQ3.below hR).get 0 _
            go_simp
            exact next_same _ rfl rfl hR
        intro x w4 hb4' hx
        simp [AllWords] at hx ⊢
        have hx23 : x 23 = .bool false := by simp [hx]
        clear hx
        rw [hx23]
        have hb4 := below_trans hb3 hb3.size hb4'
        clear hb4' hx23
        go_wp2_with fail
        refine (BB1.out _).mono ?_
        rintro e' w4 ⟨rfl, rfl⟩
        go_wp2_with fail
        refine (B2.out _).mono ?_
        rintro e' w4 ⟨rfl, rfl⟩
        go_wp2_with fail
        refine (BB1.out _).mono ?_
        rintro e' w4 ⟨rfl, rfl⟩
        go_wp2_with fail
        go_ret
        exact ⟨rfl, hb4⟩
    · have hbt := HBT.out
      rw [if_neg hZY] at hbt
      have hzy : ((Z : Int) == Y) = false := by simp; omega
      by_cases hlt : Z < Y
      · rw [decide_eq_true hlt] at hbt
        have hlti : (Z : Int) < Y := by omega
        have b1 := B1.out
        rw [hbt] at b1
        have BB1 := Lib.hid b1
        have b3 := B3.out
        rw [HAN.out hbt] at b3
        have BB3 := Lib.hid b3
        clear b3
        clear b1 hbt B1 B3 HBT HAN
        clear hZY hlt hP3 hQ3 hCg3 hCh3
        go_wp2_with fail
        refine (BB1.out _).mono ?_
        rintro e' w4 ⟨rfl, rfl⟩
        go_wp2_with fail
        refine (B2.out _).mono ?_
        rintro e' w4 ⟨rfl, rfl⟩
        go_wp2_with fail
        refine (BB1.out _).mono ?_
        rintro e' w4 ⟨rfl, rfl⟩
        go_wp2_with fail
        refine (BB3.out _).mono ?_
        rintro e' w4 ⟨rfl, rfl⟩
        go_wp2_with fail
        go_ret
        exact ⟨rfl, hb3⟩
      · rw [decide_eq_false hlt] at hbt
        have hlti : decide ((Z : Int) < Y) = false := by simp; omega
        have hltn : decide (Z < Y) = false := decide_eq_false hlt
        have b1 := B1.out
        rw [hbt] at b1
        have BB1 := Lib.hid b1
        clear b1 hbt B1 B3 HBT HAN
        clear hZY hlt hP3 hQ3 hCg3 hCh3
        go_wp2_with fail
        refine (BB1.out _).mono ?_
        rintro e' w4 ⟨rfl, rfl⟩
        go_wp2_with fail
        refine (B2.out _).mono ?_
        rintro e' w4 ⟨rfl, rfl⟩
        go_wp2_with fail
        refine (BB1.out _).mono ?_
        rintro e' w4 ⟨rfl, rfl⟩
        go_wp2_with fail
        go_ret
        exact ⟨rfl, hb3⟩
end Go.Proofs.Ytdekaaclheoapaa
