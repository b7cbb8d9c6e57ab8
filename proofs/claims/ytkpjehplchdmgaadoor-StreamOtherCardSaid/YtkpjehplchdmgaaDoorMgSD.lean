/- Texts that walks stand on, one behind the other. -/
import Derived.Test.YtkpjehplchdmgaaDoorMgSC
import Derived.Test.YtkpjehplchdmgaaDoorMgSB
import Derived.Outline
import Derived.Test.YtkpjehplchdmgaaDoorRecB
import Derived.Test.YtkpjehplchdmgaaDoorMgSA
namespace Go.Proofs.YtkpjehplchdmgaaDoor
open Go.RowKit
set_option linter.unusedVariables false
set_option linter.unusedSimpArgs false
set_option maxRecDepth 20000
attribute [local simp] putsF isV wordOf Deps Region.binds Region.wanted Act.put wantedX isB
/-- What Part brings at the example. -/
def PW6 (mk : Option Addr → Nat → Value) (B : Nat) (W : World) (l1 : Option Addr → Nat → Option Addr → Nat → List Value) (l2 l3 : List Value) : Value → World → Prop :=
  fun v w => ∃ (A : Option Addr) (c : Nat) (A1 : Option Addr) (c1 : Nat) (A2 : Option Addr) (c2 : Nat), v = mk A c ∧ OBM 10 B W (.slice A 1 c) 1 (l1 A1 c1 A2 c2) w ∧ OBM 4 B W (.slice A1 1 c1) 1 l2 w ∧ OBM 4 B W (.slice A2 1 c2) 1 l3 w
theorem pw_stays (mk : Option Addr → Nat → Value) (B : Nat) (W : World) (l1 : Option Addr → Nat → Option Addr → Nat → List Value) (l2 l3 : List Value) : ∀ v w w', PW6 mk B W l1 l2 l3 v w → Goes w w' → PW6 mk B W l1 l2 l3 v w' := by
  rintro v w w' ⟨A, c, A1, c1, A2, c2, e, o1, o2, o3⟩ hb
  exact ⟨A, c, A1, c1, A2, c2, e, o1.keep hb (Nat.le_refl _), o2.keep hb (Nat.le_refl _), o3.keep hb (Nat.le_refl _)⟩
/-- What holds while the example's result is put into its box. -/
structure RA (W : World) (F : Value → World → Prop) (d : Nat → Bool) (x : Nat → Value) (w : World) : Prop where
  bel : d 16 = false → Below W.heap.size W w
  all : d 16 = true → ∀ i, i < 14 ∨ i = 15 → d i = true
  f16 : d 16 = true → F (x 15) w
section
variable {W w w' : World} {F : Value → World → Prop} {d : Nat → Bool} {x : Nat → Value}
theorem RA.no16 (h : RA W F d x w) {i : Nat} (hd : d i = false) (hi : i < 14 ∨ i = 15) : d 16 = false := by
  cases e : d 16 with
  | false => rfl
  | true => have := h.all e i hi; rw [hd] at this; cases this
theorem RA.next (h : RA W F d x w) {i : Nat} (hd : d i = false) (he : Goes w w') (v : Value) (hi : i < 14 ∨ i = 15 := by decide) : RA W F (setD d i) (fun j => if j = i then v else x j) w' := by
  have h16 := h.no16 hd hi
  have e : setD d i 16 = false := by rw [setD_ne d (by omega)]; exact h16
  exact ⟨fun _ => below_trans (h.bel h16) (h.bel h16).size he, fun k => (by rw [e] at k; cases k), fun k => (by rw [e] at k; cases k)⟩
theorem RA.late (h : RA W F d x w) {i : Nat} (v : Value) (hi : i = 14 ∨ i = 17 := by decide) : RA W F (setD d i) (fun j => if j = i then v else x j) w := by
  have e : setD d i 16 = d 16 := setD_ne d (by omega)
  refine ⟨fun k => h.bel (by rw [← e]; exact k), fun k j hj => ?_, fun k => ?_⟩
  · rw [setD_ne d (by omega)]; exact h.all (by rw [← e]; exact k) j hj
  · have : (15 : Nat) ≠ i := by omega
    simp only [this, if_false]
    exact h.f16 (by rw [← e]; exact k)
theorem RA.store (h : RA W F d x w) (hall : ∀ i, i < 14 ∨ i = 15 → d i = true) (v : Value) (hf : F (x 15) w') : RA W F (setD d 16) (fun j => if j = 16 then v else x j) w' :=
  ⟨fun k => (by rw [setD_self] at k; cases k), fun _ i hi => (by rw [setD_ne d (by omega)]; exact hall i hi), fun _ => hf⟩
end
/-- A value of this shape; ahead of operation 16 it is more. -/
def andUntil (p q : Value → World → Prop) : (Nat → Bool) → Value → World → Prop := fun d v w => p v w ∧ until_ 16 q d v w
theorem andUntil_stays {p q : Value → World → Prop} (hp : ∀ v w w', p v w → p v w') (hq : ∀ v w w', q v w → Goes w w' → q v w') : StaysX (andUntil p q) := fun d d' v w w' hd he h => ⟨hp v w w' h.1, until_stays hq d d' v w w' hd he h.2⟩
/-- The shape alone. -/
def shapeW (mk : Option Addr → Nat → Value) : Value → World → Prop := fun v _ => ∃ A c, v = mk A c
theorem PW6.shape {mk : Option Addr → Nat → Value} {B : Nat} {W : World} {l1 : Option Addr → Nat → Option Addr → Nat → List Value} {l2 l3 : List Value} {v : Value} {w : World} (h : PW6 mk B W l1 l2 l3 v w) : shapeW mk v w := by
  obtain ⟨A, c, A1, c1, A2, c2, e, -⟩ := h
  exact ⟨A, c, e⟩
/-- Where a cell is no bool lies no box that begins with one. -/
theorem apart_bool {w : World} {q g : Nat} {b : Bool} {v : Value} (h1 : w.cell? ⟨q, 0, none⟩ = some (.bool b)) (h2 : w.cell? ⟨g, 0, none⟩ = some v) (hv : ∀ b, v ≠ .bool b) : g ≠ q := by
  rintro rfl
  rw [h1] at h2
  exact hv b (Option.some.inj h2).symm
/-- What the example has brought. -/
def FIN6 (D2 D3 : ByteArray) (w3 : World) : Value → World → Prop := (fun vq v => Below w3.heap.size w3 v ∧ ∃ (q : Nat) (A : Option Addr) (c : Nat) (A1 : Option Addr) (c1 : Nat) (A2 : Option Addr) (c2 : Nat), vq = .pointer (some ⟨q, 0, none⟩) ∧ w3.heap.size ≤ q ∧ Cs v q [.bool false, .slice none 0 0, .slice A 1 c] ∧ OBM 10 w3.heap.size w3 (.slice A 1 c) 1 [.string ⟨#[]⟩, .int .u16 6, .int .u32 0, .string D2, .string ⟨#[]⟩, .int .u16 6, .int .u32 0, .string D3, .slice A1 1 c1, .slice A2 1 c2] v ∧ OBM 4 w3.heap.size w3 (.slice A1 1 c1) 1 [.string ⟨#[1, 120]⟩, .int .u16 99, .int .u32 0, .string ⟨#[]⟩] v ∧ OBM 4 w3.heap.size w3 (.slice A2 1 c2) 1 [.string ⟨#[1, 121]⟩, .int .u16 99, .int .u32 0, .string ⟨#[]⟩] v)
theorem part6_any {sf : RecT → Nat} (hsf : SerF sf) (g : Nat) (w : World) (hc : Cs w g (flatR rs6)) : Calls Tryd.prog 15 #[.string ⟨#[]⟩, .int .u32 2, .slice (some ⟨g, 0, none⟩) 6 6] w fun e w' => ∃ (A : Option Addr) (c : Nat) (A1 : Option Addr) (c1 : Nat) (A2 : Option Addr) (c2 : Nat), e = .returned (.tuple #[.agg #[.bool false, .slice none 0 0, .slice A 1 c], .nilIface]) ∧
    OBM 10 w.heap.size w (.slice A 1 c) 1 (delC (exR 2) (exR 3) (.slice A1 1 c1) (.slice A2 1 c2)) w' ∧ OBM 4 w.heap.size w (.slice A1 1 c1) 1 (flatR [xR 120]) w' ∧ OBM 4 w.heap.size w (.slice A2 1 c2) 1 (flatR [xR 121]) w' := by
  have hsl : Sl w w.heap.size 4 (some ⟨g, 0, none⟩) 6 (flatR rs6) := ⟨rfl, fun _ => ⟨g, 0, rfl, hc.lt, fun j u hu => by rw [Nat.zero_add]; exact hc.get j u hu⟩⟩
  have hsz : ∀ n, (exD n).size ≤ 140737488355328 := fun n => by unfold exD; rw [mk_size, dataL_len9]; simp
  have hall : ∀ r ∈ rs6, r = exR 3 ∨ r = exR 2 ∨ r = xR 120 ∨ r = xR 121 := by
    intro r hr
    unfold rs6 at hr
    simp only [List.mem_cons, List.not_mem_nil, or_false] at hr
    rcases hr with h | h | h | h | h | h <;> simp [h]
  refine (part_any (fun _ => true) sf ⟨#[]⟩ 2 (some ⟨g, 0, none⟩) 6 6 rs6 w (hsl.recs (Nat.le_refl _) rfl) rfl (by decide) (by decide) (by decide) (by decide) ?_ ?_ ?_).mono ?_
  · intro r hr
    rcases hall r hr with rfl | rfl | rfl | rfl <;> (first | exact (show (ByteArray.mk #[]).size ≤ maxLen by decide) | exact (show (ByteArray.mk #[1, 120]).size ≤ maxLen by decide) | exact (show (ByteArray.mk #[1, 121]).size ≤ maxLen by decide))
  · intro r hr w
    rcases hall r hr with rfl | rfl | rfl | rfl
    · exact mayrec_exR 3 w
    · exact mayrec_exR 2 w
    · exact mayrec_x w
    · exact mayrec_y w
  · intro r hr hs w
    rcases hall r hr with rfl | rfl | rfl | rfl
    · exact serial_any hsf _ hs (hsz 3) w
    · exact serial_any hsf _ hs (hsz 2) w
    · cases hs
    · cases hs
  · rintro e w' (⟨er, h, -⟩ | ⟨h, -⟩ | ⟨h, -⟩ | ⟨xs, A, c, h, rfl, ho, hx⟩)
    · rw [part6 hsf] at h; cases h
    · rw [part6 hsf] at h; cases h
    · rw [part6 hsf] at h; cases h
    · rw [part6 hsf] at h
      injection h with h; injection h with h; injection h with h
      match xs, h, ho, hx with
      | [(t, v1, v2)], h, ho, hx =>
        have ht : t = (1, 3, 5) := by simpa using h.symm
        subst ht
        have hd := hx _ (List.mem_singleton.2 rfl)
        have o1 : OBM 4 w.heap.size w v1 1 (flatR [xR 120]) w' := hd.gone
        have o2 : OBM 4 w.heap.size w v2 1 (flatR [xR 121]) w' := hd.new
        obtain ⟨A1, c1, rfl, -⟩ := o1.slice
        obtain ⟨A2, c2, rfl, -⟩ := o2.slice
        exact ⟨A, c, A1, c1, A2, c2, rfl, ho, o1, o2⟩
set_option maxHeartbeats 3200000 in
theorem awake09_any (w : World) : Calls Tryd.prog 7 #[] w fun e w' => e = .returned (.bool true) ∧ Below w.heap.size w w' := by
  obtain ⟨sf, hsf⟩ := ser_fun
  have PT := fun g w hc => part6_any hsf g w hc
  have CS2 := fun w => ex9_any 2 (by decide) w
  have CS3 := fun w => ex9_any 3 (by decide) w
  have hdn : Hid (∀ (g : Nat) (w : World), Cs w g (flatR [exR 3]) → Calls Tryd.prog 21 #[.slice (some ⟨g, 0, none⟩) 1 1] w fun e w' => e = .returned (.bool true) ∧ Below w.heap.size w w') := Lib.hid (fun g w hc => done_any (some ⟨g, 0, none⟩) 1 1 [exR 3] w ((show Sl w w.heap.size 4 (some ⟨g, 0, none⟩) 1 (flatR [exR 3]) from ⟨rfl, fun _ => ⟨g, 0, rfl, hc.lt, fun j u hu => by rw [Nat.zero_add]; exact hc.get j u hu⟩⟩).recs (Nat.le_refl _) rfl) rfl (by decide))
  have DN : Hid (∀ (g : Nat) (w : World), Cs w g (flatR [exR 3]) → Calls Tryd.prog 21 #[.slice (some ⟨g, 0, none⟩) 1 1] w fun e w' => e = .returned (.bool true) ∧ Below w.heap.size w w') := hdn
  clear hdn hsf
  unfold flatR rs6 exR xR at PT
  unfold recV exR at CS2 CS3
  unfold flatR exR at DN
  simp only [List.flatMap_cons, List.flatMap_nil, recCells, delC, List.cons_append, List.nil_append, List.append_nil] at PT CS2 CS3 DN
  generalize exD 2 = D2 at *
  generalize exD 3 = D3 at *
  obtain ⟨VS2, hVS2⟩ : ∃ v : Value, v = .agg #[.string ⟨#[]⟩, .int .u16 6, .int .u32 0, .string D2] := ⟨_, rfl⟩
  obtain ⟨VS3, hVS3⟩ : ∃ v : Value, v = .agg #[.string ⟨#[]⟩, .int .u16 6, .int .u32 0, .string D3] := ⟨_, rfl⟩
  obtain ⟨VX, hVX⟩ : ∃ v : Value, v = .agg #[.string ⟨#[1, 120]⟩, .int .u16 99, .int .u32 0, .string ⟨#[]⟩] := ⟨_, rfl⟩
  obtain ⟨VY, hVY⟩ : ∃ v : Value, v = .agg #[.string ⟨#[1, 121]⟩, .int .u16 99, .int .u32 0, .string ⟨#[]⟩] := ⟨_, rfl⟩
  have HEX : Hid (∀ w, (binOp .eql 32 VX VX).run Tryd.prog w = .ok (.bool true) w) := Lib.hid (fun w => by rw [hVX]; have := rec_eql (xR 120) (xR 120) w; rw [eqB_refl] at this; exact this)
  have HEY : Hid (∀ w, (binOp .eql 32 VY VY).run Tryd.prog w = .ok (.bool true) w) := Lib.hid (fun w => by rw [hVY]; have := rec_eql (xR 121) (xR 121) w; rw [eqB_refl] at this; exact this)
  rw [← hVS2] at CS2
  rw [← hVS3] at CS3
  have PT := Lib.hid PT
  have CS2 := Lib.hid CS2
  have CS3 := Lib.hid CS3
  have HVS2 := Lib.hid hVS2
  have HVS3 := Lib.hid hVS3
  have HVX := Lib.hid hVX
  have HVY := Lib.hid hVY
  clear hVS2 hVS3 hVX hVY
  have hcx := (Cs.new w #[.string ⟨#[1, 120]⟩, .int .u16 99, .int .u32 0, .string ⟨#[]⟩] 32 [.string ⟨#[1, 120]⟩, .int .u16 99, .int .u32 0, .string ⟨#[]⟩]).alloc (.cells #[.string ⟨#[1, 121]⟩, .int .u16 99, .int .u32 0, .string ⟨#[]⟩] 32)
  have hcy := Cs.new (w.alloc (.cells #[.string ⟨#[1, 120]⟩, .int .u16 99, .int .u32 0, .string ⟨#[]⟩] 32)) #[.string ⟨#[1, 121]⟩, .int .u16 99, .int .u32 0, .string ⟨#[]⟩] 32 [.string ⟨#[1, 121]⟩, .int .u16 99, .int .u32 0, .string ⟨#[]⟩]
  have hb3 := ((Below.refl w.heap.size w).alloc (Nat.le_refl _) (.cells #[.string ⟨#[1, 120]⟩, .int .u16 99, .int .u32 0, .string ⟨#[]⟩] 32)).alloc (by simp) (.cells #[.string ⟨#[1, 121]⟩, .int .u16 99, .int .u32 0, .string ⟨#[]⟩] 32)
  rw [show (w.alloc (.cells #[.string ⟨#[1, 120]⟩, .int .u16 99, .int .u32 0, .string ⟨#[]⟩] 32)).heap.size = w.heap.size + 1 by simp] at hcy
  have H0 := Lib.hid (And.intro hcx (And.intro hcy hb3))
  clear hcx hcy hb3
  go_enter Tryd.func7, Tryd.ntmps7
  go_upto_region 3 with fail
  obtain ⟨hcx, hcy, hb3⟩ := H0.out
  generalize (w.alloc (.cells #[.string ⟨#[1, 120]⟩, .int .u16 99, .int .u32 0, .string ⟨#[]⟩] 32)).alloc (.cells #[.string ⟨#[1, 121]⟩, .int .u16 99, .int .u32 0, .string ⟨#[]⟩] 32) = w3 at *
  obtain ⟨by_, hby⟩ : ∃ g, g = w.heap.size + 1 := ⟨_, rfl⟩
  obtain ⟨bx, hbx⟩ : ∃ g, g = w.heap.size := ⟨_, rfl⟩
  rw [← hby] at hcy ⊢
  rw [← hbx] at hcx ⊢
  have HB3 := Lib.hid hb3
  have HBX := Lib.hid hbx
  have HRX : Hid (∀ wx, Below w3.heap.size w3 wx → wx.rangeAt bx 0 [.string ⟨#[1, 120]⟩, .int .u16 99, .int .u32 0, .string ⟨#[]⟩]) := Lib.hid (fun wx hb => (hcx.below hb).range)
  have HRY : Hid (∀ wx, Below w3.heap.size w3 wx → wx.rangeAt by_ 0 [.string ⟨#[1, 121]⟩, .int .u16 99, .int .u32 0, .string ⟨#[]⟩]) := Lib.hid (fun wx hb => (hcy.below hb).range)
  clear hcx hcy hb3 hby hbx H0
  refine wp_region_expR data_follows (fun x => by simp [putsF, Act.put]; rfl) (RA w3 (FIN6 D2 D3 w3))
    [isX (.func (.func 19) #[] #[]), isX VS3, isX (.func (.func 19) #[] #[]), isX VS2, isX VX, isX (.func (.func 19) #[] #[]), isX VS3, isX VY, isX (.func (.func 19) #[] #[]), isX VS3, until_ 16 (litW 6 [.string ⟨#[]⟩, .int .u16 6, .int .u32 0, .string D3, .string ⟨#[]⟩, .int .u16 6, .int .u32 0, .string D2, .string ⟨#[1, 120]⟩, .int .u16 99, .int .u32 0, .string ⟨#[]⟩, .string ⟨#[]⟩, .int .u16 6, .int .u32 0, .string D3, .string ⟨#[1, 121]⟩, .int .u16 99, .int .u32 0, .string ⟨#[]⟩, .string ⟨#[]⟩, .int .u16 6, .int .u32 0, .string D3]), until_ 16 (PW6 (fun A c => .tuple #[.agg #[.bool false, .slice none 0 0, .slice A 1 c], .nilIface]) w3.heap.size w3 (fun A1 c1 A2 c2 => [.string ⟨#[]⟩, .int .u16 6, .int .u32 0, .string D2, .string ⟨#[]⟩, .int .u16 6, .int .u32 0, .string D3, .slice A1 1 c1, .slice A2 1 c2]) [.string ⟨#[1, 120]⟩, .int .u16 99, .int .u32 0, .string ⟨#[]⟩] [.string ⟨#[1, 121]⟩, .int .u16 99, .int .u32 0, .string ⟨#[]⟩]), andUntil (shapeW (fun A c => .tuple #[.agg #[.bool false, .slice none 0 0, .slice A 1 c], .nilIface])) (PW6 (fun A c => .tuple #[.agg #[.bool false, .slice none 0 0, .slice A 1 c], .nilIface]) w3.heap.size w3 (fun A1 c1 A2 c2 => [.string ⟨#[]⟩, .int .u16 6, .int .u32 0, .string D2, .string ⟨#[]⟩, .int .u16 6, .int .u32 0, .string D3, .slice A1 1 c1, .slice A2 1 c2]) [.string ⟨#[1, 120]⟩, .int .u16 99, .int .u32 0, .string ⟨#[]⟩] [.string ⟨#[1, 121]⟩, .int .u16 99, .int .u32 0, .string ⟨#[]⟩]), until_ 16 (PW6 (fun A c => .agg #[.bool false, .slice none 0 0, .slice A 1 c]) w3.heap.size w3 (fun A1 c1 A2 c2 => [.string ⟨#[]⟩, .int .u16 6, .int .u32 0, .string D2, .string ⟨#[]⟩, .int .u16 6, .int .u32 0, .string D3, .slice A1 1 c1, .slice A2 1 c2]) [.string ⟨#[1, 120]⟩, .int .u16 99, .int .u32 0, .string ⟨#[]⟩] [.string ⟨#[1, 121]⟩, .int .u16 99, .int .u32 0, .string ⟨#[]⟩]), isX .nilIface, until_ 16 (boxW w3.heap.size [.bool false, .slice none 0 0, .slice none 0 0]), always (fun _ _ => True), isX .nilIface]
    [16] (by kernel_rfl) (by kernel_rfl) (by kernel_rfl) rfl ?_ ⟨fun _ => (Below.refl _ _).drew, fun h => (by cases h), fun h => (by cases h)⟩ ?_ ?_ ?_
  · repeat (first | exact trivial | refine ⟨by first | exact isX_stays _ | exact until_stays (litW_stays _ _) | exact until_stays (boxW_stays _ _) | exact until_stays (pw_stays _ _ _ _ _ _) | exact andUntil_stays (fun _ _ _ h => h) (pw_stays _ _ _ _ _ _) | exact always_stays (fun _ _ _ _ _ => trivial), ?_⟩)
  · refine ⟨?_, ?_, ?_, ?_, ?_, ?_, ?_, ?_, ?_, ?_, ?_, ?_, ?_, ?_, ?_, ?_, skipped rfl, ?_, trivial⟩
    all_goals
      intro _ d x wx hR hdi hsrc hd
      refine ⟨fun _ => ?_, fun hX => by simp at hX⟩
    · have h16 := hR.no16 hdi (by decide)
      have hRb := hR.bel h16
      simp [wordX, isX] at hd ⊢
      go_simp; exact nextXR _ rfl rfl (hR.next hdi (Below.refl _ _) _) (Below.refl _ _)
    · have h16 := hR.no16 hdi (by decide)
      have hRb := hR.bel h16
      simp [wordX, isX] at hd ⊢
      try simp [hd]
      go_simp
      go_at_call 19
      refine (CS3.out wx).mono ?_
      rintro r wy ⟨rfl, hb⟩
      exact nextXR _ rfl rfl (hR.next hdi hb _) hb
    · have h16 := hR.no16 hdi (by decide)
      have hRb := hR.bel h16
      simp [wordX, isX] at hd ⊢
      go_simp; exact nextXR _ rfl rfl (hR.next hdi (Below.refl _ _) _) (Below.refl _ _)
    · have h16 := hR.no16 hdi (by decide)
      have hRb := hR.bel h16
      simp [wordX, isX] at hd ⊢
      try simp [hd]
      go_simp
      go_at_call 19
      refine (CS2.out wx).mono ?_
      rintro r wy ⟨rfl, hb⟩
      exact nextXR _ rfl rfl (hR.next hdi hb _) hb
    · have h16 := hR.no16 hdi (by decide)
      have hRb := hR.bel h16
      simp [wordX, isX] at hd ⊢
      refine wp_load_mid 32 _ rfl bx 0 (by simp [go_sem]) _ _ (HRX.out wx hRb) Tryd.underlying32 rfl (by kernel_rfl) ?_
      exact nextXR _ rfl HVX.out.symm (hR.next hdi (Below.refl _ _) _) (Below.refl _ _)
    · have h16 := hR.no16 hdi (by decide)
      have hRb := hR.bel h16
      simp [wordX, isX] at hd ⊢
      go_simp; exact nextXR _ rfl rfl (hR.next hdi (Below.refl _ _) _) (Below.refl _ _)
    · have h16 := hR.no16 hdi (by decide)
      have hRb := hR.bel h16
      simp [wordX, isX] at hd ⊢
      try simp [hd]
      go_simp
      go_at_call 19
      refine (CS3.out wx).mono ?_
      rintro r wy ⟨rfl, hb⟩
      exact nextXR _ rfl rfl (hR.next hdi hb _) hb
    · have h16 := hR.no16 hdi (by decide)
      have hRb := hR.bel h16
      simp [wordX, isX] at hd ⊢
      refine wp_load_mid 32 _ rfl by_ 0 (by simp [go_sem]) _ _ (HRY.out wx hRb) Tryd.underlying32 rfl (by kernel_rfl) ?_
      exact nextXR _ rfl HVY.out.symm (hR.next hdi (Below.refl _ _) _) (Below.refl _ _)
    · have h16 := hR.no16 hdi (by decide)
      have hRb := hR.bel h16
      simp [wordX, isX] at hd ⊢
      go_simp; exact nextXR _ rfl rfl (hR.next hdi (Below.refl _ _) _) (Below.refl _ _)
    · have h16 := hR.no16 hdi (by decide)
      have hRb := hR.bel h16
      simp [wordX, isX] at hd ⊢
      try simp [hd]
      go_simp
      go_at_call 19
      refine (CS3.out wx).mono ?_
      rintro r wy ⟨rfl, hb⟩
      exact nextXR _ rfl rfl (hR.next hdi hb _) hb
    · have h16 := hR.no16 hdi (by decide)
      have hRb := hR.bel h16
      simp [wordX, isX] at hd ⊢
      simp only [hd, HVS3.out, HVS2.out, HVX.out, HVY.out]
      clear hd
      go_simp
      exact nextXR _ rfl (until_of (litW_new 6 _ _ _ _)) (hR.next hdi ((Below.refl _ _).alloc (Nat.le_refl _) _) _) ((Below.refl _ _).alloc (Nat.le_refl _) _)
    · have h16 := hR.no16 hdi (by decide)
      have hRb := hR.bel h16
      simp [wordX] at hd ⊢
      obtain ⟨g, hg, hcs⟩ : litW 6 [.string ⟨#[]⟩, .int .u16 6, .int .u32 0, .string D3, .string ⟨#[]⟩, .int .u16 6, .int .u32 0, .string D2, .string ⟨#[1, 120]⟩, .int .u16 99, .int .u32 0, .string ⟨#[]⟩, .string ⟨#[]⟩, .int .u16 6, .int .u32 0, .string D3, .string ⟨#[1, 121]⟩, .int .u16 99, .int .u32 0, .string ⟨#[]⟩, .string ⟨#[]⟩, .int .u16 6, .int .u32 0, .string D3] (x 10) wx := by first | exact hd h16 | exact hd.1 h16 | exact hd.2 h16
      simp only [hg]
      clear hd
      go_simp
      go_at_call 15
      refine (PT.out g wx hcs).mono ?_
      rintro r wy ⟨A, c, A1, c1, A2, c2, rfl, o1, o2, o3⟩
      exact nextXR _ rfl (until_of ⟨A, c, A1, c1, A2, c2, rfl, o1.out hRb.size hRb, o2.out hRb.size hRb, o3.out hRb.size hRb⟩) (hR.next hdi o1.bel _) o1.bel
    · have h16 := hR.no16 hdi (by decide)
      have hRb := hR.bel h16
      simp [wordX] at hd ⊢
      obtain ⟨A, c, A1, c1, A2, c2, hv, o1, o2, o3⟩ : PW6 (fun A c => .tuple #[.agg #[.bool false, .slice none 0 0, .slice A 1 c], .nilIface]) w3.heap.size w3 (fun A1 c1 A2 c2 => [.string ⟨#[]⟩, .int .u16 6, .int .u32 0, .string D2, .string ⟨#[]⟩, .int .u16 6, .int .u32 0, .string D3, .slice A1 1 c1, .slice A2 1 c2]) [.string ⟨#[1, 120]⟩, .int .u16 99, .int .u32 0, .string ⟨#[]⟩] [.string ⟨#[1, 121]⟩, .int .u16 99, .int .u32 0, .string ⟨#[]⟩] (x 11) wx := hd h16
      simp only [hv]
      go_simp
      exact nextXR _ rfl ⟨⟨A, c, rfl⟩, until_of ⟨A, c, A1, c1, A2, c2, rfl, o1, o2, o3⟩⟩ (hR.next hdi (Below.refl _ _) _) (Below.refl _ _)
    · have h16 := hR.no16 hdi (by decide)
      have hRb := hR.bel h16
      simp [wordX] at hd ⊢
      obtain ⟨A, c, A1, c1, A2, c2, hv, o1, o2, o3⟩ : PW6 (fun A c => .tuple #[.agg #[.bool false, .slice none 0 0, .slice A 1 c], .nilIface]) w3.heap.size w3 (fun A1 c1 A2 c2 => [.string ⟨#[]⟩, .int .u16 6, .int .u32 0, .string D2, .string ⟨#[]⟩, .int .u16 6, .int .u32 0, .string D3, .slice A1 1 c1, .slice A2 1 c2]) [.string ⟨#[1, 120]⟩, .int .u16 99, .int .u32 0, .string ⟨#[]⟩] [.string ⟨#[1, 121]⟩, .int .u16 99, .int .u32 0, .string ⟨#[]⟩] (x 12) wx := hd.2 h16
      simp only [hv]
      go_simp
      exact nextXR _ rfl (until_of ⟨A, c, A1, c1, A2, c2, rfl, o1, o2, o3⟩) (hR.next hdi (Below.refl _ _) _) (Below.refl _ _)
    · simp [wordX] at hd ⊢
      obtain ⟨A, c, hv⟩ : shapeW (fun A c => .tuple #[.agg #[.bool false, .slice none 0 0, .slice A 1 c], .nilIface]) (x 12) wx := by first | exact hd.1 | exact hd.1.1
      simp only [hv]
      go_simp
      exact nextXR _ rfl rfl (hR.late _) (Below.refl _ _)
    · have h16 := hR.no16 hdi (by decide)
      have hRb := hR.bel h16
      simp [wordX] at hd ⊢
      go_simp; exact nextXR _ rfl (until_of ⟨_, rfl, hRb.size, Cs.new _ _ _ _⟩) (hR.next hdi ((Below.refl _ _).alloc (Nat.le_refl _) _) _) ((Below.refl _ _).alloc (Nat.le_refl _) _)
    · simp [wordX, isX] at hd ⊢
      go_simp; exact nextXR _ rfl rfl (hR.late _) (Below.refl _ _)
  · refine ⟨unskipped rfl, unskipped rfl, unskipped rfl, unskipped rfl, unskipped rfl, unskipped rfl, unskipped rfl, unskipped rfl, unskipped rfl, unskipped rfl, unskipped rfl, unskipped rfl, unskipped rfl, unskipped rfl, unskipped rfl, unskipped rfl, ?_, unskipped rfl, trivial⟩
    intro _ d x wx hR hdi hcl hsrc hd
    refine ⟨fun _ => ?_, fun hX => by simp at hX⟩
    have hall : ∀ i, i < 14 ∨ i = 15 → d i = true := fun i hi => by
      refine SrcX.reach (K := 16) hcl hsrc rfl 20 i (by omega) ?_
      have h16 : i < 16 := by omega
      have h14 : (i == 14) = false := by rw [beq_eq_false_iff_ne]; omega
      clear hi
      revert i
      decide +kernel
    have hRb := hR.bel hdi
    simp only [DoneX] at hd
    obtain ⟨-, -, -, -, -, -, -, -, -, -, -, -, -, h13, -, h15, -⟩ := hd
    obtain ⟨A, c, A1, c1, A2, c2, x13, o1, o2, o3⟩ : PW6 (fun A c => .agg #[.bool false, .slice none 0 0, .slice A 1 c]) w3.heap.size w3 (fun A1 c1 A2 c2 => [.string ⟨#[]⟩, .int .u16 6, .int .u32 0, .string D2, .string ⟨#[]⟩, .int .u16 6, .int .u32 0, .string D3, .slice A1 1 c1, .slice A2 1 c2]) [.string ⟨#[1, 120]⟩, .int .u16 99, .int .u32 0, .string ⟨#[]⟩] [.string ⟨#[1, 121]⟩, .int .u16 99, .int .u32 0, .string ⟨#[]⟩] (x 13) wx := h13 (hall 13 (by decide)) hdi
    obtain ⟨q, x15, hq, hcq⟩ : boxW w3.heap.size [.bool false, .slice none 0 0, .slice none 0 0] (x 15) wx := h15 (hall 15 (by decide)) hdi
    have n1 : ∀ k, (Value.slice A 1 c).ownBlock = some k → k ≠ q := fun k hk => by
      obtain ⟨A', c', e, -, -, h3⟩ := o1.slice3
      injection e with e1 e2 e3
      subst e1 e3
      rcases h3 with ⟨-, h, -⟩ | ⟨g, rfl, -⟩
      · cases h
      · injection hk with hk
        subst hk
        exact apart_bool (hcq.get 0 _) (o1.cell 0 _ rfl) (fun b => by intro e; cases e)
    have n2 : ∀ k, (Value.slice A1 1 c1).ownBlock = some k → k ≠ q := fun k hk => by
      obtain ⟨A', c', e, -, -, h3⟩ := o2.slice3
      injection e with e1 e2 e3
      subst e1 e3
      rcases h3 with ⟨-, h, -⟩ | ⟨g, rfl, -⟩
      · cases h
      · injection hk with hk
        subst hk
        exact apart_bool (hcq.get 0 _) (o2.cell 0 _ rfl) (fun b => by intro e; cases e)
    have n3 : ∀ k, (Value.slice A2 1 c2).ownBlock = some k → k ≠ q := fun k hk => by
      obtain ⟨A', c', e, -, -, h3⟩ := o3.slice3
      injection e with e1 e2 e3
      subst e1 e3
      rcases h3 with ⟨-, h, -⟩ | ⟨g, rfl, -⟩
      · cases h
      · injection hk with hk
        subst hk
        exact apart_bool (hcq.get 0 _) (o3.cell 0 _ rfl) (fun b => by intro e; cases e)
    have hst := setCells_heap wx q [.bool false, .slice none 0 0, .slice A 1 c] 0
    have hbs := below_setCells' hq [.bool false, .slice none 0 0, .slice A 1 c] 0 hRb
    have hX := hR.store hall undef (w' := wx.setCells q 0 [.bool false, .slice none 0 0, .slice A 1 c]) ⟨hbs, q, A, c, A1, c1, A2, c2, x15, hq, hcq.mid _ rfl,
      o1.block hbs (by rw [hst.1]; exact Nat.le_refl _) (fun k hk => hst.2 k (n1 k hk)),
      o2.block hbs (by rw [hst.1]; exact Nat.le_refl _) (fun k hk => hst.2 k (n2 k hk)),
      o3.block hbs (by rw [hst.1]; exact Nat.le_refl _) (fun k hk => hst.2 k (n3 k hk))⟩
    dsimp only
    refine wp_store_mid 48 _ _ rfl q 0 #[.bool false, .slice none 0 0, .slice A 1 c] x15 x13 (hcq.there 3 rfl) (by kernel_rfl) (by simp [Value.oneCell']) ?_
    refine nextKR _ rfl trivial hX ?_
    exact ⟨fun _ _ h => h, fun _ _ h => h, fun _ _ h => h, fun _ _ h => h, fun _ _ h => h, fun _ _ h => h, fun _ _ h => h, fun _ _ h => h, fun _ _ h => h, fun _ _ h => h, fun _ _ _ => until_self, fun _ _ _ => until_self, fun _ _ h => ⟨h.1, until_self⟩, fun _ _ _ => until_self, fun _ _ h => h, fun _ _ _ => until_self, fun h => absurd rfl h, fun _ _ h => h, trivial⟩
  intro x w5 d hall hR hx
  have hR16 := hR.f16 (hall 16 (by decide))
  obtain ⟨hb5, q, A, c, A1, c1, A2, c2, x15, hq, hcq, o1, o2, o3⟩ := hR16
  simp only [AllX] at hx
  obtain ⟨-, -, -, -, -, -, -, -, -, -, -, -, -, -, -, -, -, x17, -⟩ := hx
  have x17 : x 17 = .nilIface := x17
  rw [x15, x17]
  go_upto_region 4 with fail
  obtain ⟨A_, c_, e1, -, -, h1⟩ := o1.slice3
  injection e1 with e1 e2 e3
  subst e1 e3
  rcases h1 with ⟨-, h, -⟩ | ⟨g1, rfl, hg1, hg1'⟩
  · cases h
  obtain ⟨A_, c_, e1, -, -, h1⟩ := o2.slice3
  injection e1 with e1 e2 e3
  subst e1 e3
  rcases h1 with ⟨-, h, -⟩ | ⟨ga, rfl, hga, hga'⟩
  · cases h
  obtain ⟨A_, c_, e1, -, -, h1⟩ := o3.slice3
  injection e1 with e1 e2 e3
  subst e1 e3
  rcases h1 with ⟨-, h, -⟩ | ⟨gb, rfl, hgb, hgb'⟩
  · cases h
  have k2 := hcq.get 2 _
  have k8 := o1.cell 8 _ rfl
  have k9 := o1.cell 9 _ rfl
  have hql := hcq.lt
  have HB5 := Lib.hid hb5
  have HRA : Hid (∀ wx, Below w5.heap.size w5 wx → wx.rangeAt ga 0 [.string ⟨#[1, 120]⟩, .int .u16 99, .int .u32 0, .string ⟨#[]⟩]) := Lib.hid (fun wx hb j v hv => by rw [Nat.zero_add]; exact (o2.keep hb (Nat.le_refl _)).cell j v hv)
  have HRB : Hid (∀ wx, Below w5.heap.size w5 wx → wx.rangeAt gb 0 [.string ⟨#[1, 121]⟩, .int .u16 99, .int .u32 0, .string ⟨#[]⟩]) := Lib.hid (fun wx hb j v hv => by rw [Nat.zero_add]; exact (o3.keep hb (Nat.le_refl _)).cell j v hv)
  clear o1 o2 o3 hcq hb5 hR hall x15 x17 hq PT CS2
  refine wp_region_goesG data_follows (fun x => by simp [putsF, Act.put]; rfl) w5.heap.size w5
    [isV .nilIface, isV (.bool true), isV (.bool true), isV (.pointer (some ⟨q, 2, none⟩)), isV (.slice (some ⟨g1, 0, none⟩) 1 c), isV (.int .i64 1), isV (.bool true), isV (.bool true), isV (.bool true), isV (.pointer (some ⟨q, 2, none⟩)), isV (.slice (some ⟨g1, 0, none⟩) 1 c), isV (.pointer (some ⟨g1, 0, none⟩)), isV (.pointer (some ⟨g1, 8, none⟩)), isV (.slice (some ⟨ga, 0, none⟩) 1 c1), isV (.int .i64 1), isV (.bool true), isV (.bool true), isV (.bool true), isV (.pointer (some ⟨q, 2, none⟩)), isV (.slice (some ⟨g1, 0, none⟩) 1 c), isV (.pointer (some ⟨g1, 0, none⟩)), isV (.pointer (some ⟨g1, 9, none⟩)), isV (.slice (some ⟨gb, 0, none⟩) 1 c2), isV (.int .i64 1), isV (.bool true), isV (.bool true), isV (.bool true), isV (.pointer (some ⟨q, 2, none⟩)), isV (.slice (some ⟨g1, 0, none⟩) 1 c), isV (.pointer (some ⟨g1, 0, none⟩)), isV (.pointer (some ⟨g1, 8, none⟩)), isV (.slice (some ⟨ga, 0, none⟩) 1 c1), isV (.pointer (some ⟨ga, 0, none⟩)), isV VX, isV VX, isV (.bool true), isV (.bool true), isV (.bool true), isV (.pointer (some ⟨q, 2, none⟩)), isV (.slice (some ⟨g1, 0, none⟩) 1 c), isV (.pointer (some ⟨g1, 0, none⟩)), isV (.pointer (some ⟨g1, 9, none⟩)), isV (.slice (some ⟨gb, 0, none⟩) 1 c2), isV (.pointer (some ⟨gb, 0, none⟩)), isV VY, isV VY, isV (.bool true), isV (.bool true), isV (.bool true), isV (.func (.func 19) #[] #[]), isV VS3, litW 1 [.string ⟨#[]⟩, .int .u16 6, .int .u32 0, .string D3], isV (.bool true), isV (.bool true), isV (.bool true)]
    (by kernel_rfl) (by kernel_rfl) (by kernel_rfl) rfl ?_ (Below.refl _ _) ?_ ?_
  · repeat (first | exact trivial | refine ⟨by first | exact isV_stays _ | exact litW_stays _ _, ?_⟩)
  · refine ⟨?_, ?_, ?_, ?_, ?_, ?_, ?_, ?_, ?_, ?_, ?_, ?_, ?_, ?_, ?_, ?_, ?_, ?_, ?_, ?_, ?_, ?_, ?_, ?_, ?_, ?_, ?_, ?_, ?_, ?_, ?_, ?_, ?_, ?_, ?_, ?_, ?_, ?_, ?_, ?_, ?_, ?_, ?_, ?_, ?_, ?_, ?_, ?_, ?_, ?_, ?_, ?_, ?_, ?_, ?_, trivial⟩
    all_goals
      intro x wx hR hd
      simp at hd
      have k2' := (hR.cell (p := ⟨q, 2, none⟩) hql).trans k2
      have k8' := (hR.cell (p := ⟨g1, 8, none⟩) hg1').trans k8
      have k9' := (hR.cell (p := ⟨g1, 9, none⟩) hg1').trans k9
    · refine ⟨fun _ => ?_, fun hX => by first | (simp at hX; done) | (simp [hd] at hX; done)⟩
      (try simp [hd]); go_simp; exact next_same _ rfl rfl hR
    · refine ⟨fun _ => ?_, fun hX => by first | (simp at hX; done) | (simp [hd] at hX; done)⟩
      (try simp [hd]); go_simp; exact next_same _ rfl rfl hR
    · refine ⟨fun _ => ?_, fun hX => by first | (simp at hX; done) | (simp [hd] at hX; done)⟩
      (try simp [hd]); go_simp; exact next_same _ rfl rfl hR
    · refine ⟨fun _ => ?_, fun hX => by first | (simp at hX; done) | (simp [hd] at hX; done)⟩
      (try simp [hd]); go_simp; exact next_same _ rfl rfl hR
    · refine ⟨fun _ => ?_, fun hX => by first | (simp at hX; done) | (simp [hd] at hX; done)⟩
      (try simp [hd]); go_simp; exact next_same _ rfl rfl hR
    · refine ⟨fun _ => ?_, fun hX => by first | (simp at hX; done) | (simp [hd] at hX; done)⟩
      (try simp [hd]); go_simp; exact next_same _ rfl rfl hR
    · refine ⟨fun _ => ?_, fun hX => by first | (simp at hX; done) | (simp [hd] at hX; done)⟩
      (try simp [hd]); go_simp; exact next_same _ rfl rfl hR
    · refine ⟨fun _ => ?_, fun hX => by first | (simp at hX; done) | (simp [hd] at hX; done)⟩
      (try simp [hd]); go_simp; exact next_same _ rfl rfl hR
    · refine ⟨fun _ => ?_, fun hX => by first | (simp at hX; done) | (simp [hd] at hX; done)⟩
      (try simp [hd]); go_simp; exact next_same _ rfl rfl hR
    · refine ⟨fun _ => ?_, fun hX => by first | (simp at hX; done) | (simp [hd] at hX; done)⟩
      (try simp [hd]); go_simp; exact next_same _ rfl rfl hR
    · refine ⟨fun _ => ?_, fun hX => by first | (simp at hX; done) | (simp [hd] at hX; done)⟩
      (try simp [hd]); go_simp; exact next_same _ rfl rfl hR
    · refine ⟨fun _ => ?_, fun hX => by first | (simp at hX; done) | (simp [hd] at hX; done)⟩
      (try simp [hd]); go_simp; exact next_same _ rfl rfl hR
    · refine ⟨fun _ => ?_, fun hX => by first | (simp at hX; done) | (simp [hd] at hX; done)⟩
      (try simp [hd]); go_simp; exact next_same _ rfl rfl hR
    · refine ⟨fun _ => ?_, fun hX => by first | (simp at hX; done) | (simp [hd] at hX; done)⟩
      (try simp [hd]); go_simp; exact next_same _ rfl rfl hR
    · refine ⟨fun _ => ?_, fun hX => by first | (simp at hX; done) | (simp [hd] at hX; done)⟩
      (try simp [hd]); go_simp; exact next_same _ rfl rfl hR
    · refine ⟨fun _ => ?_, fun hX => by first | (simp at hX; done) | (simp [hd] at hX; done)⟩
      (try simp [hd]); go_simp; exact next_same _ rfl rfl hR
    · refine ⟨fun _ => ?_, fun hX => by first | (simp at hX; done) | (simp [hd] at hX; done)⟩
      (try simp [hd]); go_simp; exact next_same _ rfl rfl hR
    · refine ⟨fun _ => ?_, fun hX => by first | (simp at hX; done) | (simp [hd] at hX; done)⟩
      (try simp [hd]); go_simp; exact next_same _ rfl rfl hR
    · refine ⟨fun _ => ?_, fun hX => by first | (simp at hX; done) | (simp [hd] at hX; done)⟩
      (try simp [hd]); go_simp; exact next_same _ rfl rfl hR
    · refine ⟨fun _ => ?_, fun hX => by first | (simp at hX; done) | (simp [hd] at hX; done)⟩
      (try simp [hd]); go_simp; exact next_same _ rfl rfl hR
    · refine ⟨fun _ => ?_, fun hX => by first | (simp at hX; done) | (simp [hd] at hX; done)⟩
      (try simp [hd]); go_simp; exact next_same _ rfl rfl hR
    · refine ⟨fun _ => ?_, fun hX => by first | (simp at hX; done) | (simp [hd] at hX; done)⟩
      (try simp [hd]); go_simp; exact next_same _ rfl rfl hR
    · refine ⟨fun _ => ?_, fun hX => by first | (simp at hX; done) | (simp [hd] at hX; done)⟩
      (try simp [hd]); go_simp; exact next_same _ rfl rfl hR
    · refine ⟨fun _ => ?_, fun hX => by first | (simp at hX; done) | (simp [hd] at hX; done)⟩
      (try simp [hd]); go_simp; exact next_same _ rfl rfl hR
    · refine ⟨fun _ => ?_, fun hX => by first | (simp at hX; done) | (simp [hd] at hX; done)⟩
      (try simp [hd]); go_simp; exact next_same _ rfl rfl hR
    · refine ⟨fun _ => ?_, fun hX => by first | (simp at hX; done) | (simp [hd] at hX; done)⟩
      (try simp [hd]); go_simp; exact next_same _ rfl rfl hR
    · refine ⟨fun _ => ?_, fun hX => by first | (simp at hX; done) | (simp [hd] at hX; done)⟩
      (try simp [hd]); go_simp; exact next_same _ rfl rfl hR
    · refine ⟨fun _ => ?_, fun hX => by first | (simp at hX; done) | (simp [hd] at hX; done)⟩
      (try simp [hd]); go_simp; exact next_same _ rfl rfl hR
    · refine ⟨fun _ => ?_, fun hX => by first | (simp at hX; done) | (simp [hd] at hX; done)⟩
      (try simp [hd]); go_simp; exact next_same _ rfl rfl hR
    · refine ⟨fun _ => ?_, fun hX => by first | (simp at hX; done) | (simp [hd] at hX; done)⟩
      (try simp [hd]); go_simp; exact next_same _ rfl rfl hR
    · refine ⟨fun _ => ?_, fun hX => by first | (simp at hX; done) | (simp [hd] at hX; done)⟩
      (try simp [hd]); go_simp; exact next_same _ rfl rfl hR
    · refine ⟨fun _ => ?_, fun hX => by first | (simp at hX; done) | (simp [hd] at hX; done)⟩
      (try simp [hd]); go_simp; exact next_same _ rfl rfl hR
    · refine ⟨fun _ => ?_, fun hX => by first | (simp at hX; done) | (simp [hd] at hX; done)⟩
      (try simp [hd]); go_simp; exact next_same _ rfl rfl hR
    · refine ⟨fun _ => ?_, fun hX => by first | (simp at hX; done) | (simp [hd] at hX; done)⟩
      refine wp_load_mid 32 _ rfl ga 0 (by simp [go_sem, hd]) _ _ (HRA.out wx hR) Tryd.underlying32 rfl (by kernel_rfl) ?_
      exact next_same _ rfl HVX.out.symm hR
    · refine ⟨fun _ => ?_, fun hX => by first | (simp at hX; done) | (simp [hd] at hX; done)⟩
      refine wp_load_mid 32 _ rfl bx 0 (by simp [go_sem, hd]) _ _ (HRX.out wx (below_trans HB5.out HB5.out.size hR)) Tryd.underlying32 rfl (by kernel_rfl) ?_
      exact next_same _ rfl HVX.out.symm hR
    · refine ⟨fun _ => ?_, fun hX => by first | (simp at hX; done) | (simp [hd] at hX; done)⟩
      first
        | (obtain ⟨hd0, hd1, -⟩ := hd; exact wp_binop _ _ _ _ _ rfl hd0 hd1 (by rw [HVX.out]; first | kernel_rfl | rfl) (HEX.out wx) (next_same _ rfl rfl hR))
        | (obtain ⟨hd0, hd1⟩ := hd; exact wp_binop _ _ _ _ _ rfl hd0 hd1 (by rw [HVX.out]; first | kernel_rfl | rfl) (HEX.out wx) (next_same _ rfl rfl hR))
    · refine ⟨fun _ => ?_, fun hX => by first | (simp at hX; done) | (simp [hd] at hX; done)⟩
      (try simp [hd]); go_simp; exact next_same _ rfl rfl hR
    · refine ⟨fun _ => ?_, fun hX => by first | (simp at hX; done) | (simp [hd] at hX; done)⟩
      (try simp [hd]); go_simp; exact next_same _ rfl rfl hR
    · refine ⟨fun _ => ?_, fun hX => by first | (simp at hX; done) | (simp [hd] at hX; done)⟩
      (try simp [hd]); go_simp; exact next_same _ rfl rfl hR
    · refine ⟨fun _ => ?_, fun hX => by first | (simp at hX; done) | (simp [hd] at hX; done)⟩
      (try simp [hd]); go_simp; exact next_same _ rfl rfl hR
    · refine ⟨fun _ => ?_, fun hX => by first | (simp at hX; done) | (simp [hd] at hX; done)⟩
      (try simp [hd]); go_simp; exact next_same _ rfl rfl hR
    · refine ⟨fun _ => ?_, fun hX => by first | (simp at hX; done) | (simp [hd] at hX; done)⟩
      (try simp [hd]); go_simp; exact next_same _ rfl rfl hR
    · refine ⟨fun _ => ?_, fun hX => by first | (simp at hX; done) | (simp [hd] at hX; done)⟩
      (try simp [hd]); go_simp; exact next_same _ rfl rfl hR
    · refine ⟨fun _ => ?_, fun hX => by first | (simp at hX; done) | (simp [hd] at hX; done)⟩
      (try simp [hd]); go_simp; exact next_same _ rfl rfl hR
    · refine ⟨fun _ => ?_, fun hX => by first | (simp at hX; done) | (simp [hd] at hX; done)⟩
      refine wp_load_mid 32 _ rfl gb 0 (by simp [go_sem, hd]) _ _ (HRB.out wx hR) Tryd.underlying32 rfl (by kernel_rfl) ?_
      exact next_same _ rfl HVY.out.symm hR
    · refine ⟨fun _ => ?_, fun hX => by first | (simp at hX; done) | (simp [hd] at hX; done)⟩
      refine wp_load_mid 32 _ rfl by_ 0 (by simp [go_sem, hd]) _ _ (HRY.out wx (below_trans HB5.out HB5.out.size hR)) Tryd.underlying32 rfl (by kernel_rfl) ?_
      exact next_same _ rfl HVY.out.symm hR
    · refine ⟨fun _ => ?_, fun hX => by first | (simp at hX; done) | (simp [hd] at hX; done)⟩
      first
        | (obtain ⟨hd0, hd1, -⟩ := hd; exact wp_binop _ _ _ _ _ rfl hd0 hd1 (by rw [HVY.out]; first | kernel_rfl | rfl) (HEY.out wx) (next_same _ rfl rfl hR))
        | (obtain ⟨hd0, hd1⟩ := hd; exact wp_binop _ _ _ _ _ rfl hd0 hd1 (by rw [HVY.out]; first | kernel_rfl | rfl) (HEY.out wx) (next_same _ rfl rfl hR))
    · refine ⟨fun _ => ?_, fun hX => by first | (simp at hX; done) | (simp [hd] at hX; done)⟩
      (try simp [hd]); go_simp; exact next_same _ rfl rfl hR
    · refine ⟨fun _ => ?_, fun hX => by first | (simp at hX; done) | (simp [hd] at hX; done)⟩
      (try simp [hd]); go_simp; exact next_same _ rfl rfl hR
    · refine ⟨fun _ => ?_, fun hX => by first | (simp at hX; done) | (simp [hd] at hX; done)⟩
      (try simp [hd]); go_simp; exact next_same _ rfl rfl hR
    · refine ⟨fun _ => ?_, fun hX => by first | (simp at hX; done) | (simp [hd] at hX; done)⟩
      try simp [hd]
      go_simp
      go_at_call 19
      refine (CS3.out wx).mono ?_
      rintro r wy ⟨rfl, hb⟩
      exact next_call _ rfl rfl hR hR.size hb
    · refine ⟨fun _ => ?_, fun hX => by first | (simp at hX; done) | (simp [hd] at hX; done)⟩
      have hx50 : x 50 = VS3 := by first | exact hd | exact hd.1 | exact hd.2
      simp only [hx50, HVS3.out]
      clear hd
      go_simp
      exact next_call _ rfl (litW_new 1 _ _ _ _) hR hR.size ((Below.refl _ _).alloc (Nat.le_refl _) _)
    · refine ⟨fun _ => ?_, fun hX => by first | (simp at hX; done) | (simp [hd] at hX; done)⟩
      obtain ⟨g, hg, hcs⟩ : litW 1 [.string ⟨#[]⟩, .int .u16 6, .int .u32 0, .string D3] (x 51) wx := by first | exact hd | exact hd.1 | exact hd.2
      simp only [hg]
      clear hd
      go_simp
      go_at_call 21
      refine (DN.out g wx hcs).mono ?_
      rintro r wy ⟨rfl, hb⟩
      exact next_call _ rfl rfl hR hR.size hb
    · refine ⟨fun _ => ?_, fun hX => by first | (simp at hX; done) | (simp [hd] at hX; done)⟩
      (try simp [hd]); go_simp; exact next_same _ rfl rfl hR
    · refine ⟨fun _ => ?_, fun hX => by first | (simp at hX; done) | (simp [hd] at hX; done)⟩
      (try simp [hd]); go_simp; exact next_same _ rfl rfl hR
  intro x w7 hR hx
  simp [AllWords] at hx
  have h54 : x 54 = .bool true := by simp [hx]
  rw [h54]
  clear hx h54
  have HB7 := Lib.hid (below_trans HB3.out HB3.out.size (below_trans HB5.out HB5.out.size hR))
  clear hR
  go_wp2_with fail
  go_ret
  exact ⟨rfl, HB7.out⟩
end Go.Proofs.YtkpjehplchdmgaaDoor
namespace Go.Proofs.YtkpjehplchdmgaaDoor
open Go.RowKit
set_option linter.unusedVariables false
set_option linter.unusedSimpArgs false
set_option maxRecDepth 20000
attribute [local simp] putsF isV wordOf Deps Region.binds Region.wanted Act.put wantedX isB
set_option maxHeartbeats 3200000 in
theorem may9_any (m : RecT → Bool) (o : ByteArray) (A : Option Addr) (n c : Nat) (rs : List RecT) (w : World) (h : Recs w A rs) (hl : rs.length = n) (hn : n ≤ 1048576) (ho : o.size ≤ maxLen) (hz : ∀ r ∈ rs, r.1.size ≤ maxLen)
    (hm : ∀ r ∈ rs, ∀ w, Calls Tryd.prog 34 #[recV r] w fun e w' => e = .returned (.bool (m r)) ∧ Below w.heap.size w w') :
    Calls Tryd.prog 18 #[.string o, .slice A n c] w fun e w' => e = .returned (.bool (admR m o rs)) ∧ Below w.heap.size w w' := by
  obtain ⟨R, hRR⟩ : ∃ R, admR m o rs = R := ⟨_, rfl⟩
  rw [hRR]
  have HRR := Lib.hid hRR
  have H := Lib.hid h
  have HL := Lib.hid hl
  have HM := Lib.hid hm
  have HZ := Lib.hid hz
  have HO := Lib.hid ho
  clear hRR h hl hm hz ho
  go_enter Tryd.func18, Tryd.ntmps18
  go_wp2_with fail
  go_loopw [9] (fun i wr => ∃ k : Nat, k ≤ n ∧ i = .int .i64 k ∧ Hid ((rs.take k).all (admB m o) = true) ∧ Hid (Below w.heap.size w wr)) (fun i _ => n - (intOf i).toNat)
  case atStart => exact ⟨0, Nat.zero_le _, rfl, Lib.hid (by simp), Lib.hid (Below.refl _ _)⟩
  case round =>
    obtain ⟨k, hk, rfl, HA, HB⟩ := hrel
    by_cases hlt : k < n
    · have hlt' : (k : Int) < n := by omega
      obtain ⟨r, hr⟩ : ∃ r, rs[k]? = some r := ⟨_, List.getElem?_eq_getElem (by rw [HL.out]; omega)⟩
      have hmem := List.mem_of_getElem? hr
      obtain ⟨bb, off, rfl, hbb, y0, y1, y2, y3⟩ := (H.out.below HB.out) k _ hr
      have CM := Lib.hid (HM.out r hmem)
      have CB := Lib.hid (fun w => below_any r.1 o w (HZ.out r hmem) HO.out)
      have IS := Lib.hid (fun w => isSoa_any r w)
      have hnx := all_next (admB m o) hr
      have hstop := all_stop (admB m o) hr
      have hadm : admB m o r = admB m o r := rfl
      unfold admB at hadm
      have HNX := Lib.hid hnx
      have HST := Lib.hid hstop
      have HAD : Hid (admB m o r = (m r && ((stripOf r.1 o).isSome && !(soaB r && !(r.1.toList == o.toList))))) := Lib.hid rfl
      obtain ⟨r0, r1, r2, r3⟩ := r
      simp only at y0 y1 y2 y3 CB HAD
      unfold recV at CM IS
      simp only at CM IS
      have hC := Cs.new wr #[.string r0, .int .u16 r1, .int .u32 r2, .string r3] 32 [.string r0, .int .u16 r1, .int .u32 r2, .string r3]
      have hB5 := HB.out.alloc HB.out.size (.cells #[.string r0, .int .u16 r1, .int .u32 r2, .string r3] 32)
      have H5 := Lib.hid (And.intro hC hB5)
      clear hmem hr hnx hstop hadm hC hB5
      go_upto_region 4 with fail
      obtain ⟨hC, hB5⟩ := H5.out
      generalize wr.alloc (.cells #[.string r0, .int .u16 r1, .int .u32 r2, .string r3] 32) = w5 at *
      obtain ⟨g, hg⟩ : ∃ g, g = wr.heap.size := ⟨_, rfl⟩
      rw [← hg] at hC ⊢
      have HC := Lib.hid hC
      have HB5 := Lib.hid hB5
      have c0 := hC.get 0 _
      have c1 := hC.get 1 _
      have c2 := hC.get 2 _
      have c3 := hC.get 3 _
      clear hC hB5 hg H5 y0 y1 y2 y3
      cases em : m (r0, r1, r2, r3) with
      | false =>
        have hR0 : R = false := by rw [← HRR.out]; unfold admR; rw [HST.out (by rw [HAD.out, em]; rfl)]; rfl
        subst hR0
        rw [em] at CM
        go_wp2_with fail
        refine (CM.out _).mono ?_
        rintro e w6 ⟨rfl, hb6⟩
        have HB6 := Lib.hid (below_trans HB5.out HB5.out.size hb6)
        clear hb6 c0 c1 c2 c3
        go_wp2_with fail
        go_ret
        exact ⟨rfl, HB6.out⟩
      | true =>
        have HEM := Lib.hid em
        rw [em] at CM
        clear em
        go_wp2_with fail
        refine (CM.out _).mono ?_
        rintro e w6 ⟨rfl, hb6⟩
        have HB6 := Lib.hid (below_trans HB5.out HB5.out.size hb6)
        have HC6 := Lib.hid (HC.out.below hb6)
        clear hb6 c0 c1 c2 c3
        have c0 := HC6.out.get 0 _
        go_wp2_with fail
        refine (CB.out _).mono ?_
        rintro e w7 ⟨rfl, hb7⟩
        have HB7 := Lib.hid (below_trans HB6.out HB6.out.size hb7)
        have HC7 := Lib.hid (HC6.out.below hb7)
        clear hb7 c0
        cases eb : (stripOf r0 o).isSome with
        | false =>
          have hR0 : R = false := by rw [← HRR.out]; unfold admR; rw [HST.out (by rw [HAD.out, HEM.out, eb]; rfl)]; rfl
          subst hR0
          go_wp2_with fail
          go_ret
          exact ⟨rfl, HB7.out⟩
        | true =>
          have HEB := Lib.hid eb
          clear eb
          have c0 := HC7.out.get 0 _
          have c1 := HC7.out.get 1 _
          have HB8 := HB7
          have HC8 := HC7
          cases es : soaB (r0, r1, r2, r3) with
          | false =>
            have es1 : (r1 == 6) = false := es
            have HOK := Lib.hid (show admB m o (r0, r1, r2, r3) = true by rw [HAD.out, HEM.out, HEB.out, es]; rfl)
            clear es
            go_wp2_with fail
            go_round
            case rel => exact ⟨k + 1, by omega, by go_num, Lib.hid (by rw [HNX.out, HA.out, HOK.out]; rfl), HB8⟩
            case measure => simp [intOf]; omega
          | true =>
            have es1 : (r1 == 6) = true := es
            have HES := Lib.hid es
            clear es
            cases en : (r0.toList == o.toList) with
            | true =>
              have en2 : (r0.toList != o.toList) = false := by simp only [bne, en]; rfl
              have HOK := Lib.hid (show admB m o (r0, r1, r2, r3) = true by rw [HAD.out, HEM.out, HEB.out, HES.out, en]; rfl)
              go_wp2_with fail
              go_round
              case rel => exact ⟨k + 1, by omega, by go_num, Lib.hid (by rw [HNX.out, HA.out, HOK.out]; rfl), HB8⟩
              case measure => simp [intOf]; omega
            | false =>
              have en2 : (r0.toList != o.toList) = true := by simp only [bne, en]; rfl
              have hR0 : R = false := by rw [← HRR.out]; unfold admR; rw [HST.out (by rw [HAD.out, HEM.out, HEB.out, HES.out, en]; rfl)]; rfl
              subst hR0
              go_wp2_with fail
              go_ret
              exact ⟨rfl, HB8.out⟩
    · have hlt' : ¬ (k : Int) < n := by omega
      obtain rfl : k = n := by omega
      have hall : rs.all (admB m o) = true := by have := HA.out; rwa [List.take_of_length_le (by rw [HL.out]; omega)] at this
      cases hrs : rs with
      | nil =>
        have hR0 : R = false := by rw [← HRR.out, hrs]; rfl
        obtain rfl : k = 0 := by rw [← HL.out, hrs]; rfl
        subst hR0
        clear hall hrs
        go_wp2_with fail
        go_ret
        exact ⟨rfl, HB.out⟩
      | cons r t =>
        have h0 : rs[0]? = some r := by rw [hrs]; rfl
        obtain ⟨bb, off, rfl, hbb, y0, y1, y2, y3⟩ := (H.out.below HB.out) 0 _ h0
        have hR0 : soaB r = R := by rw [← HRR.out]; unfold admR; rw [hall, hrs]; rfl
        have hk0 : (0 : Int) < k := by have := HL.out; rw [hrs] at this; simp at this; omega
        have hk0' : 0 < k := by omega
        obtain ⟨r0, r1, r2, r3⟩ := r
        simp only [Nat.zero_mul, Nat.add_zero] at y0 y1 y2 y3
        have hR1 : (r1 == 6) = R := hR0
        clear hall hrs h0 hR0 HRR y0 y2 y3
        cases R with
        | true =>
          go_wp2_with fail
          go_ret
          exact ⟨rfl, HB.out⟩
        | false =>
          go_wp2_with fail
          go_ret
          exact ⟨rfl, HB.out⟩
theorem full_facts (n c L : Nat) (h : L = n - 1) (hc : n ≤ c) (h2 : 2 ≤ n) : ¬ c = 1 ∧ (1 : Int) ≤ L ∧ 1 ≤ L ∧ (L : Int) ≤ c ∧ L ≤ c ∧ ¬ L = 0 := by omega
set_option maxHeartbeats 6400000 in
theorem full9_any (m : RecT → Bool) (o : ByteArray) (A : Option Addr) (n c : Nat) (rs : List RecT) (w : World) (h : Recs w A rs) (hl : rs.length = n) (hn : n ≤ 1000) (hc : n ≤ c) (ho : o.size ≤ maxLen) (hz : ∀ r ∈ rs, r.1.size ≤ maxLen)
    (hm : ∀ r ∈ rs, ∀ w, Calls Tryd.prog 34 #[recV r] w fun e w' => e = .returned (.bool (m r)) ∧ Below w.heap.size w w') :
    Calls Tryd.prog 12 #[.string o, .slice A n c] w fun e w' => e = .returned (.bool (fullR m o rs)) ∧ Below w.heap.size w w' := by
  have AD := Lib.hid (fun (wx : World) (hb : Below w.heap.size w wx) => may9_any m o A n c rs wx (h.below hb) hl (by omega) ho hz hm)
  cases had : admR m o rs with
  | false =>
    have hf : fullR m o rs = false := by
      match rs, had with
      | [], _ => rfl
      | [_], _ => rfl
      | a :: b :: t, had => unfold fullR; simp only; rw [had]; rfl
    have HFALSE := Lib.hid hf
    rw [had] at AD
    clear had hf h hm hz
    go_enter Tryd.func12, Tryd.ntmps12
    go_upto_region 2 with fail
    refine wp_region_goesG data_follows (fun x => by simp [putsF, Act.put]; rfl) w.heap.size w
      [isV (.string o), isV (.slice A n c), isV (.bool false), isV (.bool true), isV (.bool true), isV undef, isV undef, isV (.bool true), isV (.bool true), isV undef, isV undef, isV undef, isV undef, isV undef, isV undef, isV undef, isV undef, isV undef, isV (.bool true)]
      (by kernel_rfl) (by kernel_rfl) (by kernel_rfl) rfl ?_ (Below.refl _ _) ?_ ?_
    · repeat (first | exact trivial | refine ⟨isV_stays _, ?_⟩)
    · refine ⟨?_, ?_, ?_, ?_, ?_, ?_, ?_, ?_, ?_, ?_, ?_, ?_, ?_, ?_, ?_, ?_, ?_, ?_, ?_, trivial⟩
      all_goals
        intro x wx hR hd
        simp at hd
      · refine ⟨fun _ => ?_, fun hX => by first | (simp at hX; done) | (simp [hd] at hX; done)⟩
        (try simp [hd]); go_simp; exact next_same _ rfl rfl hR
      · refine ⟨fun _ => ?_, fun hX => by first | (simp at hX; done) | (simp [hd] at hX; done)⟩
        (try simp [hd]); go_simp; exact next_same _ rfl rfl hR
      · refine ⟨fun _ => ?_, fun hX => by first | (simp at hX; done) | (simp [hd] at hX; done)⟩
        (try simp [hd])
        go_simp
        go_at_call 18
        refine (AD.out wx hR).mono ?_
        rintro r wy ⟨rfl, hb⟩
        exact next_call _ rfl rfl hR hR.size hb
      · refine ⟨fun _ => ?_, fun hX => by first | (simp at hX; done) | (simp [hd] at hX; done)⟩
        (try simp [hd]); go_simp; exact next_same _ rfl rfl hR
      · refine ⟨fun _ => ?_, fun hX => by first | (simp at hX; done) | (simp [hd] at hX; done)⟩
        (try simp [hd]); go_simp; exact next_same _ rfl rfl hR
      · refine ⟨fun hX => ?_, fun _ => rfl⟩
        exfalso; first | (simp [hd] at hX; done) | (simp [hd, undef] at hX; done)
      · refine ⟨fun hX => ?_, fun _ => rfl⟩
        exfalso; first | (simp [hd] at hX; done) | (simp [hd, undef] at hX; done)
      · refine ⟨fun _ => ?_, fun hX => by first | (simp at hX; done) | (simp [hd] at hX; done)⟩
        (try simp [hd]); go_simp; exact next_same _ rfl rfl hR
      · refine ⟨fun _ => ?_, fun hX => by first | (simp at hX; done) | (simp [hd] at hX; done)⟩
        (try simp [hd]); go_simp; exact next_same _ rfl rfl hR
      · refine ⟨fun hX => ?_, fun _ => rfl⟩
        exfalso; first | (simp [hd] at hX; done) | (simp [hd, undef] at hX; done)
      · refine ⟨fun hX => ?_, fun _ => rfl⟩
        exfalso; first | (simp [hd] at hX; done) | (simp [hd, undef] at hX; done)
      · refine ⟨fun hX => ?_, fun _ => rfl⟩
        exfalso; first | (simp [hd] at hX; done) | (simp [hd, undef] at hX; done)
      · refine ⟨fun hX => ?_, fun _ => rfl⟩
        exfalso; first | (simp [hd] at hX; done) | (simp [hd, undef] at hX; done)
      · refine ⟨fun hX => ?_, fun _ => rfl⟩
        exfalso; first | (simp [hd] at hX; done) | (simp [hd, undef] at hX; done)
      · refine ⟨fun hX => ?_, fun _ => rfl⟩
        exfalso; first | (simp [hd] at hX; done) | (simp [hd, undef] at hX; done)
      · refine ⟨fun hX => ?_, fun _ => rfl⟩
        exfalso; first | (simp [hd] at hX; done) | (simp [hd, undef] at hX; done)
      · refine ⟨fun hX => ?_, fun _ => rfl⟩
        exfalso; first | (simp [hd] at hX; done) | (simp [hd, undef] at hX; done)
      · refine ⟨fun hX => ?_, fun _ => rfl⟩
        exfalso; first | (simp [hd] at hX; done) | (simp [hd, undef] at hX; done)
      · refine ⟨fun _ => ?_, fun hX => by first | (simp at hX; done) | (simp [hd] at hX; done)⟩
        (try simp [hd]); go_simp; exact next_same _ rfl rfl hR
    intro x w7 hR hx
    simp [AllWords] at hx
    have h18 : x 18 = .bool true := by simp [hx]
    rw [h18]
    clear hx h18
    have HB7 := Lib.hid hR
    clear hR
    go_wp2_with fail
    go_ret
    exact ⟨(by rw [HFALSE.out]; rfl), HB7.out⟩
  | true =>
    rw [had] at AD
    have hne : 0 < n := by
      rw [← hl]
      match rs, had with
      | _ :: _, _ => simp
    obtain ⟨rf, hrf⟩ : ∃ r, rs[0]? = some r := ⟨_, List.getElem?_eq_getElem (by omega)⟩
    obtain ⟨bb, off, rfl, hbw, hr2⟩ := h.range hrf
    by_cases h2 : n < 2
    · have hn1 : (n : Int) < 2 := by omega
      have hf : fullR m o rs = false := by
        match rs, hl with
        | [], _ => rfl
        | [_], _ => rfl
        | a :: b :: t, hl => simp at hl; omega
      have HFALSE := Lib.hid hf
      clear had hf h hm hz hrf hr2 hne
      go_enter Tryd.func12, Tryd.ntmps12
      go_upto_region 2 with fail
      refine wp_region_goesG data_follows (fun x => by simp [putsF, Act.put]; rfl) w.heap.size w
        [isV (.string o), isV (.slice (some ⟨bb, off, none⟩) n c), isV (.bool true), isV (.bool false), isV (.bool false), isV (.int .i64 (n : Nat)), isV (.bool true), isV (.bool true), isV (.bool true), isV undef, isV undef, isV undef, isV undef, isV undef, isV undef, isV undef, isV undef, isV undef, isV (.bool true)]
        (by kernel_rfl) (by kernel_rfl) (by kernel_rfl) rfl ?_ (Below.refl _ _) ?_ ?_
      · repeat (first | exact trivial | refine ⟨isV_stays _, ?_⟩)
      · refine ⟨?_, ?_, ?_, ?_, ?_, ?_, ?_, ?_, ?_, ?_, ?_, ?_, ?_, ?_, ?_, ?_, ?_, ?_, ?_, trivial⟩
        all_goals
          intro x wx hR hd
          simp at hd
        · refine ⟨fun _ => ?_, fun hX => by first | (simp at hX; done) | (simp [hd] at hX; done)⟩
          (try simp [hd]); go_simp; exact next_same _ rfl rfl hR
        · refine ⟨fun _ => ?_, fun hX => by first | (simp at hX; done) | (simp [hd] at hX; done)⟩
          (try simp [hd]); go_simp; exact next_same _ rfl rfl hR
        · refine ⟨fun _ => ?_, fun hX => by first | (simp at hX; done) | (simp [hd] at hX; done)⟩
          (try simp [hd])
          go_simp
          go_at_call 18
          refine (AD.out wx hR).mono ?_
          rintro r wy ⟨rfl, hb⟩
          exact next_call _ rfl rfl hR hR.size hb
        · refine ⟨fun _ => ?_, fun hX => by first | (simp at hX; done) | (simp [hd] at hX; done)⟩
          (try simp [hd]); go_simp; exact next_same _ rfl rfl hR
        · refine ⟨fun _ => ?_, fun hX => by first | (simp at hX; done) | (simp [hd] at hX; done)⟩
          (try simp [hd]); go_simp; exact next_same _ rfl rfl hR
        · refine ⟨fun _ => ?_, fun hX => by first | (simp at hX; done) | (simp [hd] at hX; done)⟩
          (try simp [hd]); go_simp; exact next_same _ rfl rfl hR
        · refine ⟨fun _ => ?_, fun hX => by first | (simp at hX; done) | (simp [hd] at hX; done)⟩
          (try simp [hd]); go_simp; exact next_same _ rfl rfl hR
        · refine ⟨fun _ => ?_, fun hX => by first | (simp at hX; done) | (simp [hd] at hX; done)⟩
          (try simp [hd]); go_simp; exact next_same _ rfl rfl hR
        · refine ⟨fun _ => ?_, fun hX => by first | (simp at hX; done) | (simp [hd] at hX; done)⟩
          (try simp [hd]); go_simp; exact next_same _ rfl rfl hR
        · refine ⟨fun hX => ?_, fun _ => rfl⟩
          exfalso; first | (simp [hd] at hX; done) | (simp [hd, undef] at hX; done)
        · refine ⟨fun hX => ?_, fun _ => rfl⟩
          exfalso; first | (simp [hd] at hX; done) | (simp [hd, undef] at hX; done)
        · refine ⟨fun hX => ?_, fun _ => rfl⟩
          exfalso; first | (simp [hd] at hX; done) | (simp [hd, undef] at hX; done)
        · refine ⟨fun hX => ?_, fun _ => rfl⟩
          exfalso; first | (simp [hd] at hX; done) | (simp [hd, undef] at hX; done)
        · refine ⟨fun hX => ?_, fun _ => rfl⟩
          exfalso; first | (simp [hd] at hX; done) | (simp [hd, undef] at hX; done)
        · refine ⟨fun hX => ?_, fun _ => rfl⟩
          exfalso; first | (simp [hd] at hX; done) | (simp [hd, undef] at hX; done)
        · refine ⟨fun hX => ?_, fun _ => rfl⟩
          exfalso; first | (simp [hd] at hX; done) | (simp [hd, undef] at hX; done)
        · refine ⟨fun hX => ?_, fun _ => rfl⟩
          exfalso; first | (simp [hd] at hX; done) | (simp [hd, undef] at hX; done)
        · refine ⟨fun hX => ?_, fun _ => rfl⟩
          exfalso; first | (simp [hd] at hX; done) | (simp [hd, undef] at hX; done)
        · refine ⟨fun _ => ?_, fun hX => by first | (simp at hX; done) | (simp [hd] at hX; done)⟩
          (try simp [hd]); go_simp; exact next_same _ rfl rfl hR
      intro x w7 hR hx
      simp [AllWords] at hx
      have h18 : x 18 = .bool true := by simp [hx]
      rw [h18]
      clear hx h18
      have HB7 := Lib.hid hR
      clear hR
      go_wp2_with fail
      go_ret
      exact ⟨(by rw [HFALSE.out]; rfl), HB7.out⟩
    · have hn1 : ¬ (n : Int) < 2 := by omega
      obtain ⟨rl, hrl⟩ : ∃ r, rs[n - 1]? = some r := ⟨_, List.getElem?_eq_getElem (by omega)⟩
      have hfull : fullR m o rs = (eqB rl rf && !((rs.drop 1).take (n - 2)).any soaB) := by
        match rs, hl, hrl, hrf, had with
        | [], hl, _, _, _ => simp at hl; omega
        | [_], hl, _, _, _ => simp at hl; omega
        | a :: b :: t, hl, hrl, hrf, had =>
          have e1 : a = rf := by simpa using hrf
          have e2 : (a :: b :: t).getLast (by simp) = rl := by
            rw [List.getLast_eq_getElem]
            have := hrl
            rw [List.getElem?_eq_getElem (by simp at hl ⊢; omega)] at this
            have h3 := Option.some.inj this
            rw [← h3]
            congr 1
            simp at hl ⊢
            omega
          unfold fullR
          simp only
          rw [had, e2, e1, show t.length = n - 2 by simp at hl; omega]
          simp
      obtain ⟨b1, o1, hA1, hb1, hr1⟩ := h.range hrl
      injection hA1 with hA1; injection hA1 with q1 q2; subst q1 q2
      obtain ⟨L, hL⟩ : ∃ L, L = n - 1 := ⟨_, rfl⟩
      rw [← hL] at hr1
      have HRL : Hid (∀ wx, Below w.heap.size w wx → wx.rangeAt bb (off + L * 4) (recCells rl)) := Lib.hid (fun wx hb j v hv => (hb.cell (p := ⟨bb, off + L * 4 + j, none⟩) hb1).trans (hr1 j v hv))
      have HRF : Hid (∀ wx, Below w.heap.size w wx → wx.rangeAt bb off (recCells rf)) := Lib.hid (fun wx hb j v hv => (hb.cell (p := ⟨bb, off + j, none⟩) hb1).trans (by have := hr2 j v hv; simpa using this))
      obtain ⟨VL, hVL⟩ : ∃ v, v = recV rl := ⟨_, rfl⟩
      obtain ⟨VF, hVF⟩ : ∃ v, v = recV rf := ⟨_, rfl⟩
      have HVL := Lib.hid hVL
      have HVF := Lib.hid hVF
      have HNQ : Hid (∀ w, (binOp .neq 32 VL VF).run Tryd.prog w = .ok (.bool (!eqB rl rf)) w) := Lib.hid (fun w => by rw [HVL.out, HVF.out]; exact rec_neq rl rf w)
      have e1 : wrap64 ((n : Int) - 1) = (L : Int) := by unfold wrap64; omega
      have e2 : IntKind.i64.wrap ((n : Int) - 1) = (L : Int) := by rw [IntKind.wrap_i64]; omega
      have e6 : (L : Int) < n := by omega
      have e6' : L < n := by omega
      have e11 : (0 : Int) < n := by omega
      have e12 : 0 < n := by omega
      have HLN := Lib.hid hL
      have HFU := Lib.hid hfull
      have HH := Lib.hid h
      have HL := Lib.hid hl
      have HCC := Lib.hid hc
      have HNN := Lib.hid hn
      clear had hfull h hm hz hrf hr2 hrl hr1 hVL hVF hb1 hbw hL hl hne
      cases hq : eqB rl rf with
      | false =>
        have HFALSE := Lib.hid (show fullR m o rs = false by rw [HFU.out, hq]; rfl)
        rw [hq] at HNQ
        clear hq
        go_enter Tryd.func12, Tryd.ntmps12
        go_upto_region 2 with fail
        refine wp_region_goesG data_follows (fun x => by simp [putsF, Act.put]; rfl) w.heap.size w
          [isV (.string o), isV (.slice (some ⟨bb, off, none⟩) n c), isV (.bool true), isV (.bool false), isV (.bool false), isV (.int .i64 (n : Nat)), isV (.bool false), isV (.bool false), isV (.bool false), isV (.slice (some ⟨bb, off, none⟩) n c), isV (.int .i64 (n : Nat)), isV (.int .i64 (L : Nat)), isV (.pointer (some ⟨bb, off + L * 4, none⟩)), isV VL, isV (.slice (some ⟨bb, off, none⟩) n c), isV (.pointer (some ⟨bb, off, none⟩)), isV VF, isV (.bool true), isV (.bool true)]
          (by kernel_rfl) (by kernel_rfl) (by kernel_rfl) rfl ?_ (Below.refl _ _) ?_ ?_
        · repeat (first | exact trivial | refine ⟨isV_stays _, ?_⟩)
        · refine ⟨?_, ?_, ?_, ?_, ?_, ?_, ?_, ?_, ?_, ?_, ?_, ?_, ?_, ?_, ?_, ?_, ?_, ?_, ?_, trivial⟩
          all_goals
            intro x wx hR hd
            simp at hd
          · refine ⟨fun _ => ?_, fun hX => by first | (simp at hX; done) | (simp [hd] at hX; done)⟩
            (try simp [hd]); go_simp; exact next_same _ rfl rfl hR
          · refine ⟨fun _ => ?_, fun hX => by first | (simp at hX; done) | (simp [hd] at hX; done)⟩
            (try simp [hd]); go_simp; exact next_same _ rfl rfl hR
          · refine ⟨fun _ => ?_, fun hX => by first | (simp at hX; done) | (simp [hd] at hX; done)⟩
            (try simp [hd])
            go_simp
            go_at_call 18
            refine (AD.out wx hR).mono ?_
            rintro r wy ⟨rfl, hb⟩
            exact next_call _ rfl rfl hR hR.size hb
          · refine ⟨fun _ => ?_, fun hX => by first | (simp at hX; done) | (simp [hd] at hX; done)⟩
            (try simp [hd]); go_simp; exact next_same _ rfl rfl hR
          · refine ⟨fun _ => ?_, fun hX => by first | (simp at hX; done) | (simp [hd] at hX; done)⟩
            (try simp [hd]); go_simp; exact next_same _ rfl rfl hR
          · refine ⟨fun _ => ?_, fun hX => by first | (simp at hX; done) | (simp [hd] at hX; done)⟩
            (try simp [hd]); go_simp; exact next_same _ rfl rfl hR
          · refine ⟨fun _ => ?_, fun hX => by first | (simp at hX; done) | (simp [hd] at hX; done)⟩
            (try simp [hd]); go_simp; exact next_same _ rfl rfl hR
          · refine ⟨fun _ => ?_, fun hX => by first | (simp at hX; done) | (simp [hd] at hX; done)⟩
            (try simp [hd]); go_simp; exact next_same _ rfl rfl hR
          · refine ⟨fun _ => ?_, fun hX => by first | (simp at hX; done) | (simp [hd] at hX; done)⟩
            (try simp [hd]); go_simp; exact next_same _ rfl rfl hR
          · refine ⟨fun _ => ?_, fun hX => by first | (simp at hX; done) | (simp [hd] at hX; done)⟩
            (try simp [hd]); go_simp; exact next_same _ rfl rfl hR
          · refine ⟨fun _ => ?_, fun hX => by first | (simp at hX; done) | (simp [hd] at hX; done)⟩
            (try simp [hd]); go_simp; exact next_same _ rfl rfl hR
          · refine ⟨fun _ => ?_, fun hX => by first | (simp at hX; done) | (simp [hd] at hX; done)⟩
            (try simp [hd]); go_simp; exact next_same _ rfl rfl hR
          · refine ⟨fun _ => ?_, fun hX => by first | (simp at hX; done) | (simp [hd] at hX; done)⟩
            (try simp [hd]); go_simp; exact next_same _ rfl rfl hR
          · refine ⟨fun _ => ?_, fun hX => by first | (simp at hX; done) | (simp [hd] at hX; done)⟩
            refine wp_load_mid 32 _ rfl bb (off + L * 4) (by simp [go_sem, hd]) _ _ (HRL.out wx hR) Tryd.underlying32 rfl (by kernel_rfl) ?_
            exact next_same _ rfl HVL.out.symm hR
          · refine ⟨fun _ => ?_, fun hX => by first | (simp at hX; done) | (simp [hd] at hX; done)⟩
            (try simp [hd]); go_simp; exact next_same _ rfl rfl hR
          · refine ⟨fun _ => ?_, fun hX => by first | (simp at hX; done) | (simp [hd] at hX; done)⟩
            (try simp [hd]); go_simp; exact next_same _ rfl rfl hR
          · refine ⟨fun _ => ?_, fun hX => by first | (simp at hX; done) | (simp [hd] at hX; done)⟩
            refine wp_load_mid 32 _ rfl bb (off) (by simp [go_sem, hd]) _ _ (HRF.out wx hR) Tryd.underlying32 rfl (by kernel_rfl) ?_
            exact next_same _ rfl HVF.out.symm hR
          · refine ⟨fun _ => ?_, fun hX => by first | (simp at hX; done) | (simp [hd] at hX; done)⟩
            obtain ⟨hd0, hd1, -⟩ := hd
            exact wp_binop _ _ _ _ _ rfl hd0 hd1 (by rw [HVL.out, HVF.out]; first | kernel_rfl | rfl) (HNQ.out wx) (next_same _ rfl rfl hR)
          · refine ⟨fun _ => ?_, fun hX => by first | (simp at hX; done) | (simp [hd] at hX; done)⟩
            (try simp [hd]); go_simp; exact next_same _ rfl rfl hR
        intro x w7 hR hx
        simp [AllWords] at hx
        have h18 : x 18 = .bool true := by simp [hx]
        rw [h18]
        clear hx h18
        have HB7 := Lib.hid hR
        clear hR
        go_wp2_with fail
        go_ret
        exact ⟨(by rw [HFALSE.out]; rfl), HB7.out⟩
      | true =>
        have hfa := HFU.out
        rw [hq] at hfa
        have HFA := Lib.hid (show fullR m o rs = !((rs.drop 1).take (n - 2)).any soaB by rw [hfa]; rfl)
        rw [hq] at HNQ
        clear hq hfa HFU
        go_enter Tryd.func12, Tryd.ntmps12
        go_upto_region 2 with fail
        refine wp_region_goesG data_follows (fun x => by simp [putsF, Act.put]; rfl) w.heap.size w
          [isV (.string o), isV (.slice (some ⟨bb, off, none⟩) n c), isV (.bool true), isV (.bool false), isV (.bool false), isV (.int .i64 (n : Nat)), isV (.bool false), isV (.bool false), isV (.bool false), isV (.slice (some ⟨bb, off, none⟩) n c), isV (.int .i64 (n : Nat)), isV (.int .i64 (L : Nat)), isV (.pointer (some ⟨bb, off + L * 4, none⟩)), isV VL, isV (.slice (some ⟨bb, off, none⟩) n c), isV (.pointer (some ⟨bb, off, none⟩)), isV VF, isV (.bool false), isV (.bool false)]
          (by kernel_rfl) (by kernel_rfl) (by kernel_rfl) rfl ?_ (Below.refl _ _) ?_ ?_
        · repeat (first | exact trivial | refine ⟨isV_stays _, ?_⟩)
        · refine ⟨?_, ?_, ?_, ?_, ?_, ?_, ?_, ?_, ?_, ?_, ?_, ?_, ?_, ?_, ?_, ?_, ?_, ?_, ?_, trivial⟩
          all_goals
            intro x wx hR hd
            simp at hd
          · refine ⟨fun _ => ?_, fun hX => by first | (simp at hX; done) | (simp [hd] at hX; done)⟩
            (try simp [hd]); go_simp; exact next_same _ rfl rfl hR
          · refine ⟨fun _ => ?_, fun hX => by first | (simp at hX; done) | (simp [hd] at hX; done)⟩
            (try simp [hd]); go_simp; exact next_same _ rfl rfl hR
          · refine ⟨fun _ => ?_, fun hX => by first | (simp at hX; done) | (simp [hd] at hX; done)⟩
            (try simp [hd])
            go_simp
            go_at_call 18
            refine (AD.out wx hR).mono ?_
            rintro r wy ⟨rfl, hb⟩
            exact next_call _ rfl rfl hR hR.size hb
          · refine ⟨fun _ => ?_, fun hX => by first | (simp at hX; done) | (simp [hd] at hX; done)⟩
            (try simp [hd]); go_simp; exact next_same _ rfl rfl hR
          · refine ⟨fun _ => ?_, fun hX => by first | (simp at hX; done) | (simp [hd] at hX; done)⟩
            (try simp [hd]); go_simp; exact next_same _ rfl rfl hR
          · refine ⟨fun _ => ?_, fun hX => by first | (simp at hX; done) | (simp [hd] at hX; done)⟩
            (try simp [hd]); go_simp; exact next_same _ rfl rfl hR
          · refine ⟨fun _ => ?_, fun hX => by first | (simp at hX; done) | (simp [hd] at hX; done)⟩
            (try simp [hd]); go_simp; exact next_same _ rfl rfl hR
          · refine ⟨fun _ => ?_, fun hX => by first | (simp at hX; done) | (simp [hd] at hX; done)⟩
            (try simp [hd]); go_simp; exact next_same _ rfl rfl hR
          · refine ⟨fun _ => ?_, fun hX => by first | (simp at hX; done) | (simp [hd] at hX; done)⟩
            (try simp [hd]); go_simp; exact next_same _ rfl rfl hR
          · refine ⟨fun _ => ?_, fun hX => by first | (simp at hX; done) | (simp [hd] at hX; done)⟩
            (try simp [hd]); go_simp; exact next_same _ rfl rfl hR
          · refine ⟨fun _ => ?_, fun hX => by first | (simp at hX; done) | (simp [hd] at hX; done)⟩
            (try simp [hd]); go_simp; exact next_same _ rfl rfl hR
          · refine ⟨fun _ => ?_, fun hX => by first | (simp at hX; done) | (simp [hd] at hX; done)⟩
            (try simp [hd]); go_simp; exact next_same _ rfl rfl hR
          · refine ⟨fun _ => ?_, fun hX => by first | (simp at hX; done) | (simp [hd] at hX; done)⟩
            (try simp [hd]); go_simp; exact next_same _ rfl rfl hR
          · refine ⟨fun _ => ?_, fun hX => by first | (simp at hX; done) | (simp [hd] at hX; done)⟩
            refine wp_load_mid 32 _ rfl bb (off + L * 4) (by simp [go_sem, hd]) _ _ (HRL.out wx hR) Tryd.underlying32 rfl (by kernel_rfl) ?_
            exact next_same _ rfl HVL.out.symm hR
          · refine ⟨fun _ => ?_, fun hX => by first | (simp at hX; done) | (simp [hd] at hX; done)⟩
            (try simp [hd]); go_simp; exact next_same _ rfl rfl hR
          · refine ⟨fun _ => ?_, fun hX => by first | (simp at hX; done) | (simp [hd] at hX; done)⟩
            (try simp [hd]); go_simp; exact next_same _ rfl rfl hR
          · refine ⟨fun _ => ?_, fun hX => by first | (simp at hX; done) | (simp [hd] at hX; done)⟩
            refine wp_load_mid 32 _ rfl bb (off) (by simp [go_sem, hd]) _ _ (HRF.out wx hR) Tryd.underlying32 rfl (by kernel_rfl) ?_
            exact next_same _ rfl HVF.out.symm hR
          · refine ⟨fun _ => ?_, fun hX => by first | (simp at hX; done) | (simp [hd] at hX; done)⟩
            obtain ⟨hd0, hd1, -⟩ := hd
            exact wp_binop _ _ _ _ _ rfl hd0 hd1 (by rw [HVL.out, HVF.out]; first | kernel_rfl | rfl) (HNQ.out wx) (next_same _ rfl rfl hR)
          · refine ⟨fun _ => ?_, fun hX => by first | (simp at hX; done) | (simp [hd] at hX; done)⟩
            (try simp [hd]); go_simp; exact next_same _ rfl rfl hR
        intro x w7 hR hx
        simp [AllWords] at hx
        have h18 : x 18 = .bool false := by simp [hx]
        rw [h18]
        clear hx h18
        have HB7 := Lib.hid hR
        clear hR
        obtain ⟨M, hM⟩ : ∃ M, M = n - 2 := ⟨_, rfl⟩
        rw [← hM] at HFA
        have hLM : L - 1 = M := by have := HLN.out; omega
        obtain ⟨f1, f2, f3, f4, f5, f6⟩ := full_facts n c L HLN.out HCC.out (by omega)
        have HM := Lib.hid hM
        have HLM := Lib.hid hLM
        have HMN := Lib.hid (show M ≤ 1000 by have := HNN.out; omega)
        clear hM hLM hn1 h2 hc
        go_wp2_with fail
        rw [HLM.out]
        obtain ⟨ms, hms⟩ : ∃ l, l = (rs.drop 1).take M := ⟨_, rfl⟩
        have hml : ms.length = M := by rw [hms, List.length_take, List.length_drop, HL.out]; have := HM.out; omega
        have hmr : Recs w (some ⟨bb, off + 4, none⟩) ms := by have := HH.out.part 1 M; rw [hms]; simpa using this
        rw [← hms] at HFA
        have HML := Lib.hid hml
        have HMR := Lib.hid hmr
        have HMN2 := HMN.out
        clear hms hml hmr HH
        go_loopw [34] (fun i wr => ∃ k : Nat, k ≤ M ∧ i = .int .i64 k ∧ Hid ((ms.take k).any soaB = false) ∧ Hid (Below w.heap.size w wr)) (fun i _ => M - (intOf i).toNat)
        case atStart => exact ⟨0, Nat.zero_le _, rfl, Lib.hid (by simp), HB7⟩
        case round =>
          obtain ⟨k, hk, rfl, HK, HB⟩ := hrel
          by_cases hlt : k < M
          · have hlt' : (k : Int) < M := by omega
            obtain ⟨r, hr⟩ : ∃ r, ms[k]? = some r := ⟨_, List.getElem?_eq_getElem (by rw [HML.out]; exact hlt)⟩
            obtain ⟨bb', off', hae, hbb, hrg⟩ := (HMR.out.below HB.out).range hr
            injection hae with hae; injection hae with q1 q2; subst q1 q2
            have HNX := Lib.hid (any_next9 soaB hr)
            have HST := Lib.hid (any_stop9 soaB hr)
            have HRG := Lib.hid hrg
            obtain ⟨r0, r1, r2, r3⟩ := r
            unfold recCells at HRG
            simp only at HRG
            have hC := Cs.new wr #[.string r0, .int .u16 r1, .int .u32 r2, .string r3] 32 [.string r0, .int .u16 r1, .int .u32 r2, .string r3]
            have hB5 := HB.out.alloc HB.out.size (.cells #[.string r0, .int .u16 r1, .int .u32 r2, .string r3] 32)
            have H5 := Lib.hid (And.intro hC hB5)
            clear hr hbb hrg hC hB5
            go_upto_region 7 with (first | refine wpList_load_midH rfl 32 _ rfl bb (off + 4 + k * 4) rfl _ _ HRG.out Tryd.underlying32 rfl (by kernel_rfl) ?_)
            obtain ⟨hC, hB5⟩ := H5.out
            generalize wr.alloc (.cells #[.string r0, .int .u16 r1, .int .u32 r2, .string r3] 32) = w5 at *
            obtain ⟨g, hg⟩ : ∃ g, g = wr.heap.size := ⟨_, rfl⟩
            rw [← hg] at hC ⊢
            have HB5 := Lib.hid hB5
            have c1 := hC.get 1 _
            clear hC hB5 hg H5
            cases es : soaB (r0, r1, r2, r3) with
            | false =>
              have es1 : (r1 == 6) = false := es
              have HES := Lib.hid es
              clear es
              go_wp2_with fail
              go_round
              case rel => exact ⟨k + 1, by omega, by go_num, Lib.hid (by rw [HNX.out, HK.out, HES.out]; rfl), HB5⟩
              case measure => simp [intOf]; omega
            | true =>
              have es1 : (r1 == 6) = true := es
              have HRES := Lib.hid (show fullR m o rs = false by rw [HFA.out, HST.out es]; rfl)
              clear es
              go_wp2_with fail
              go_ret
              exact ⟨(by rw [HRES.out]; rfl), HB5.out⟩
          · have hlt' : ¬ (k : Int) < M := by omega
            have HRES := Lib.hid (show fullR m o rs = true by
              have := HK.out
              rw [List.take_of_length_le (by rw [HML.out]; omega)] at this
              rw [HFA.out, this]; rfl)
            go_wp2_with fail
            go_ret
            exact ⟨(by rw [HRES.out]; rfl), HB.out⟩
end Go.Proofs.YtkpjehplchdmgaaDoor
namespace Go.Proofs.YtkpjehplchdmgaaDoor
open Go.RowKit
set_option linter.unusedVariables false
set_option linter.unusedSimpArgs false
set_option maxRecDepth 20000
/-- A name below another one; that one, where it is too long. -/
def underN (o s : ByteArray) : ByteArray := if (joinOf s o).isSome = true then strOf (joinOf s o) else o
/-- A record below a name. -/
def underR (o : ByteArray) (soas : Bool) (a : ActT) : RecT :=
  if ((recOf a).2.1 == 6) = true then (if soas = true then soaR o (a.2.2.1.toNat % 6) else (o, 16, a.2.2.1, ⟨#[1, 120]⟩)) else (underN o (recOf a).1, (recOf a).2.1, (recOf a).2.2.1, (recOf a).2.2.2)
def undersOf (o : ByteArray) (soas : Bool) (ds : List ActT) (most : Nat) : List RecT := (ds.take most).map (underR o soas)
theorem undersOf_len (o : ByteArray) (s : Bool) (ds : List ActT) (most : Nat) : (undersOf o s ds most).length = min most ds.length := by unfold undersOf; simp
theorem undersOf_next {o : ByteArray} {s : Bool} {ds : List ActT} {most k : Nat} {a : ActT} (hk : k < most) (ha : ds[k]? = some a) : undersOf o s (ds.take (k + 1)) most = undersOf o s (ds.take k) most ++ [underR o s a] := by
  unfold undersOf
  rw [List.take_take, List.take_take, Nat.min_eq_right (by omega), Nat.min_eq_right (by omega), List.take_add_one, ha]
  simp
theorem recCells_one (r : RecT) : ∀ u ∈ recCells r, u.oneCell' = true := by
  intro u hu
  unfold recCells at hu
  simp at hu
  rcases hu with rfl | rfl | rfl | rfl <;> rfl
theorem rec_zero : (Tryd.prog.info? 32).map (fun i => (i.zero, i.size, i.bytes)) = some (some (.agg #[.string ⟨#[]⟩, .int .u16 0, .int .u32 0, .string ⟨#[]⟩]), 4, 40) := by kernel_rfl
set_option maxHeartbeats 6400000 in
theorem under_any (o : ByteArray) (A : Option Addr) (n c most : Nat) (soas : Bool) (ds : List ActT) (w : World) (h : ActsAt w A n ds) (hn : n ≤ maxLen) (hm : most ≤ 1000) (ho : o.size ≤ maxLen) :
    Calls Tryd.prog 9 #[.string o, .slice A n c, .int .i64 (most : Nat), .bool soas] w fun e w' => ∃ v, e = .returned v ∧ OBM 4 w.heap.size w v (undersOf o soas ds most).length (flatR (undersOf o soas ds most)) w' := by
  unfold maxLen at hn
  have hl := h.len
  obtain ⟨i0, hi, hz0, hz1, hz2⟩ := info_parts4 rec_zero
  have H := Lib.hid h
  have HL := Lib.hid hl
  have HO0 := Lib.hid ho
  have HMOST := Lib.hid hm
  clear h hl ho
  go_enter Tryd.func9, Tryd.ntmps9
  go_wp2_with fail
  go_loopw [9, 17] (fun v i wr => ∃ k : Nat, k ≤ n ∧ k ≤ most ∧ i = .int .i64 k ∧ Hid (OBM 4 w.heap.size w v (undersOf o soas (ds.take k) most).length (flatR (undersOf o soas (ds.take k) most)) wr)) (fun _ i _ => n - (intOf i).toNat)
  case atStart => exact ⟨0, Nat.zero_le _, Nat.zero_le _, rfl, Lib.hid (by have := OBM.start (sz := 4) w; simpa [undersOf, flatR] using this)⟩
  case round =>
    obtain ⟨k, hk, hkm, rfl, HB⟩ := hrel
    by_cases hlt : k < n
    · have hlt' : (k : Int) < n := by omega
      obtain ⟨a, ha⟩ : ∃ r, ds[k]? = some r := ⟨_, List.getElem?_eq_getElem (by rw [HL.out]; omega)⟩
      have hA := H.out.below (HB.out.bel)
      obtain ⟨b, off, rfl, hb, g0, g1, g2, g3, g4⟩ := hA.cells k a ha
      have hok := hA.ok a (List.mem_of_getElem? ha)
      unfold rowV at g0 g3
      by_cases hkeq : k = most
      · have hki : ((k : Int) == (most : Int)) = true := by rw [beq_iff_eq]; omega
        have hend : undersOf o soas (ds.take k) most = undersOf o soas ds most := by
          unfold undersOf
          rw [List.take_take, Nat.min_eq_right (by omega), hkeq]
        have HE := Lib.hid hend
        clear hA hok ha hend
        subst hkeq
        go_wp2_with fail
        go_ret
        have := HB.out.alloc (.cells #[.slice a.1.1 a.1.2.1 a.1.2.2.1, .int .u8 a.2.1, .int .u32 a.2.2.1, .slice a.2.2.2.1.1 a.2.2.2.1.2.1 a.2.2.2.1.2.2.1, .string a.2.2.2.2] 45)
        rw [HE.out] at this
        exact ⟨_, rfl, this⟩
      · have hki : ((k : Int) == (most : Int)) = false := by rw [beq_eq_false_iff_ne]; omega
        have hkm' : k < most := by omega
        have hnx := undersOf_next (o := o) (s := soas) hkm' ha
        have RC := Lib.hid (fun w h => record_any a w h)
        unfold actA rowV at RC
        have hun : underR o soas a = underR o soas a := rfl
        unfold underR at hun
        have HNX := Lib.hid hnx
        have HOK := Lib.hid hok
        have hlen := undersOf_len o soas (ds.take k) most
        have HL2 := Lib.hid (show (undersOf o soas (ds.take k) most).length ≤ 1000 by omega)
        have hT := hok.t
        have hrn : (recOf a).1.size ≤ maxLen := by unfold recOf nmB; rw [mk_size]; exact Nat.le_trans (nameZ_le _ (intsB_ok _)) (by decide)
        clear hA hok ha hnx hlen hun
        generalize hrs : undersOf o soas (ds.take k) most = rs at *
        clear hrs
        obtain ⟨TT, hTT⟩ : ∃ t : Nat, a.2.2.1 = t := ⟨a.2.2.1.toNat, by omega⟩
        obtain ⟨r, hr⟩ : ∃ r, recOf a = r := ⟨_, rfl⟩
        obtain ⟨ur, hur⟩ : ∃ u, u = underR o soas a := ⟨_, rfl⟩
        have HUR : Hid (ur = if (r.2.1 == 6) = true then (if soas = true then soaR o (TT % 6) else (o, 16, (TT : Int), ⟨#[1, 120]⟩)) else (underN o r.1, r.2.1, r.2.2.1, r.2.2.2)) := Lib.hid (by rw [hur, ← hr]; unfold underR; rw [hTT]; simp)
        rw [hr] at RC hrn
        have HR0S := Lib.hid hrn
        clear hrn
        rw [← hur] at HNX
        rw [hTT] at g2 hT RC
        have hT2 : TT < 4294967296 := by omega
        clear hr hur hTT hT
        obtain ⟨r0, r1, r2, r3⟩ := r
        unfold recV at RC
        simp only at RC HUR HR0S
        go_wp2_with fail
        refine (RC.out _ (HOK.out.below ((Below.refl _ _).alloc (Nat.le_refl _) _))).mono ?_
        rintro e w2 ⟨rfl, hb2⟩
        have hbA : Below wr.heap.size wr w2 := below_alloc _ (Below.refl _ _) (Nat.le_refl _) hb2
        have hCA := (Cs.new wr #[.slice a.1.1 a.1.2.1 a.1.2.2.1, .int .u8 a.2.1, .int .u32 (TT : Nat), .slice a.2.2.2.1.1 a.2.2.2.1.2.1 a.2.2.2.1.2.2.1, .string a.2.2.2.2] 45 [.slice a.1.1 a.1.2.1 a.1.2.2.1, .int .u8 a.2.1, .int .u32 (TT : Nat), .slice a.2.2.2.1.1 a.2.2.2.1.2.1 a.2.2.2.1.2.2.1, .string a.2.2.2.2]).below hb2
        have hC2 := Cs.new w2 #[.string r0, .int .u16 r1, .int .u32 r2, .string r3] 32 [.string r0, .int .u16 r1, .int .u32 r2, .string r3]
        have hCA2 := hCA.alloc (.cells #[.string r0, .int .u16 r1, .int .u32 r2, .string r3] 32)
        have hb3 := hbA.alloc hbA.size (.cells #[.string r0, .int .u16 r1, .int .u32 r2, .string r3] 32)
        have hr0s : r0.size ≤ maxLen := HR0S.out
        have JN := Lib.hid (fun w => join_any r0 o w hr0s HO0.out)
        have H3 := Lib.hid (And.intro hC2 (And.intro hCA2 hb3))
        have HG := Lib.hid (show wr.heap.size < w2.heap.size by have := hCA.lt; exact this)
        clear hb2 hbA hCA hC2 hCA2 hb3 hr0s g0 g1 g2 g3 g4
        go_upto_region 7 with fail
        obtain ⟨hC2, hCA2, hb3⟩ := H3.out
        generalize w2.alloc (.cells #[.string r0, .int .u16 r1, .int .u32 r2, .string r3] 32) = w3 at *
        obtain ⟨g12, hg12⟩ : ∃ g, g = w2.heap.size := ⟨_, rfl⟩
        obtain ⟨g11, hg11⟩ : ∃ g, g = wr.heap.size := ⟨_, rfl⟩
        have hgg := HG.out
        rw [← hg12] at hC2 hgg ⊢
        rw [← hg11] at hCA2 hgg ⊢
        have HG12 : Hid (wr.heap.size ≤ g12) := Lib.hid (by omega)
        have HNE : Hid (g11 ≠ g12) := Lib.hid (by omega)
        have HC3 := Lib.hid (And.intro hC2 (And.intro hCA2 hb3))
        have c0 := hC2.get 0 _
        clear hC2 hCA2 hb3 hg12 hg11 hgg H3
        go_wp2_with fail
        refine (JN.out _).mono ?_
        rintro e w4 ⟨rfl, hb4⟩
        clear c0
        have hC4 := HC3.out.1.below hb4
        have hA4 := HC3.out.2.1.below hb4
        have hB4 := HC3.out.2.2.trans (hb4.mono HC3.out.2.2.size)
        have c0 := hC4.get 0 _
        have f0 := hC4.froz 0 (by simp)
        obtain ⟨JS, hJS⟩ : ∃ x, x = strOf (joinOf r0 o) := ⟨_, rfl⟩
        rw [← hJS]
        have HJS := Lib.hid hJS
        clear hJS hb4
        cases hjb : (joinOf r0 o).isSome with
        | true =>
          have HJB := Lib.hid hjb
          have HC5 := Lib.hid (And.intro (hC4.set' 0 (.string JS) (by simp)) (And.intro (hA4.other g12 0 (.string JS) HNE.out.symm) (hB4.setCell (p := ⟨g12, 0, none⟩) HG12.out (.string JS))))
          have HC5 : Hid (Cs (w4.setCell ⟨g12, 0, none⟩ (.string JS)) g12 [.string JS, .int .u16 r1, .int .u32 r2, .string r3] ∧ Cs (w4.setCell ⟨g12, 0, none⟩ (.string JS)) g11 [.slice a.1.1 a.1.2.1 a.1.2.2.1, .int .u8 a.2.1, .int .u32 (TT : Nat), .slice a.2.2.2.1.1 a.2.2.2.1.2.1 a.2.2.2.1.2.2.1, .string a.2.2.2.2] ∧ Below wr.heap.size wr (w4.setCell ⟨g12, 0, none⟩ (.string JS))) := HC5
          clear hC4 hA4 hB4 hjb
          go_upto_region 11 with fail
          generalize w4.setCell ⟨g12, 0, none⟩ (.string JS) = w5 at *
          have hC := HC5.out.1
          have hB5 := HC5.out.2.2
          have c1 := hC.get 1 _
          have c2 := HC5.out.2.1.get 2 _
          have hun : underN o r0 = JS := by unfold underN; rw [HJB.out, if_pos rfl, HJS.out]
          have HUN := Lib.hid hun
          clear hun f0 c0
          cases hq6 : (r1 == 6) with
          | false =>
            have hur : ur = (JS, r1, r2, r3) := by rw [HUR.out, hq6, HUN.out]; rfl
            clear c2
            go_upto_region 15 with fail
            have HRX := Lib.hid hC.range
            have ho := Lib.hid ((HB.out.keep hB5 (Nat.le_refl _)).alloc (.cells #[.string JS, .int .u16 r1, .int .u32 r2, .string r3] 32))
            have hS : Hid (Src Tryd.prog 4 26 (.slice (some ⟨w5.heap.size, 0, none⟩) 1 1) 1 [.string JS, .int .u16 r1, .int .u32 r2, .string r3] (w5.alloc (.cells #[.string JS, .int .u16 r1, .int .u32 r2, .string r3] 32))) := by
              refine Lib.hid (Src.ofSlice _ Tryd.underlying26 _ 1 1 _ rfl ?_ (recCells_one (JS, r1, r2, r3)))
              exact news_at w5 #[.string JS, .int .u16 r1, .int .u32 r2, .string r3] _
            have hfl : flatR (rs ++ [ur]) = flatR rs ++ [.string JS, .int .u16 r1, .int .u32 r2, .string r3] := by rw [flatR_snoc, hur]; rfl
            have HFL := Lib.hid hfl
            clear hC hfl hur
            go_wp2_with (first | (at_builtin; go_loud (refine wpList_append_obm rfl _ _ 26 26 rfl 32 i0 _ 40 Tryd.underlying26 hi hz0 hz1 hz2 rfl ho.out rfl rfl hS.out rfl (by have := HL2.out; unfold maxLen; omega) (by have := HL2.out; omega) ?_)) | refine wpList_load_mid rfl 32 _ rfl g12 0 rfl _ _ HRX.out Tryd.underlying32 rfl (by kernel_rfl) ?_)
            intro v' w' q1 q2 q3 q4
            have Q1 := Lib.hid q1
            clear q1 q2 q3 q4
            go_wp2_with fail
            go_round
            case rel => exact ⟨k + 1, by omega, by omega, by go_num, Lib.hid (by rw [HNX.out, HFL.out, List.length_append]; exact Q1.out)⟩
            case measure => simp [intOf]; omega
          | true =>
            have hq6' := hq6
            rw [beq_iff_eq] at hq6'
            have HQ6 := Lib.hid hq6
            have SO : Hid (∀ w, Calls Tryd.prog 10 #[.string o, .int .u32 ((TT % 6 : Nat) : Int)] w fun e w' => e = .returned (.agg #[.string o, .int .u16 6, .int .u32 9, .string (soaD (TT % 6))]) ∧ Below w.heap.size w w') := Lib.hid (fun w => soa9_any o (TT % 6) (by omega) w)
            have htm : (TT : Int).tmod 6 = ((TT % 6 : Nat) : Int) := by rw [Int.tmod_eq_emod_of_nonneg (by omega)]; omega
            obtain ⟨D, hD⟩ : ∃ d, d = soaD (TT % 6) := ⟨_, rfl⟩
            obtain ⟨tm, htq⟩ : ∃ t : Nat, t = TT % 6 := ⟨_, rfl⟩
            rw [← hD] at SO
            rw [← htq] at SO htm
            have HD := Lib.hid hD
            have H5 := Lib.hid hC
            have HBB5 := Lib.hid hB5
            have HA5 := Lib.hid HC5.out.2.1
            clear hD htq hq6' hC hB5
            go_wp2_with fail
            refine (SO.out _).mono ?_
            rintro e w6 ⟨rfl, hb6⟩
            have hC6 := H5.out.below hb6
            have HTH := Lib.hid (hC6.there 4 rfl)
            have hM := hC6.mid [.string o, .int .u16 6, .int .u32 9, .string D] rfl
            have hb7 := below_setCells' (B := wr.heap.size) (g := g12) HG12.out [.string o, .int .u16 6, .int .u32 9, .string D] 0 (HBB5.out.trans (hb6.mono HBB5.out.size))
            have H7 := Lib.hid (And.intro hM (And.intro hb7 (HA5.out.below hb6)))
            clear hC6 hM hb7 hb6 c1 c2 htm
            go_upto_region 13 with (first | refine wpList_store_mid rfl 32 _ _ rfl g12 0 #[.string o, .int .u16 6, .int .u32 9, .string D] rfl rfl HTH.out (by kernel_rfl) (by simp [Value.oneCell']) ?_)
            obtain ⟨hC, hB7, hA6⟩ := H7.out
            have hA7 : Cs (w6.setCells g12 0 [.string o, .int .u16 6, .int .u32 9, .string D]) g11 [.slice a.1.1 a.1.2.1 a.1.2.2.1, .int .u8 a.2.1, .int .u32 (TT : Nat), .slice a.2.2.2.1.1 a.2.2.2.1.2.1 a.2.2.2.1.2.2.1, .string a.2.2.2.2] := hA6.block ((setCells_heap w6 g12 [.string o, .int .u16 6, .int .u32 9, .string D] 0).2 g11 HNE.out) (by rw [(setCells_heap w6 g12 [.string o, .int .u16 6, .int .u32 9, .string D] 0).1]; exact Nat.le_refl _)
            generalize w6.setCells g12 0 [.string o, .int .u16 6, .int .u32 9, .string D] = w7 at *
            have HQD := Lib.hid (show soaR o (TT % 6) = (o, 6, 9, D) by rw [HD.out]; rfl)
            cases soas with
            | true =>
              have hur : ur = (o, 6, 9, D) := by rw [HUR.out, HQ6.out, if_pos rfl, if_pos rfl, HQD.out]
              clear hA6 hA7
              go_upto_region 15 with fail
              have HRX := Lib.hid hC.range
              have ho := Lib.hid ((HB.out.keep hB7 (Nat.le_refl _)).alloc (.cells #[.string o, .int .u16 6, .int .u32 9, .string D] 32))
              have hS : Hid (Src Tryd.prog 4 26 (.slice (some ⟨w7.heap.size, 0, none⟩) 1 1) 1 [.string o, .int .u16 6, .int .u32 9, .string D] (w7.alloc (.cells #[.string o, .int .u16 6, .int .u32 9, .string D] 32))) := by
                refine Lib.hid (Src.ofSlice _ Tryd.underlying26 _ 1 1 _ rfl ?_ (recCells_one (o, 6, 9, D)))
                exact news_at w7 #[.string o, .int .u16 6, .int .u32 9, .string D] _
              have hfl : flatR (rs ++ [ur]) = flatR rs ++ [.string o, .int .u16 6, .int .u32 9, .string D] := by rw [flatR_snoc, hur]; rfl
              have HFL := Lib.hid hfl
              clear hC hfl hur
              go_wp2_with (first | (at_builtin; go_loud (refine wpList_append_obm rfl _ _ 26 26 rfl 32 i0 _ 40 Tryd.underlying26 hi hz0 hz1 hz2 rfl ho.out rfl rfl hS.out rfl (by have := HL2.out; unfold maxLen; omega) (by have := HL2.out; omega) ?_)) | refine wpList_load_mid rfl 32 _ rfl g12 0 rfl _ _ HRX.out Tryd.underlying32 rfl (by kernel_rfl) ?_)
              intro v' w' q1 q2 q3 q4
              have Q1 := Lib.hid q1
              clear q1 q2 q3 q4
              go_wp2_with fail
              go_round
              case rel => exact ⟨k + 1, by omega, by omega, by go_num, Lib.hid (by rw [HNX.out, HFL.out, List.length_append]; exact Q1.out)⟩
              case measure => simp [intOf]; omega
            | false =>
              have hur : ur = (o, 16, (TT : Int), ⟨#[1, 120]⟩) := by rw [HUR.out, HQ6.out]; rfl
              have HUX := Lib.hid hur
              have c2 := hA7.get 2 _
              have HTH2 := Lib.hid (hC.there 4 rfl)
              have hM := hC.mid [.string o, .int .u16 16, .int .u32 (TT : Nat), .string ⟨#[1, 120]⟩] rfl
              have hb8 := below_setCells' (B := wr.heap.size) (g := g12) HG12.out [.string o, .int .u16 16, .int .u32 (TT : Nat), .string ⟨#[1, 120]⟩] 0 hB7
              have H8 := Lib.hid (And.intro hM hb8)
              clear hC hB7 hA6 hA7 hM hb8 hur
              go_upto_region 15 with (first | refine wpList_store_mid rfl 32 _ _ rfl g12 0 #[.string o, .int .u16 16, .int .u32 (TT : Nat), .string ⟨#[1, 120]⟩] rfl rfl HTH2.out (by kernel_rfl) (by simp [Value.oneCell']) ?_)
              obtain ⟨hC, hB8⟩ := H8.out
              have hur := HUX.out
              generalize w7.setCells g12 0 [.string o, .int .u16 16, .int .u32 (TT : Nat), .string ⟨#[1, 120]⟩] = w8 at *
              clear c2
              have HRX := Lib.hid hC.range
              have ho := Lib.hid ((HB.out.keep hB8 (Nat.le_refl _)).alloc (.cells #[.string o, .int .u16 16, .int .u32 (TT : Nat), .string ⟨#[1, 120]⟩] 32))
              have hS : Hid (Src Tryd.prog 4 26 (.slice (some ⟨w8.heap.size, 0, none⟩) 1 1) 1 [.string o, .int .u16 16, .int .u32 (TT : Nat), .string ⟨#[1, 120]⟩] (w8.alloc (.cells #[.string o, .int .u16 16, .int .u32 (TT : Nat), .string ⟨#[1, 120]⟩] 32))) := by
                refine Lib.hid (Src.ofSlice _ Tryd.underlying26 _ 1 1 _ rfl ?_ (recCells_one (o, 16, (TT : Int), ⟨#[1, 120]⟩)))
                exact news_at w8 #[.string o, .int .u16 16, .int .u32 (TT : Nat), .string ⟨#[1, 120]⟩] _
              have hfl : flatR (rs ++ [ur]) = flatR rs ++ [.string o, .int .u16 16, .int .u32 (TT : Nat), .string ⟨#[1, 120]⟩] := by rw [flatR_snoc, hur]; rfl
              have HFL := Lib.hid hfl
              clear hC hfl hur
              go_wp2_with (first | (at_builtin; go_loud (refine wpList_append_obm rfl _ _ 26 26 rfl 32 i0 _ 40 Tryd.underlying26 hi hz0 hz1 hz2 rfl ho.out rfl rfl hS.out rfl (by have := HL2.out; unfold maxLen; omega) (by have := HL2.out; omega) ?_)) | refine wpList_load_mid rfl 32 _ rfl g12 0 rfl _ _ HRX.out Tryd.underlying32 rfl (by kernel_rfl) ?_)
              intro v' w' q1 q2 q3 q4
              have Q1 := Lib.hid q1
              clear q1 q2 q3 q4
              go_wp2_with fail
              go_round
              case rel => exact ⟨k + 1, by omega, by omega, by go_num, Lib.hid (by rw [HNX.out, HFL.out, List.length_append]; exact Q1.out)⟩
              case measure => simp [intOf]; omega
        | false =>
          have HJB := Lib.hid hjb
          have HC5 := Lib.hid (And.intro (hC4.set' 0 (.string o) (by simp)) (And.intro (hA4.other g12 0 (.string o) HNE.out.symm) (hB4.setCell (p := ⟨g12, 0, none⟩) HG12.out (.string o))))
          have HC5 : Hid (Cs (w4.setCell ⟨g12, 0, none⟩ (.string o)) g12 [.string o, .int .u16 r1, .int .u32 r2, .string r3] ∧ Cs (w4.setCell ⟨g12, 0, none⟩ (.string o)) g11 [.slice a.1.1 a.1.2.1 a.1.2.2.1, .int .u8 a.2.1, .int .u32 (TT : Nat), .slice a.2.2.2.1.1 a.2.2.2.1.2.1 a.2.2.2.1.2.2.1, .string a.2.2.2.2] ∧ Below wr.heap.size wr (w4.setCell ⟨g12, 0, none⟩ (.string o))) := HC5
          clear hC4 hA4 hB4 hjb
          go_upto_region 11 with fail
          generalize w4.setCell ⟨g12, 0, none⟩ (.string o) = w5 at *
          have hC := HC5.out.1
          have hB5 := HC5.out.2.2
          have c1 := hC.get 1 _
          have c2 := HC5.out.2.1.get 2 _
          have hun : underN o r0 = o := by unfold underN; rw [HJB.out]; rfl
          have HUN := Lib.hid hun
          clear hun f0 c0
          cases hq6 : (r1 == 6) with
          | false =>
            have hur : ur = (o, r1, r2, r3) := by rw [HUR.out, hq6, HUN.out]; rfl
            clear c2
            go_upto_region 15 with fail
            have HRX := Lib.hid hC.range
            have ho := Lib.hid ((HB.out.keep hB5 (Nat.le_refl _)).alloc (.cells #[.string o, .int .u16 r1, .int .u32 r2, .string r3] 32))
            have hS : Hid (Src Tryd.prog 4 26 (.slice (some ⟨w5.heap.size, 0, none⟩) 1 1) 1 [.string o, .int .u16 r1, .int .u32 r2, .string r3] (w5.alloc (.cells #[.string o, .int .u16 r1, .int .u32 r2, .string r3] 32))) := by
              refine Lib.hid (Src.ofSlice _ Tryd.underlying26 _ 1 1 _ rfl ?_ (recCells_one (o, r1, r2, r3)))
              exact news_at w5 #[.string o, .int .u16 r1, .int .u32 r2, .string r3] _
            have hfl : flatR (rs ++ [ur]) = flatR rs ++ [.string o, .int .u16 r1, .int .u32 r2, .string r3] := by rw [flatR_snoc, hur]; rfl
            have HFL := Lib.hid hfl
            clear hC hfl hur
            go_wp2_with (first | (at_builtin; go_loud (refine wpList_append_obm rfl _ _ 26 26 rfl 32 i0 _ 40 Tryd.underlying26 hi hz0 hz1 hz2 rfl ho.out rfl rfl hS.out rfl (by have := HL2.out; unfold maxLen; omega) (by have := HL2.out; omega) ?_)) | refine wpList_load_mid rfl 32 _ rfl g12 0 rfl _ _ HRX.out Tryd.underlying32 rfl (by kernel_rfl) ?_)
            intro v' w' q1 q2 q3 q4
            have Q1 := Lib.hid q1
            clear q1 q2 q3 q4
            go_wp2_with fail
            go_round
            case rel => exact ⟨k + 1, by omega, by omega, by go_num, Lib.hid (by rw [HNX.out, HFL.out, List.length_append]; exact Q1.out)⟩
            case measure => simp [intOf]; omega
          | true =>
            have hq6' := hq6
            rw [beq_iff_eq] at hq6'
            have HQ6 := Lib.hid hq6
            have SO : Hid (∀ w, Calls Tryd.prog 10 #[.string o, .int .u32 ((TT % 6 : Nat) : Int)] w fun e w' => e = .returned (.agg #[.string o, .int .u16 6, .int .u32 9, .string (soaD (TT % 6))]) ∧ Below w.heap.size w w') := Lib.hid (fun w => soa9_any o (TT % 6) (by omega) w)
            have htm : (TT : Int).tmod 6 = ((TT % 6 : Nat) : Int) := by rw [Int.tmod_eq_emod_of_nonneg (by omega)]; omega
            obtain ⟨D, hD⟩ : ∃ d, d = soaD (TT % 6) := ⟨_, rfl⟩
            obtain ⟨tm, htq⟩ : ∃ t : Nat, t = TT % 6 := ⟨_, rfl⟩
            rw [← hD] at SO
            rw [← htq] at SO htm
            have HD := Lib.hid hD
            have H5 := Lib.hid hC
            have HBB5 := Lib.hid hB5
            have HA5 := Lib.hid HC5.out.2.1
            clear hD htq hq6' hC hB5
            go_wp2_with fail
            refine (SO.out _).mono ?_
            rintro e w6 ⟨rfl, hb6⟩
            have hC6 := H5.out.below hb6
            have HTH := Lib.hid (hC6.there 4 rfl)
            have hM := hC6.mid [.string o, .int .u16 6, .int .u32 9, .string D] rfl
            have hb7 := below_setCells' (B := wr.heap.size) (g := g12) HG12.out [.string o, .int .u16 6, .int .u32 9, .string D] 0 (HBB5.out.trans (hb6.mono HBB5.out.size))
            have H7 := Lib.hid (And.intro hM (And.intro hb7 (HA5.out.below hb6)))
            clear hC6 hM hb7 hb6 c1 c2 htm
            go_upto_region 13 with (first | refine wpList_store_mid rfl 32 _ _ rfl g12 0 #[.string o, .int .u16 6, .int .u32 9, .string D] rfl rfl HTH.out (by kernel_rfl) (by simp [Value.oneCell']) ?_)
            obtain ⟨hC, hB7, hA6⟩ := H7.out
            have hA7 : Cs (w6.setCells g12 0 [.string o, .int .u16 6, .int .u32 9, .string D]) g11 [.slice a.1.1 a.1.2.1 a.1.2.2.1, .int .u8 a.2.1, .int .u32 (TT : Nat), .slice a.2.2.2.1.1 a.2.2.2.1.2.1 a.2.2.2.1.2.2.1, .string a.2.2.2.2] := hA6.block ((setCells_heap w6 g12 [.string o, .int .u16 6, .int .u32 9, .string D] 0).2 g11 HNE.out) (by rw [(setCells_heap w6 g12 [.string o, .int .u16 6, .int .u32 9, .string D] 0).1]; exact Nat.le_refl _)
            generalize w6.setCells g12 0 [.string o, .int .u16 6, .int .u32 9, .string D] = w7 at *
            have HQD := Lib.hid (show soaR o (TT % 6) = (o, 6, 9, D) by rw [HD.out]; rfl)
            cases soas with
            | true =>
              have hur : ur = (o, 6, 9, D) := by rw [HUR.out, HQ6.out, if_pos rfl, if_pos rfl, HQD.out]
              clear hA6 hA7
              go_upto_region 15 with fail
              have HRX := Lib.hid hC.range
              have ho := Lib.hid ((HB.out.keep hB7 (Nat.le_refl _)).alloc (.cells #[.string o, .int .u16 6, .int .u32 9, .string D] 32))
              have hS : Hid (Src Tryd.prog 4 26 (.slice (some ⟨w7.heap.size, 0, none⟩) 1 1) 1 [.string o, .int .u16 6, .int .u32 9, .string D] (w7.alloc (.cells #[.string o, .int .u16 6, .int .u32 9, .string D] 32))) := by
                refine Lib.hid (Src.ofSlice _ Tryd.underlying26 _ 1 1 _ rfl ?_ (recCells_one (o, 6, 9, D)))
                exact news_at w7 #[.string o, .int .u16 6, .int .u32 9, .string D] _
              have hfl : flatR (rs ++ [ur]) = flatR rs ++ [.string o, .int .u16 6, .int .u32 9, .string D] := by rw [flatR_snoc, hur]; rfl
              have HFL := Lib.hid hfl
              clear hC hfl hur
              go_wp2_with (first | (at_builtin; go_loud (refine wpList_append_obm rfl _ _ 26 26 rfl 32 i0 _ 40 Tryd.underlying26 hi hz0 hz1 hz2 rfl ho.out rfl rfl hS.out rfl (by have := HL2.out; unfold maxLen; omega) (by have := HL2.out; omega) ?_)) | refine wpList_load_mid rfl 32 _ rfl g12 0 rfl _ _ HRX.out Tryd.underlying32 rfl (by kernel_rfl) ?_)
              intro v' w' q1 q2 q3 q4
              have Q1 := Lib.hid q1
              clear q1 q2 q3 q4
              go_wp2_with fail
              go_round
              case rel => exact ⟨k + 1, by omega, by omega, by go_num, Lib.hid (by rw [HNX.out, HFL.out, List.length_append]; exact Q1.out)⟩
              case measure => simp [intOf]; omega
            | false =>
              have hur : ur = (o, 16, (TT : Int), ⟨#[1, 120]⟩) := by rw [HUR.out, HQ6.out]; rfl
              have HUX := Lib.hid hur
              have c2 := hA7.get 2 _
              have HTH2 := Lib.hid (hC.there 4 rfl)
              have hM := hC.mid [.string o, .int .u16 16, .int .u32 (TT : Nat), .string ⟨#[1, 120]⟩] rfl
              have hb8 := below_setCells' (B := wr.heap.size) (g := g12) HG12.out [.string o, .int .u16 16, .int .u32 (TT : Nat), .string ⟨#[1, 120]⟩] 0 hB7
              have H8 := Lib.hid (And.intro hM hb8)
              clear hC hB7 hA6 hA7 hM hb8 hur
              go_upto_region 15 with (first | refine wpList_store_mid rfl 32 _ _ rfl g12 0 #[.string o, .int .u16 16, .int .u32 (TT : Nat), .string ⟨#[1, 120]⟩] rfl rfl HTH2.out (by kernel_rfl) (by simp [Value.oneCell']) ?_)
              obtain ⟨hC, hB8⟩ := H8.out
              have hur := HUX.out
              generalize w7.setCells g12 0 [.string o, .int .u16 16, .int .u32 (TT : Nat), .string ⟨#[1, 120]⟩] = w8 at *
              clear c2
              have HRX := Lib.hid hC.range
              have ho := Lib.hid ((HB.out.keep hB8 (Nat.le_refl _)).alloc (.cells #[.string o, .int .u16 16, .int .u32 (TT : Nat), .string ⟨#[1, 120]⟩] 32))
              have hS : Hid (Src Tryd.prog 4 26 (.slice (some ⟨w8.heap.size, 0, none⟩) 1 1) 1 [.string o, .int .u16 16, .int .u32 (TT : Nat), .string ⟨#[1, 120]⟩] (w8.alloc (.cells #[.string o, .int .u16 16, .int .u32 (TT : Nat), .string ⟨#[1, 120]⟩] 32))) := by
                refine Lib.hid (Src.ofSlice _ Tryd.underlying26 _ 1 1 _ rfl ?_ (recCells_one (o, 16, (TT : Int), ⟨#[1, 120]⟩)))
                exact news_at w8 #[.string o, .int .u16 16, .int .u32 (TT : Nat), .string ⟨#[1, 120]⟩] _
              have hfl : flatR (rs ++ [ur]) = flatR rs ++ [.string o, .int .u16 16, .int .u32 (TT : Nat), .string ⟨#[1, 120]⟩] := by rw [flatR_snoc, hur]; rfl
              have HFL := Lib.hid hfl
              clear hC hfl hur
              go_wp2_with (first | (at_builtin; go_loud (refine wpList_append_obm rfl _ _ 26 26 rfl 32 i0 _ 40 Tryd.underlying26 hi hz0 hz1 hz2 rfl ho.out rfl rfl hS.out rfl (by have := HL2.out; unfold maxLen; omega) (by have := HL2.out; omega) ?_)) | refine wpList_load_mid rfl 32 _ rfl g12 0 rfl _ _ HRX.out Tryd.underlying32 rfl (by kernel_rfl) ?_)
              intro v' w' q1 q2 q3 q4
              have Q1 := Lib.hid q1
              clear q1 q2 q3 q4
              go_wp2_with fail
              go_round
              case rel => exact ⟨k + 1, by omega, by omega, by go_num, Lib.hid (by rw [HNX.out, HFL.out, List.length_append]; exact Q1.out)⟩
              case measure => simp [intOf]; omega
    · have hlt' : ¬ (k : Int) < n := by omega
      go_wp2_with fail
      go_ret
      have := HB.out
      rw [List.take_of_length_le (by rw [HL.out]; omega)] at this
      exact ⟨_, rfl, this⟩
end Go.Proofs.YtkpjehplchdmgaaDoor
namespace Go.Proofs.YtkpjehplchdmgaaDoor
open Go.RowKit
set_option linter.unusedVariables false
set_option maxRecDepth 20000
theorem nmB_labels (l : List UInt8) : ∃ LS, labelsOf (nmB l) = some LS ∧ (nmB l).size ≤ 254 := by
  refine ⟨wordsZ (intsB l), ?_, ?_⟩
  · unfold nmB nameZ
    exact few_labels (wordsZ_ok _ (intsB_ok l)) (wordsZ_len _)
  · unfold nmB
    have := nameZ_le (intsB l) (intsB_ok l)
    simpa [ByteArray.size] using this
theorem dataOf_cname (q : Nat) (X s : ByteArray) (h : ((dataOf q X s).1 : Int) = 5) : (dataOf q X s).2 = X := by
  unfold dataOf at h ⊢
  by_cases c0 : q = 0 ∨ q = 1
  · rw [if_pos c0] at h; simp at h
  rw [if_neg c0] at h ⊢
  by_cases c2 : q = 2
  · rw [if_pos c2]
  rw [if_neg c2] at h ⊢
  by_cases c3 : q = 3
  · rw [if_pos c3]
  rw [if_neg c3] at h ⊢
  by_cases c4 : q = 4
  · rw [if_pos c4] at h; simp at h
  rw [if_neg c4] at h ⊢
  by_cases c5 : q = 5
  · rw [if_pos c5] at h; simp at h
  rw [if_neg c5] at h ⊢
  by_cases c6 : q = 6
  · rw [if_pos c6] at h; simp at h
  rw [if_neg c6] at h; simp at h
theorem dataOf_le (q : Nat) (X s : ByteArray) (hX : X.size ≤ 254) (hs : s.size ≤ 30) : (dataOf q X s).2.size ≤ 600 := by
  have k1 : (ByteArray.mk #[0]).size = 1 := rfl
  have k2 : (ByteArray.mk #[UInt8.ofNat s.size]).size = 1 := rfl
  unfold dataOf
  by_cases c0 : q = 0 ∨ q = 1
  · rw [if_pos c0]; simp only [ByteArray.size_extract]; omega
  rw [if_neg c0]
  by_cases c2 : q = 2
  · rw [if_pos c2]; simp only; omega
  rw [if_neg c2]
  by_cases c3 : q = 3
  · rw [if_pos c3]; simp only; omega
  rw [if_neg c3]
  by_cases c4 : q = 4
  · rw [if_pos c4]; simp only [ByteArray.size_append, ByteArray.size_extract, k1]; omega
  rw [if_neg c4]
  by_cases c5 : q = 5
  · rw [if_pos c5]; simp only [ByteArray.size_append, ByteArray.size_extract, k2]; omega
  rw [if_neg c5]
  by_cases c6 : q = 6
  · rw [if_pos c6]; simp only [ByteArray.size_extract]; omega
  rw [if_neg c6]; simp only [ByteArray.size_extract]; omega
theorem txtB_le (s : ByteArray) : (txtB s).size ≤ 30 := by unfold txtB; rw [ByteArray.size_extract]; omega
theorem recOf_data (a : ActT) : (recOf a).2.2.2.size ≤ 600 := by
  obtain ⟨_, -, h⟩ := nmB_labels a.2.2.2.1.2.2.2
  exact dataOf_le _ _ _ h (txtB_le _)
theorem rec_cname (a : ActT) (h : (recOf a).2.1 = 5) : ∃ LS, labelsOf (recOf a).2.2.2 = some LS ∧ (recOf a).2.2.2.size ≤ 254 := by
  have h1 := dataOf_cname _ _ _ h
  have : (recOf a).2.2.2 = nmB a.2.2.2.1.2.2.2 := h1
  rw [this]
  exact nmB_labels _
theorem recOf_name (a : ActT) : (recOf a).1.size ≤ 254 := (nmB_labels a.1.2.2.2).choose_spec.2
end Go.Proofs.YtkpjehplchdmgaaDoor
namespace Go.Proofs.YtkpjehplchdmgaaDoor
open Go.RowKit
set_option linter.unusedVariables false
set_option linter.unusedSimpArgs false
set_option maxRecDepth 20000
theorem dataOf_ty9 (q : Nat) (X s : ByteArray) : (dataOf q X s).1 < 65536 := by
  unfold dataOf
  (repeat' split) <;> first | decide | (simp; done) | omega
def fit9 (r : RecT) : Prop := (0 ≤ r.2.1 ∧ r.2.1 < 65536) ∧ r.1.size ≤ 100000 ∧ r.2.2.2.size ≤ 100000
theorem fit9_soa (o : ByteArray) (ho : o.size ≤ 254) (n : Nat) : fit9 (soaR o n) := by
  refine ⟨⟨by show (0 : Int) ≤ 6; decide, by show (6 : Int) < 65536; decide⟩, Nat.le_trans ho (by decide), ?_⟩
  have hl := nameZ_len [] (by simp)
  show (soaD n).size ≤ 100000
  unfold soaD
  rw [mk_size, dataL_len9]
  simp
  omega
theorem fit9_rec (a : ActT) : fit9 (recOf a) := ⟨⟨Int.natCast_nonneg _, by
  have := dataOf_ty9 (a.2.1.toNat % 8) (nmB a.2.2.2.1.2.2.2) (txtB a.2.2.2.2)
  show ((dataOf _ _ _).1 : Int) < 65536
  omega⟩, Nat.le_trans (recOf_name a) (by decide), Nat.le_trans (recOf_data a) (by decide)⟩
theorem underN_le (o s : ByteArray) (ho : o.size ≤ 254) : (underN o s).size ≤ 254 := by
  unfold underN
  split
  · rename_i h
    unfold joinOf at h ⊢
    split
    · rename_i h2
      show (s ++ o).size ≤ 254
      rw [ByteArray.size_append]; exact h2.2.2
    · rename_i h2
      rw [if_neg h2] at h; cases h
  · exact ho
theorem fit9_under (o : ByteArray) (ho : o.size ≤ 254) (s : Bool) (a : ActT) : fit9 (underR o s a) := by
  have h := fit9_rec a
  unfold underR
  split
  · split
    · exact fit9_soa o ho _
    · exact ⟨⟨by show (0 : Int) ≤ 16; decide, by show (16 : Int) < 65536; decide⟩, Nat.le_trans ho (by decide), by show (ByteArray.mk #[1, 120]).size ≤ 100000; decide⟩
  · exact ⟨h.1, Nat.le_trans (underN_le o _ ho) (by decide), h.2.2⟩
theorem fit9_unders (o : ByteArray) (ho : o.size ≤ 254) (s : Bool) (ds : List ActT) (most : Nat) : ∀ r ∈ undersOf o s ds most, fit9 r := by
  intro r hr
  unfold undersOf at hr
  obtain ⟨a, -, rfl⟩ := List.mem_map.1 hr
  exact fit9_under o ho s a
theorem originB_le (n : Nat) : (originB n).size ≤ 254 := by
  unfold originB
  rw [mk_size]
  exact nameZ_le _ (by intro z hz; simp at hz; omega)
theorem may_fun : ∃ m : RecT → Bool, ∀ r, fit9 r → ∀ w, Calls Tryd.prog 34 #[recV r] w fun e w' => e = .returned (.bool (m r)) ∧ Below w.heap.size w w' := by
  have key : ∀ r : RecT, ∃ q : Bool, fit9 r → ∀ w, Calls Tryd.prog 34 #[recV r] w fun e w' => e = .returned (.bool q) ∧ Below w.heap.size w w' := fun r => by
    by_cases h : fit9 r
    · obtain ⟨q, hq⟩ := mayrec_any r h.1 h.2.1 h.2.2
      exact ⟨q, fun _ => hq⟩
    · exact ⟨false, fun h' => absurd h' h⟩
  exact ⟨fun r => Classical.choose (key r), fun r => Classical.choose_spec (key r)⟩
end Go.Proofs.YtkpjehplchdmgaaDoor
