/- Texts that walks stand on, one behind the other. -/
import Derived.Test.YtkdknfedieeenaaGreatDoorMgSB
import Derived.Test.YtkdknfedieeenaaGreatDoorMgSE
import Derived.Test.YtkdknfedieeenaaGreatDoorView
namespace Go.Proofs.YtkdknfedieeenaaGreatDoor
open Go.RowKit
set_option linter.unusedVariables false
/-- Operations K1 and K2 turn the world, K1 first. -/
def Seq2 (K1 K2 : Nat) (P0 P1 P2 : World → Prop) : (Nat → Bool) → (Nat → Value) → World → Prop := fun d _ w =>
  (d K1 = false ∧ d K2 = false ∧ P0 w) ∨ (d K1 = true ∧ d K2 = false ∧ P1 w) ∨ (d K1 = true ∧ d K2 = true ∧ P2 w)
section
variable {K1 K2 : Nat} {P0 P1 P2 C : World → Prop} {d : Nat → Bool} {x x' : Nat → Value} {w w' : World}
theorem Seq2.start (h : P0 w) : Seq2 K1 K2 P0 P1 P2 (fun _ => false) x w := .inl ⟨rfl, rfl, h⟩
theorem Seq2.plain (h : Seq2 K1 K2 P0 P1 P2 d x w) {i : Nat} (h1 : i ≠ K1) (h2 : i ≠ K2) : Seq2 K1 K2 P0 P1 P2 (setD d i) x' w := by
  unfold Seq2 at *
  rw [setD_ne d (Ne.symm h1), setD_ne d (Ne.symm h2)]
  exact h
theorem Seq2.goes (h : Seq2 K1 K2 P0 P1 P2 d x w) {i : Nat} (h1 : i ≠ K1) (h2 : i ≠ K2) (k0 : P0 w → P0 w') (k1 : P1 w → P1 w') (k2 : P2 w → P2 w') : Seq2 K1 K2 P0 P1 P2 (setD d i) x' w' := by
  unfold Seq2 at *
  rw [setD_ne d (Ne.symm h1), setD_ne d (Ne.symm h2)]
  rcases h with ⟨a, b, c⟩ | ⟨a, b, c⟩ | ⟨a, b, c⟩
  · exact .inl ⟨a, b, k0 c⟩
  · exact .inr (.inl ⟨a, b, k1 c⟩)
  · exact .inr (.inr ⟨a, b, k2 c⟩)
theorem Seq2.has (h : Seq2 K1 K2 P0 P1 P2 d x w) (k0 : P0 w → C w) (k1 : P1 w → C w) (k2 : P2 w → C w) : C w := by
  rcases h with ⟨a, b, c⟩ | ⟨a, b, c⟩ | ⟨a, b, c⟩
  · exact k0 c
  · exact k1 c
  · exact k2 c
theorem Seq2.at1 (h : Seq2 K1 K2 P0 P1 P2 d x w) (hd : d K1 = false) : d K2 = false ∧ P0 w := by
  rcases h with ⟨a, b, c⟩ | ⟨a, b, c⟩ | ⟨a, b, c⟩
  · exact ⟨b, c⟩
  · rw [hd] at a; cases a
  · rw [hd] at a; cases a
theorem Seq2.at2 (h : Seq2 K1 K2 P0 P1 P2 d x w) (hd : d K2 = false) (hk : d K1 = true) : P1 w := by
  rcases h with ⟨a, b, c⟩ | ⟨a, b, c⟩ | ⟨a, b, c⟩
  · rw [hk] at a; cases a
  · exact c
  · rw [hd] at b; cases b
theorem Seq2.call1 (h : Seq2 K1 K2 P0 P1 P2 d x w) (hd : d K1 = false) (hne : K1 ≠ K2) (hp : P1 w') : Seq2 K1 K2 P0 P1 P2 (setD d K1) x' w' := by
  refine .inr (.inl ⟨setD_self d K1, ?_, hp⟩)
  rw [setD_ne d (Ne.symm hne)]
  exact (h.at1 hd).1
theorem Seq2.call2 (hk : d K1 = true) (hp : P2 w') : Seq2 K1 K2 P0 P1 P2 (setD d K2) x' w' := .inr (.inr ⟨setD_le d K2 K1 hk, setD_self d K2, hp⟩)
theorem Seq2.fin (h : Seq2 K1 K2 P0 P1 P2 d x w) (h2 : d K2 = true) : P2 w := by
  rcases h with ⟨a, b, c⟩ | ⟨a, b, c⟩ | ⟨a, b, c⟩
  · rw [h2] at b; cases b
  · rw [h2] at b; cases b
  · exact c
end
theorem keep_isX (d : Nat → Bool) (K : Nat) (x : Nat → Value) (w w' : World) : ∀ (us : List Value) (k : Nat), KeepX d K x w w' k (us.map isX)
  | [], _ => trivial
  | _ :: us, k => ⟨fun _ _ h => h, keep_isX d K x w w' us (k + 1)⟩
end Go.Proofs.YtkdknfedieeenaaGreatDoor
namespace Go.Proofs.YtkdknfedieeenaaGreatDoor
open Go.RowKit
set_option linter.unusedVariables false
set_option linter.unusedSimpArgs false
set_option maxRecDepth 20000
attribute [local simp] putsF isV wordOf Deps Region.binds Region.wanted Act.put wantedX isB
theorem unskip {p : Prop} {b : Bool} (hb : b = false) : b = true → p := fun h => by rw [hb] at h; cases h
def IXp (W : World) (b : Nat) (S : IxS) (most : Nat) (wx : World) : Prop := ∃ own, IXs W W.heap.size b own S most wx
set_option maxHeartbeats 16000000 in
theorem indexNone_walk (w : World) (hL : LaidT w) (k : Int) (hk : (Lit.int .i64 k).wf = true) (n : ByteArray) (hn : n.size ≤ 140737488351232) (a : ByteArray) (ha : a.size ≤ 140737488351232) (x : Int) (hx : (Lit.int .i64 x).wf = true)
    (v : Int) (hv : (Lit.int .i64 v).wf = true) (s : ByteArray) (hs : s.size ≤ 140737488351232) :
    Calls Tryz.prog 7 #[.agg #[.int .i64 k, .string n, .string a, .int .i64 x], .int .i64 v, .string s] w fun e w' => e = .returned (.bool true) ∧ Below w.heap.size w w' := by
  obtain ⟨W0, hW0⟩ : ∃ W0, W0 = w.alloc (.cells #[.int .i64 k, .string n, .string a, .int .i64 x] 46) := ⟨_, rfl⟩
  have hc0 : Cs W0 w.heap.size [.int .i64 k, .string n, .string a, .int .i64 x] := by rw [hW0]; exact Cs.new w _ _ _
  have hb0 : Below w.heap.size w W0 := by rw [hW0]; exact (Below.refl _ _).alloc (Nat.le_refl _) _
  have haw := awake17_any W0 (hL.below hb0 (Nat.le_refl _))
  obtain ⟨T, hT⟩ : ∃ T, T = toT k n a x := ⟨_, rfl⟩
  obtain ⟨ok, hok⟩ : ∃ ok, ok = (encR T).isSome := ⟨_, rfl⟩
  obtain ⟨Z, hZ⟩ := enc_tuple (encR T)
  rw [← hok] at hZ
  obtain ⟨q1, q2, q3, q4, q5⟩ := none_words T v
  rw [← hok] at q1 q3 q4
  have henc := fun wx h => encode_any k n a x wx (by omega) (by omega) h
  rw [← hT, hZ] at henc
  obtain ⟨S1, hS1⟩ : ∃ S1, S1 = putI emptyI T v := ⟨_, rfl⟩
  obtain ⟨S2, hS2⟩ : ∃ S2, S2 = putI S1 T v := ⟨_, rfl⟩
  obtain ⟨S3, hS3⟩ : ∃ S3, S3 = delI S2 T := ⟨_, rfl⟩
  rw [← hS1] at q2 q3 q4 q5
  rw [← hS2] at q3 q4 q5
  rw [← hS3] at q5
  have hp1 : ∀ W b own wx, IXs W W.heap.size b own emptyI 0 wx → LaidT wx → Calls Tryz.prog 28 #[.pointer (some ⟨b, 0, none⟩), .agg #[.int .i64 k, .string n, .string a, .int .i64 x], .int .i64 v] wx fun e w' => e = .returned (.bool ok) ∧ IXp W b S1 1 w' := by
    intro W b own wx h hl
    refine (put_index h (by omega) k n a x v (by omega) (by omega) hl).mono ?_
    rintro e w' ⟨rfl, own', h', _, _⟩
    rw [← hT, q1]
    rw [← hT, ← hS1] at h'
    exact ⟨rfl, own', h'⟩
  have hp2 : ∀ W b own wx, IXs W W.heap.size b own S1 1 wx → LaidT wx → Calls Tryz.prog 28 #[.pointer (some ⟨b, 0, none⟩), .agg #[.int .i64 k, .string n, .string a, .int .i64 x], .int .i64 v] wx fun e w' => e = .returned (.bool false) ∧ IXp W b S2 2 w' := by
    intro W b own wx h hl
    refine (put_index h (by omega) k n a x v (by omega) (by omega) hl).mono ?_
    rintro e w' ⟨rfl, own', h', _, _⟩
    rw [← hT, q2]
    rw [← hT, ← hS2] at h'
    exact ⟨rfl, own', h'⟩
  have hdl : ∀ W b own wx, IXs W W.heap.size b own S2 2 wx → LaidT wx → Calls Tryz.prog 27 #[.pointer (some ⟨b, 0, none⟩), .agg #[.int .i64 k, .string n, .string a, .int .i64 x]] wx fun e w' => e = .returned (.bool ok) ∧ S3.len = 0 ∧ IXp W b S3 2 w' := by
    intro W b own wx h hl
    refine (del_index h (by omega) k n a x (by omega) (by omega) hl).mono ?_
    rintro e w' ⟨rfl, own', h', _, _⟩
    rw [← hT, q4]
    rw [← hT, ← hS3] at h'
    refine ⟨rfl, ?_, own', h'⟩
    cases he : encR T with
    | none => rw [hS3, delI_none he, hS2, putI_none he, hS1, putI_none he]; rfl
    | some z =>
      have h4 : (S2.val T).isSome = true := by rw [← delB_some he, q4, hok, he]; rfl
      have h5 := h.del_len h4
      rw [q3, hok, he] at h5
      rw [hS3, delI_some he]
      simpa using h5
  have hlen2 : S2.len = if ok = true then 1 else 0 := q3
  have HP1 := Lib.hid hp1
  have HP2 := Lib.hid hp2
  have HDL := Lib.hid hdl
  have HENC := Lib.hid henc
  have HLEN := Lib.hid hlen2
  have HADR := Lib.hid (q5 0 s)
  have HAW := Lib.hid haw
  have HB0 := Lib.hid hb0
  have HC0 := Lib.hid hc0
  have HL := Lib.hid hL
  have HW0 := Lib.hid hW0
  have hs' : s.size ≤ 140737488355328 := by omega
  clear hp1 hp2 hdl henc hlen2 q1 q2 q3 q4 q5 haw hb0 hc0 hL hW0 hS1 hS2 hS3 hok hZ hT hk hn ha hx hv hs
  go_enter Tryz.func7, Tryz.ntmps7
  go_wp2_with (go_at_call 24; rw [← HW0.out]; refine HAW.out.mono ?_; rintro e w1 ⟨rfl, hb1⟩; refine Hid.out ?_)
  refine Lib.hid ?_
  have HB1 := Lib.hid (HB0.out.trans (hb1.mono HB0.out.size))
  have HC1 := Lib.hid (HC0.out.below hb1)
  have HL1 := Lib.hid (HL.out.below HB1.out (Nat.le_refl _))
  clear hb1 HB0 HC0 HAW HW0
  have hI2 : IXs w1 w1.heap.size w1.heap.size [w1.heap.size] emptyI 0 (w1.alloc (.cells #[.slice none 0 0, .int .i64 0, .int .i64 0, .map none] 129)) := IXs.start (Below.refl _ _) (Nat.le_refl _)
  obtain ⟨b, hb⟩ : ∃ b, b = w1.heap.size := ⟨_, rfl⟩
  have hof := index_of w1
  obtain ⟨W2, hW2⟩ : ∃ W2, W2 = w1.alloc (.cells #[.slice none 0 0, .int .i64 0, .int .i64 0, .map none] 129) := ⟨_, rfl⟩
  rw [← hW2, ← hb] at hof
  have HI2 : Hid (IXs w1 w1.heap.size b [b] emptyI 0 W2) := Lib.hid (by rw [hb, hW2]; exact hI2)
  have HOF := Lib.hid hof
  clear hI2 hof hW2 hb
  go_wp2_with (go_at_call 25; refine HOF.out.mono ?_; rintro e w2 ⟨rfl, rfl⟩; refine Hid.out ?_)
  refine Lib.hid ?_
  have hc2 := HC1.out.below HI2.out.bel
  have y0 := hc2.get 0 (.int .i64 k)
  have y1 := hc2.get 1 (.string n)
  have y2 := hc2.get 2 (.string a)
  have y3 := hc2.get 3 (.int .i64 x)
  have HL2 := Lib.hid (HL1.out.below HI2.out.bel (Nat.le_refl _))
  clear hc2 HOF
  go_wp2_with (go_at_call 37; refine (HENC.out _ HL2.out).mono ?_; rintro e w3 ⟨rfl, hb3⟩; refine Hid.out ?_)
  refine Lib.hid ?_
  have HI3 := Lib.hid (HI2.out.below hb3)
  clear y0 y1 y2 y3 hb3 HI2 HL2 HENC
  go_upto_region 5 with fail
  refine wp_region_expR ad_follows (fun x => by simp [putsF, Act.put]; rfl) (Seq2 3 7 (IXp w1 b emptyI 0) (IXp w1 b S1 1) (IXp w1 b S2 2))
    [isX (.pointer (some ⟨b, 0, none⟩)), isX (.agg #[.int .i64 k, .string n, .string a, .int .i64 x]), isX (.int .i64 v), isX (.bool ok), isX (.pointer (some ⟨b, 0, none⟩)), isX (.agg #[.int .i64 k, .string n, .string a, .int .i64 x]), isX (.int .i64 v), isX (.bool false), isX (.bool ok), isX (.bool false)]
    [3, 7] (by kernel_rfl) (by kernel_rfl) (by kernel_rfl) rfl ?_ ?_ ?_ ?_ ?_
  · repeat (first | exact trivial | refine ⟨isX_stays _, ?_⟩)
  · exact Seq2.start ⟨_, HI3.out.below (Below.refl _ _).drew⟩
  · refine ⟨?_, ?_, ?_, skipped rfl, ?_, ?_, ?_, skipped rfl, ?_, ?_, trivial⟩
    all_goals
      intro _ d X wx hR hdi hsrc hd
      refine ⟨fun _ => ?_, fun hX => by simp at hX⟩
      have hbel : Below w1.heap.size w1 wx := hR.has (C := fun v => Below w1.heap.size w1 v) (fun ⟨_, h⟩ => h.bel) (fun ⟨_, h⟩ => h.bel) (fun ⟨_, h⟩ => h.bel)
      simp [wordX, isX] at hd ⊢
    · go_simp; exact nextXR _ rfl rfl (hR.plain (by decide) (by decide)) (Below.refl _ _)
    · have hc := HC1.out.below hbel
      have y0 := hc.get 0 (.int .i64 k)
      have y1 := hc.get 1 (.string n)
      have y2 := hc.get 2 (.string a)
      have y3 := hc.get 3 (.int .i64 x)
      clear hc
      go_simp; exact nextXR _ rfl rfl (hR.plain (by decide) (by decide)) (Below.refl _ _)
    · go_simp; exact nextXR _ rfl rfl (hR.plain (by decide) (by decide)) (Below.refl _ _)
    · go_simp; exact nextXR _ rfl rfl (hR.plain (by decide) (by decide)) (Below.refl _ _)
    · have hc := HC1.out.below hbel
      have y0 := hc.get 0 (.int .i64 k)
      have y1 := hc.get 1 (.string n)
      have y2 := hc.get 2 (.string a)
      have y3 := hc.get 3 (.int .i64 x)
      clear hc
      go_simp; exact nextXR _ rfl rfl (hR.plain (by decide) (by decide)) (Below.refl _ _)
    · go_simp; exact nextXR _ rfl rfl (hR.plain (by decide) (by decide)) (Below.refl _ _)
    · go_simp; exact nextXR _ rfl rfl (hR.plain (by decide) (by decide)) (Below.refl _ _)
    · go_simp; exact nextXR _ rfl rfl (hR.plain (by decide) (by decide)) (Below.refl _ _)
  · refine ⟨unskip rfl, unskip rfl, unskip rfl, ?_, unskip rfl, unskip rfl, unskip rfl, ?_, unskip rfl, unskip rfl, trivial⟩
    · intro _ d X wx hR hdi hcl hsrc hd
      refine ⟨fun _ => ?_, fun hX => by simp at hX⟩
      simp only [DoneX, isX] at hd
      obtain ⟨h0, h1, h2, -⟩ := hd
      have h0 := h0 (hsrc ⟨0, .data⟩ (by simp) rfl)
      have h1 := h1 (hsrc ⟨1, .data⟩ (by simp) rfl)
      have h2 := h2 (hsrc ⟨2, .data⟩ (by simp) rfl)
      simp only [show (0 + 1 : Nat) = 1 from rfl, show (0 + 1 + 1 : Nat) = 2 from rfl] at h1 h2
      obtain ⟨own, hI⟩ := (hR.at1 hdi).2
      have hlx := HL1.out.below hI.bel (Nat.le_refl _)
      dsimp only
      rw [h0, h1, h2]
      go_simp
      go_at_call 28
      refine (HP1.out _ _ _ _ hI hlx).mono ?_
      rintro e wy ⟨rfl, hpy⟩
      exact nextKR _ rfl rfl (hR.call1 hdi (by decide) hpy) (keep_isX _ _ _ _ _ [_, _, _, _, _, _, _, _, _, _] 0)
    · intro _ d X wx hR hdi hcl hsrc hd
      refine ⟨fun _ => ?_, fun hX => by simp at hX⟩
      simp only [DoneX, isX] at hd
      obtain ⟨-, -, -, -, h4, h5, h6, -⟩ := hd
      have h4 := h4 (hsrc ⟨4, .data⟩ (by simp) rfl)
      have h5 := h5 (hsrc ⟨5, .data⟩ (by simp) rfl)
      have h6 := h6 (hsrc ⟨6, .data⟩ (by simp) rfl)
      simp only [show (0 + 1 + 1 + 1 + 1 : Nat) = 4 from rfl, show (0 + 1 + 1 + 1 + 1 + 1 : Nat) = 5 from rfl, show (0 + 1 + 1 + 1 + 1 + 1 + 1 : Nat) = 6 from rfl] at h4 h5 h6
      have hd3 : d 3 = true := SrcX.reach (K := 7) hcl hsrc rfl 10 3 (by decide) (by decide +kernel)
      obtain ⟨own, hI⟩ := hR.at2 hdi hd3
      have hlx := HL1.out.below hI.bel (Nat.le_refl _)
      dsimp only
      rw [h4, h5, h6]
      go_simp
      go_at_call 28
      refine (HP2.out _ _ _ _ hI hlx).mono ?_
      rintro e wy ⟨rfl, hpy⟩
      exact nextKR _ rfl rfl (Seq2.call2 hd3 hpy) (keep_isX _ _ _ _ _ [_, _, _, _, _, _, _, _, _, _] 0)
  intro X w4 d hall hR hx
  obtain ⟨own4, hI4⟩ := hR.fin (hall 7 (by decide))
  obtain ⟨-, -, -, -, -, -, -, -, x8, x9, -⟩ := hx
  have x8 : X 8 = .bool ok := x8
  have x9 : X 9 = .bool false := x9
  rw [x8, x9]
  have HI4 := Lib.hid hI4
  clear x8 x9 hI4 hR hall HI3 HP1 HP2
  have HLE := Lib.hid (len_index HI4.out (by omega))
  go_wp2_with (go_at_call 29; refine HLE.out.mono ?_; rintro e w5 ⟨rfl, hb5⟩; refine Hid.out ?_)
  refine Lib.hid ?_
  have HI5 := Lib.hid (HI4.out.below hb5)
  clear hb5 HI4 HLE
  have hc5 := HC1.out.below HI5.out.bel
  have y0 := hc5.get 0 (.int .i64 k)
  have y1 := hc5.get 1 (.string n)
  have y2 := hc5.get 2 (.string a)
  have y3 := hc5.get 3 (.int .i64 x)
  have HDD := Lib.hid (HDL.out _ _ _ _ HI5.out (HL1.out.below HI5.out.bel (Nat.le_refl _)))
  clear hc5
  go_wp2_with (go_at_call 27; refine HDD.out.mono ?_; rintro e w6 ⟨rfl, hz, own6, hI6⟩; refine Hid.out ?_)
  refine Lib.hid ?_
  have HI6 := Lib.hid hI6
  clear y0 y1 y2 y3 hI6 HI5 HDD HDL
  have hle := len_index HI6.out (by omega)
  rw [hz] at hle
  have HLE := Lib.hid hle
  have hl2 := HLEN.out
  obtain ⟨l2, hl2e⟩ : ∃ l2, l2 = S2.len := ⟨_, rfl⟩
  rw [← hl2e] at hl2 ⊢
  clear hle hz HLEN hl2e
  have hadr := fun wx (h : Below w6.heap.size w6 wx) => addr_index (HI6.out.below h) 0 s hs'
  rw [HADR.out] at hadr
  have HAD := Lib.hid hadr
  have HB6 := Lib.hid (HB1.out.trans (HI6.out.bel.mono HB1.out.size))
  clear hadr HADR
  have hta : tripA (0, 0, ⟨#[]⟩, 0, false) = .tuple #[.int .i64 0, .agg #[.int .i64 0, .string ⟨#[]⟩, .string ⟨#[]⟩, .int .i64 0], .bool false] := rfl
  rw [hta] at HAD
  clear hta
  cases ok with
  | true =>
    simp only [if_true] at hl2
    subst hl2
    go_wp2_with (go_at_call 29; refine HLE.out.mono ?_; rintro e w7 ⟨rfl, hb7⟩; refine Hid.out ?_)
    refine Lib.hid ?_
    go_wp2_with (go_at_call 35; refine (HAD.out _ hb7).mono ?_; rintro e w8 ⟨rfl, hb8⟩; refine Hid.out ?_)
    refine Lib.hid ?_
    have HB8 := Lib.hid ((((HB6.out.trans (hb7.mono HB6.out.size)).trans (hb8.mono (Nat.le_trans HB6.out.size hb7.size))).alloc (Nat.le_trans HB6.out.size (Nat.le_trans hb7.size hb8.size)) (.cells #[.int .i64 0, .string ⟨#[]⟩, .string ⟨#[]⟩, .int .i64 0] 46)))
    clear hb7 hb8
    go_wp2_with fail
    go_ret
    exact ⟨rfl, HB8.out⟩
  | false =>
    simp only [Bool.false_eq_true, if_false] at hl2
    subst hl2
    go_wp2_with (go_at_call 29; refine HLE.out.mono ?_; rintro e w7 ⟨rfl, hb7⟩; refine Hid.out ?_)
    refine Lib.hid ?_
    go_wp2_with (go_at_call 35; refine (HAD.out _ hb7).mono ?_; rintro e w8 ⟨rfl, hb8⟩; refine Hid.out ?_)
    refine Lib.hid ?_
    have HB8 := Lib.hid ((((HB6.out.trans (hb7.mono HB6.out.size)).trans (hb8.mono (Nat.le_trans HB6.out.size hb7.size))).alloc (Nat.le_trans HB6.out.size (Nat.le_trans hb7.size hb8.size)) (.cells #[.int .i64 0, .string ⟨#[]⟩, .string ⟨#[]⟩, .int .i64 0] 46)))
    clear hb7 hb8
    go_wp2_with fail
    go_ret
    exact ⟨rfl, HB8.out⟩
end Go.Proofs.YtkdknfedieeenaaGreatDoor
