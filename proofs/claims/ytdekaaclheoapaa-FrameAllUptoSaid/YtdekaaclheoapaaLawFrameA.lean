/- The walk of FrameAll. -/
import Derived.Test.YtdekaaclheoapaaFrameE
import Derived.Test.YtdekaaclheoapaaView2
namespace Go.Proofs.Ytdekaaclheoapaa
open Go.RowKit
set_option linter.unusedVariables false
set_option linter.unusedSimpArgs false
set_option maxRecDepth 20000

theorem fa_strs : (Try.prog.info? 9).map (fun i => (i.zero, i.size, i.bytes)) = some (some (.string ⟨#[]⟩), 1, 16) := by kernel_rfl
/-- The bytes of the first rows, as far as they go into frames. -/
def cutRows (rs : List RowT) (k : Nat) : List (List UInt8) := (rs.take (min k 20)).map fun r => r.2.2.2.take 600
def flatF (ls : List (List UInt8)) : List UInt8 := ls.flatMap frameL
theorem cutRows_next {rs : List RowT} {k : Nat} (hk : k < rs.length) (h20 : k < 20) : cutRows rs (k + 1) = cutRows rs k ++ [(rs[k]).2.2.2.take 600] := by
  unfold cutRows
  rw [Nat.min_eq_left (by omega), Nat.min_eq_left (by omega), List.take_succ_eq_append_getElem hk, List.map_append]; rfl
theorem cutRows_stay {rs : List RowT} {k : Nat} (h20 : ¬ k < 20) : cutRows rs (k + 1) = cutRows rs k := by
  unfold cutRows; rw [Nat.min_eq_right (by omega), Nat.min_eq_right (by omega)]
theorem cutRows_len (rs : List RowT) (k : Nat) : (cutRows rs k).length ≤ 20 := by unfold cutRows; simp; omega
theorem cutRows_600 (rs : List RowT) (k : Nat) : ∀ x ∈ cutRows rs k, x.length ≤ 600 := by
  intro x hx
  unfold cutRows at hx
  obtain ⟨r, _, rfl⟩ := List.mem_map.1 hx
  simp; omega
theorem flatF_len : ∀ (ls : List (List UInt8)), (∀ x ∈ ls, x.length ≤ 600) → (flatF ls).length ≤ 606 * ls.length
  | [], _ => by simp [flatF]
  | x :: ls, h => by
    have h1 := flatF_len ls (fun y hy => h y (by simp [hy]))
    have h2 := h x (by simp)
    unfold flatF at *
    simp only [List.flatMap_cons, List.length_append, frameL_length, List.length_cons]; omega
theorem byteCells_bv (l : List UInt8) : byteCells ⟨l.toArray⟩ = l.map bv := by
  unfold byteCells
  simp [bv]
set_option maxHeartbeats 1200000 in
theorem frameAll_walk (w : World) (A : Option Addr) (n c : Nat) (rs : List RowT) (hV : SlView w A n c (rs.map rowV)) (hl : rs.length = n) (hr : ∀ r ∈ rs, RowOk w r) (hc : c ≤ 1048576)
    (D : Option Addr) (m d : Nat) (ys : List Int) (hV2 : SlView w D m d (ys.map (Value.int .u8))) (hl2 : ys.length = m) (hz2 : ∀ z ∈ ys, (Lit.int .u8 z).wf = true) (hd : d ≤ 1048576) :
    Calls Try.prog 12 #[.slice A n c, .slice D m d] w fun e w' => e = .returned (.bool true) ∧ Below w.heap.size w w' := by
  obtain ⟨i0, hi, hz0, hz1, hz2'⟩ := info_parts num_info
  obtain ⟨i1, hj, hy0, hy1, hy2⟩ := info_parts fa_strs
  obtain ⟨tl, hyl⟩ := bytes_of ys hz2
  rw [hyl] at hV2
  have htl : tl.length = m := by have := congrArg List.length hyl; simp at this; omega
  have hnc := hV.le
  have hmd := hV2.le
  have hSA : Sl w w.heap.size 1 A n (rs.map rowV) := hV.sl
  have hSD : Sl w w.heap.size 1 D m (tl.map bv) := hV2.sl
  have HD0 := Lib.hid hV2.none_
  have HR := Lib.hid hr
  have HLL := Lib.hid hl
  clear hyl hV hV2 hl2 hz2 hr hl
  go_enter Try.func12, Try.ntmps12
  go_wp2_with fail
  refine (awake22_any _).mono ?_
  rintro e w1 ⟨rfl, hb1⟩
  go_wp2_with fail
  go_loopw [5, 6, 21] (fun sv' wv i wr => ∃ k : Nat, k ≤ n ∧ i = .int .i64 k ∧ OB w.heap.size w sv' (flatF (cutRows rs k)).length ((flatF (cutRows rs k)).map bv) wr ∧ OB w.heap.size w wv (cutRows rs k).length ((cutRows rs k).map sv) wr ∧ (∀ g, sv'.ownBlock = some g → wv.ownBlock ≠ some g)) (fun _ _ i _ => n - (intOf i).toNat)
  case atStart => exact ⟨0, Nat.zero_le _, rfl, OB.nil hb1 hb1.size, OB.nil hb1 hb1.size, fun g h => by cases h⟩
  case round =>
    obtain ⟨k, hk, rfl, hos, how, hsep⟩ := hrel
    by_cases hlt : k < n
    · obtain ⟨g, off, u, rfl, hbb, hu, hcell⟩ := (hSA.below hos.bel).at_ hlt
      have hkl : k < rs.length := by rw [HLL.out]; exact hlt
      rw [List.getElem?_map, List.getElem?_eq_getElem hkl, Option.map_some, Option.some.injEq] at hu
      subst hu
      obtain ⟨⟨RA, rn, rc, rl⟩, hrr⟩ : ∃ r, rs[k] = r := ⟨_, rfl⟩
      have hok := HR.out _ (List.getElem_mem hkl)
      rw [hrr] at hcell hok
      obtain ⟨hrv, hrl⟩ := hok
      simp only at hrv hrl
      rw [show rowV (RA, rn, rc, rl) = .slice RA rn rc from rfl] at hcell
      have hi2 : IntKind.i64.wrap ((k : Int) + 1) = (k : Int) + 1 := IntWalk.i64_in _ (by omega)
      by_cases h20 : k < 20
      · have h20i : (k : Int) < 20 := by omega
        obtain ⟨K, hK⟩ : ∃ K, K = min rn 600 := ⟨_, rfl⟩
        have hrc := hrv.le
        have e1 : (min (rn : Int) 600).toNat = K := by omega
        have e2 : 0 ≤ min (rn : Int) 600 := by omega
        have e3 : min (rn : Int) 600 ≤ rc := by omega
        have hK6 : K ≤ 600 := by omega
        obtain ⟨lc, hlc⟩ : ∃ lc, lc = rl.take 600 := ⟨_, rfl⟩
        have hlck : lc.length = K := by rw [hlc, hK]; simp; omega
        have htk : rl.take K = lc := by
          rw [hlc, hK]
          rcases Nat.le_total rn 600 with h | h
          · rw [Nat.min_eq_left h, List.take_of_length_le (by omega), List.take_of_length_le (by omega)]
          · rw [Nat.min_eq_right h]
        have hnext := cutRows_next hkl h20
        rw [hrr] at hnext
        simp only [← hlc] at hnext
        have hS0 : Sl w w.heap.size 1 RA K (lc.map bv) := by
          have := hrv.sl.take K (by omega)
          rwa [htk] at this
        have HA0 : Hid (RA = none → K = 0) := Lib.hid (fun h => by have := hrv.none_ h; omega)
        have h20l := cutRows_len rs k
        have hfl := flatF_len _ (cutRows_600 rs k)
        obtain ⟨LS, hLS⟩ : ∃ LS, LS = cutRows rs k := ⟨_, rfl⟩
        rw [← hLS] at hos how hnext h20l hfl
        have hFsz : (ByteArray.mk (frameL lc).toArray).size = K + 6 := by rw [mk_size, frameL_length, hlck]
        have hflat : (flatF LS).map bv ++ (frameL lc).map bv = (flatF (LS ++ [lc])).map bv := by unfold flatF; simp
        have hflatl : (flatF LS).length + (K + 6) = (flatF (LS ++ [lc])).length := by unfold flatF; simp [frameL_length, hlck]
        have hbc := byteCells_bv (frameL lc)
        obtain ⟨F, eF⟩ : ∃ F : ByteArray, F = ⟨(frameL lc).toArray⟩ := ⟨_, rfl⟩
        rw [← eF] at hFsz hbc
        have HK := Lib.hid hK
        have HN := Lib.hid hnext
        have HF := Lib.hid eF
        have HFS := Lib.hid hFsz
        have HBC := Lib.hid hbc
        have HFLAT := Lib.hid (And.intro hflat hflatl)
        have hlt1 := how.lt
        have hlt2 := hos.lt
        clear hrr hlc hrl hrv htk hnext hLS hkl hFsz hflat hflatl hbc eF hK
        go_wp2_with fail
        refine (made_any RA K rc lc _ ((hS0.below hos.bel).more hos.base) (HA0.out) hK6).mono ?_
        rw [← HF.out]
        rintro e w2 ⟨rfl, hb2⟩
        have hos2 := hos.keep hb2 (Nat.le_refl _)
        have how2 := how.keep hb2 (Nat.le_refl _)
        have hs12 := hb2.size
        clear hos how hb2
        go_wp2_with (first
          | (at_builtin; refine wpList_append_ob rfl (.tmp 33) (.tmp 35) 22 9 rfl 5 i0 (.int .u8 0) 1 Try.underlying22 hi hz0 hz1 hz2' rfl hos2 rfl rfl (Src.ofString w2 Try.underlying9 F) (by rw [HFS.out]; unfold maxLen; omega) (by rw [HFS.out]; omega) ?_; intro v3 w3 hob3 hs3 hk3 hv3))
        rw [HBC.out, HFS.out, HFLAT.out.1, HFLAT.out.2] at hob3
        have how3 := how2.block (w' := w3) hob3.bel hs3 (fun g hg => hk3 g (by have := (how2.lt g hg).2; exact this) (fun e => hsep g e.symm hg))
        have hsep3 : ∀ g, v3.ownBlock = some g → u6.ownBlock ≠ some g := fun g hg hw => by
          rcases hv3 with h | h
          · exact hsep g (h ▸ hg) hw
          · rw [h] at hg
            injection hg with hg
            have := (how2.lt g hw).2
            omega
        have hcv := run_string_of (P := Try.prog) w3 22 9 5 _ RA K lc Try.underlying22 Try.underlying5 Try.underlying9 (hS0.below hob3.bel) HA0.out rc
        obtain ⟨LC, eLC⟩ : ∃ F : ByteArray, F = ⟨lc.toArray⟩ := ⟨_, rfl⟩
        rw [← eLC] at hcv
        have HLC := Lib.hid eLC
        obtain ⟨W4, hW4⟩ : ∃ W, W = w3.alloc (.cells #[.string LC] 9) := ⟨_, rfl⟩
        have how4 := how3.alloc (.cells #[.string LC] 9)
        have hos4 := hob3.alloc (.cells #[.string LC] 9)
        have hfr := Sl.fresh w3 #[.string LC] 9 1 [.string LC] rfl rfl
        rw [← hW4] at how4 hos4 hfr
        have hz4 : W4.heap.size = w3.heap.size + 1 := by rw [hW4]; simp
        have hsrc := hfr.src (P := Try.prog) (c := 1) Try.underlying74 (fun h => by cases h) (by intro u hu; simp at hu; subst hu; rfl)
        have hl3 := how3.lt
        have hl3s := hob3.lt
        clear how3 hob3 hos2 how2 hk3 hv3 hfr eLC hlt1 hlt2 hsep
        go_wp2_with fail
        rw [hcv]
        go_wp2_with (first
          | (at_builtin; rw [← hW4]; refine wpList_append_ob rfl (.tmp 37) (.tmp 40) 74 74 rfl 9 i1 (.string ⟨#[]⟩) 16 Try.underlying74 hj hy0 hy1 hy2 rfl how4 rfl rfl hsrc (by unfold maxLen; omega) (by omega) ?_; intro v5 w5 hob5 hs5 hk5 hv5))
        have hos5 := hos4.block (w' := w5) hob5.bel (by omega) (fun g hg => hk5 g (by have := (hl3s g hg).2; omega) (fun e => hsep3 g hg e.symm))
        have hsep5 : ∀ g, v3.ownBlock = some g → v5.ownBlock ≠ some g := fun g hg hw => by
          rcases hv5 with h | h
          · exact hsep3 g hg (h ▸ hw)
          · rw [h] at hw
            injection hw with hw
            have := (hl3s g hg).2
            omega
        clear hos4 how4 hk5 hv5 hsrc hW4 hcv
        go_wp2_with fail
        go_roundw
        case rel => exact ⟨k + 1, by omega, by go_num, by rw [HN.out]; exact hos5, by rw [HN.out]; simpa [sv, HLC.out] using hob5, hsep5⟩
        case measure => simp [intOf]; omega
      · have h20i : ¬ (k : Int) < 20 := by omega
        have hst := cutRows_stay (rs := rs) h20
        have HS := Lib.hid hst
        clear hst hrr hrv hrl hkl
        go_wp2_with fail
        go_roundw
        case rel => exact ⟨k + 1, by omega, by go_num, by rw [HS.out]; exact hos, by rw [HS.out]; exact how, hsep⟩
        case measure => simp [intOf]; omega
    · obtain rfl : k = n := by omega
      have h20l := cutRows_len rs k
      have h600 := cutRows_600 rs k
      have hfl := flatF_len _ h600
      obtain ⟨LS, hLS⟩ : ∃ LS, LS = cutRows rs k := ⟨_, rfl⟩
      rw [← hLS] at hos how h20l hfl h600
      have H600 := Lib.hid h600
      have hSDr : Sl wr wr.heap.size 1 D m (tl.map bv) := (hSD.below hos.bel).more hos.base
      have hlt1 := how.lt
      obtain ⟨SA, sc, rfl, hsc1, hsc2, hsc3⟩ := hos.slice3
      clear hLS h600
      cases hft : firstL tl with
      | some m0 =>
        go_wp2_with fail
        refine (cut_yes D m d tl m0 _ hSDr (fun h => (HD0.out h).1) hmd (by omega) hft).mono ?_
        rintro e w3 ⟨v1, v2, rfl, -, -, hb3⟩
        have hos3 := hos.keep hb3 (Nat.le_refl _)
        have how3 := how.keep hb3 (Nat.le_refl _)
        obtain ⟨DT, mT, dT, T, hDT⟩ : ∃ (DT : Option Addr) (mT dT : Nat) (T : List UInt8), DT = none ∧ mT = 0 ∧ dT = 0 ∧ T = [] := ⟨_, _, _, _, rfl, rfl, rfl, rfl⟩
        have hT0 : firstL T = none := by rw [hDT.2.2.2]; decide +kernel
        have hTS : ∀ wx, Below w.heap.size w wx → Src Try.prog 1 22 (.slice none 0 0) mT (T.map bv) wx := fun wx hb => by
          rw [hDT.2.1, hDT.2.2.2]; exact Src.ofNil wx Try.underlying22 0
        have hmT : mT ≤ 1048576 := by rw [hDT.2.1]; omega
        clear hDT hos how hb3 hft hSDr hlt1
        have hsN : SA = none → (flatF LS).length = 0 := fun h => by rcases hsc3 with ⟨_, h0, _⟩ | ⟨g, h1, _⟩; · exact h0
                                                                    · rw [h1] at h; cases h
        have hsl3 := hos3.sl
        have hsrc3 := hsl3.src (P := Try.prog) (c := sc) Try.underlying22 hsN (one_bytes _)
        have hob0 : OB w3.heap.size w3 (.slice none 0 0) 0 [] w3 := OB.start w3
        have hlt3 := how3.lt
        have hbs3 := hos3.bel
        have hbs3z := hos3.base
        have hflb : (flatF LS).length ≤ 12120 := by omega
        go_wp2_with (first
          | (at_builtin; refine wpList_append_ob rfl (.tmp 54) (.tmp 55) 22 22 rfl 5 i0 (.int .u8 0) 1 Try.underlying22 hi hz0 hz1 hz2' rfl hob7 rfl rfl (hTS w7 (below_trans hbs3 hbs3z hob7.bel)) (by unfold maxLen; omega) (by omega) ?_; intro v8 w8 hob8 hs8 hk8 hv8)
          | (at_builtin; refine wpList_append_ob rfl (.const (.slice none 0 0)) (.tmp 53) 22 22 rfl 5 i0 (.int .u8 0) 1 Try.underlying22 hi hz0 hz1 hz2' rfl hob0 rfl rfl hsrc3 (by unfold maxLen; omega) (by omega) ?_; intro v7 w7 hob7 hs7 hk7 hv7))
        have how7 := how3.block (w' := w7) (below_trans hbs3 hbs3z hob7.bel) hs7 (fun g hg => hk7 g (hlt3 g hg).2 (fun e => by cases e))
        have hlt7 := hob7.lt
        have how8 := how7.block (w' := w8) (below_trans hbs3 hbs3z hob8.bel) hs8 (fun g hg => hk8 g (how7.lt g hg).2 (fun e => by have := (hlt7 g e.symm).1; have := (hlt3 g hg).2; omega))
        rw [List.nil_append] at hob8
        obtain ⟨L, hL⟩ : ∃ L, L = flatF LS ++ T := ⟨_, rfl⟩
        rw [← List.map_append, ← hL] at hob8
        have hLl : L.length = (flatF LS).length + mT := by have := hob8.len; simpa using this
        have hbe : Below w.heap.size w w8 := below_trans hbs3 hbs3z hob8.bel
        obtain ⟨E, ce, rfl, hce, -, hE⟩ := hob8.slice3
        have HL := Lib.hid hL
        have hsl8 := hob8.sl
        have hE0 : E = none → 0 + (flatF LS).length + mT = 0 ∧ ce = 0 := fun h => by
          rcases hE with ⟨_, h1, h2⟩ | ⟨g, h1, _⟩
          · exact ⟨h1, h2⟩
          · rw [h1] at h; cases h
        have HT0 := Lib.hid hT0
        clear how3 how7 hob0 hob7 hk7 hv7 hk8 hv8 hs7 hs8 hlt3 hlt7 hsrc3 hsl3 hos3 hL hob8 hTS hT0
        refine (all_any E _ ce L w8 hsl8 hE0 hce (by omega)).mono ?_
        rintro e w9 ⟨va, xs, p, vs, rfl, hoba, hrows, hah, hfn⟩
        have hxs : xs = LS := Ahead.same hah.2.2 H600.out hfn HT0.out (by rw [← hah.2.1, HL.out]; rfl)
        have hp : p = (flatF LS).length := by
          have h1 := congrArg List.length hah.2.1
          rw [hxs] at h1
          have h2 := hah.1
          unfold flatF at *
          simp at h1 h2 ⊢
          omega
        subst hxs
        subst hp
        have how9 := how8.keep hoba.bel (Nat.le_refl _)
        have hb9 := below_trans hbe hbe.size hoba.bel
        obtain ⟨VA, vc, rfl, hva1, hva2, hva3⟩ := hoba.slice3
        obtain ⟨WA, wc, rfl, hwa1, hwa2, hwa3⟩ := how9.slice3
        have hslv := hoba.sl
        have hslw := how9.sl
        have hxn : xs.length ≤ 20 := by omega
        have HRW := Lib.hid hrows
        clear hah hfn hrows how8 how9 hoba HT0 hsl8 hE0 hE hbe
        go_wp2_with fail
        go_loopw [72] (fun i wx => ∃ k : Nat, k ≤ xs.length ∧ i = .int .i64 k ∧ ∃ q, wx = w9.drewN q) (fun i _ => xs.length - (intOf i).toNat)
        case atStart => exact ⟨0, Nat.zero_le _, rfl, 0, rfl⟩
        case round =>
          obtain ⟨k2, hk2, rfl, q2, rfl⟩ := hrel
          by_cases hlt2 : k2 < xs.length
          · obtain ⟨A', n', c', hget, ht⟩ := RowsIn.get k2 hlt2 HRW.out
            obtain ⟨b1, o1, u1, rfl, -, hu1, hc1⟩ := (hslv.drewN q2).at_ hlt2
            obtain ⟨b2, o2, u2, rfl, -, hu2, hc2⟩ := (hslw.drewN q2).at_ hlt2
            rw [hget, Option.some.injEq] at hu1
            subst hu1
            rw [List.getElem?_map, List.getElem?_eq_getElem hlt2, Option.map_some, Option.some.injEq] at hu2
            subst hu2
            have hcv2 := fun q => (show Txt (w9.drewN q) A' n' xs[k2] from ht).conv (P := Try.prog) 22 9 5 Try.underlying22 Try.underlying5 Try.underlying9 c'
            unfold sv at hc2
            generalize ByteArray.mk (xs[k2]).toArray = X at *
            have hc1q : ∀ q, (w9.drewN q).cell? ⟨b1, o1 + k2, none⟩ = some (.slice A' n' c') := fun _ => hc1
            have hc2q : ∀ q, (w9.drewN q).cell? ⟨b2, o2 + k2, none⟩ = some (.string X) := fun _ => hc2
            have hki : (k2 : Int) < (xs.length : Int) := by omega
            have hi2 : IntKind.i64.wrap ((k2 : Int) + 1) = (k2 : Int) + 1 := IntWalk.i64_in _ (by omega)
            clear hget ht hva3 hwa3
            go_wp2_with fail
            go_quiet (fail)
            go_wp2_with fail
            go_roundw
            case rel => exact ⟨k2 + 1, by omega, by go_num, _, rfl⟩
            case measure => simp [intOf]; omega
          · obtain rfl : k2 = xs.length := by omega
            go_wp2_with fail
            go_ret
            exact ⟨rfl, below_drewN' hb9 _⟩
      | none =>
        go_wp2_with fail
        refine (cut_none D m d tl _ hSDr (fun h => (HD0.out h).1) hmd (by omega) hft).mono ?_
        rintro e w3 ⟨rfl, kk, rfl⟩
        have hos3 := hos.drewN kk
        have how3 := how.drewN kk
        obtain ⟨w3, hw3⟩ : ∃ w3, w3 = wr.drewN kk := ⟨_, rfl⟩
        rw [← hw3] at hos3 how3 ⊢
        obtain ⟨mT, T, hDT⟩ : ∃ (mT : Nat) (T : List UInt8), mT = m ∧ T = tl := ⟨_, _, rfl, rfl⟩
        have hT0 : firstL T = none := by rw [hDT.2]; exact hft
        have hTS : ∀ wx, Below w.heap.size w wx → Src Try.prog 1 22 (.slice D m d) mT (T.map bv) wx := fun wx hb => by
          rw [hDT.1, hDT.2]; exact (hSD.below hb).src Try.underlying22 (fun h => (HD0.out h).1) (one_bytes _)
        have hmT : mT ≤ 1048576 := by rw [hDT.1]; omega
        clear hDT hos how hft hSDr hlt1 hw3
        have hsN : SA = none → (flatF LS).length = 0 := fun h => by rcases hsc3 with ⟨_, h0, _⟩ | ⟨g, h1, _⟩; · exact h0
                                                                    · rw [h1] at h; cases h
        have hsl3 := hos3.sl
        have hsrc3 := hsl3.src (P := Try.prog) (c := sc) Try.underlying22 hsN (one_bytes _)
        have hob0 : OB w3.heap.size w3 (.slice none 0 0) 0 [] w3 := OB.start w3
        have hlt3 := how3.lt
        have hbs3 := hos3.bel
        have hbs3z := hos3.base
        have hflb : (flatF LS).length ≤ 12120 := by omega
        go_wp2_with (first
          | (at_builtin; refine wpList_append_ob rfl (.tmp 54) (.tmp 55) 22 22 rfl 5 i0 (.int .u8 0) 1 Try.underlying22 hi hz0 hz1 hz2' rfl hob7 rfl rfl (hTS w7 (below_trans hbs3 hbs3z hob7.bel)) (by unfold maxLen; omega) (by omega) ?_; intro v8 w8 hob8 hs8 hk8 hv8)
          | (at_builtin; refine wpList_append_ob rfl (.const (.slice none 0 0)) (.tmp 53) 22 22 rfl 5 i0 (.int .u8 0) 1 Try.underlying22 hi hz0 hz1 hz2' rfl hob0 rfl rfl hsrc3 (by unfold maxLen; omega) (by omega) ?_; intro v7 w7 hob7 hs7 hk7 hv7))
        have how7 := how3.block (w' := w7) (below_trans hbs3 hbs3z hob7.bel) hs7 (fun g hg => hk7 g (hlt3 g hg).2 (fun e => by cases e))
        have hlt7 := hob7.lt
        have how8 := how7.block (w' := w8) (below_trans hbs3 hbs3z hob8.bel) hs8 (fun g hg => hk8 g (how7.lt g hg).2 (fun e => by have := (hlt7 g e.symm).1; have := (hlt3 g hg).2; omega))
        rw [List.nil_append] at hob8
        obtain ⟨L, hL⟩ : ∃ L, L = flatF LS ++ T := ⟨_, rfl⟩
        rw [← List.map_append, ← hL] at hob8
        have hLl : L.length = (flatF LS).length + mT := by have := hob8.len; simpa using this
        have hbe : Below w.heap.size w w8 := below_trans hbs3 hbs3z hob8.bel
        obtain ⟨E, ce, rfl, hce, -, hE⟩ := hob8.slice3
        have HL := Lib.hid hL
        have hsl8 := hob8.sl
        have hE0 : E = none → 0 + (flatF LS).length + mT = 0 ∧ ce = 0 := fun h => by
          rcases hE with ⟨_, h1, h2⟩ | ⟨g, h1, _⟩
          · exact ⟨h1, h2⟩
          · rw [h1] at h; cases h
        have HT0 := Lib.hid hT0
        clear how3 how7 hob0 hob7 hk7 hv7 hk8 hv8 hs7 hs8 hlt3 hlt7 hsrc3 hsl3 hos3 hL hob8 hTS hT0
        refine (all_any E _ ce L w8 hsl8 hE0 hce (by omega)).mono ?_
        rintro e w9 ⟨va, xs, p, vs, rfl, hoba, hrows, hah, hfn⟩
        have hxs : xs = LS := Ahead.same hah.2.2 H600.out hfn HT0.out (by rw [← hah.2.1, HL.out]; rfl)
        have hp : p = (flatF LS).length := by
          have h1 := congrArg List.length hah.2.1
          rw [hxs] at h1
          have h2 := hah.1
          unfold flatF at *
          simp at h1 h2 ⊢
          omega
        subst hxs
        subst hp
        have how9 := how8.keep hoba.bel (Nat.le_refl _)
        have hb9 := below_trans hbe hbe.size hoba.bel
        obtain ⟨VA, vc, rfl, hva1, hva2, hva3⟩ := hoba.slice3
        obtain ⟨WA, wc, rfl, hwa1, hwa2, hwa3⟩ := how9.slice3
        have hslv := hoba.sl
        have hslw := how9.sl
        have hxn : xs.length ≤ 20 := by omega
        have HRW := Lib.hid hrows
        clear hah hfn hrows how8 how9 hoba HT0 hsl8 hE0 hE hbe
        go_wp2_with fail
        go_loopw [72] (fun i wx => ∃ k : Nat, k ≤ xs.length ∧ i = .int .i64 k ∧ ∃ q, wx = w9.drewN q) (fun i _ => xs.length - (intOf i).toNat)
        case atStart => exact ⟨0, Nat.zero_le _, rfl, 0, rfl⟩
        case round =>
          obtain ⟨k2, hk2, rfl, q2, rfl⟩ := hrel
          by_cases hlt2 : k2 < xs.length
          · obtain ⟨A', n', c', hget, ht⟩ := RowsIn.get k2 hlt2 HRW.out
            obtain ⟨b1, o1, u1, rfl, -, hu1, hc1⟩ := (hslv.drewN q2).at_ hlt2
            obtain ⟨b2, o2, u2, rfl, -, hu2, hc2⟩ := (hslw.drewN q2).at_ hlt2
            rw [hget, Option.some.injEq] at hu1
            subst hu1
            rw [List.getElem?_map, List.getElem?_eq_getElem hlt2, Option.map_some, Option.some.injEq] at hu2
            subst hu2
            have hcv2 := fun q => (show Txt (w9.drewN q) A' n' xs[k2] from ht).conv (P := Try.prog) 22 9 5 Try.underlying22 Try.underlying5 Try.underlying9 c'
            unfold sv at hc2
            generalize ByteArray.mk (xs[k2]).toArray = X at *
            have hc1q : ∀ q, (w9.drewN q).cell? ⟨b1, o1 + k2, none⟩ = some (.slice A' n' c') := fun _ => hc1
            have hc2q : ∀ q, (w9.drewN q).cell? ⟨b2, o2 + k2, none⟩ = some (.string X) := fun _ => hc2
            have hki : (k2 : Int) < (xs.length : Int) := by omega
            have hi2 : IntKind.i64.wrap ((k2 : Int) + 1) = (k2 : Int) + 1 := IntWalk.i64_in _ (by omega)
            clear hget ht hva3 hwa3
            go_wp2_with fail
            go_quiet (fail)
            go_wp2_with fail
            go_roundw
            case rel => exact ⟨k2 + 1, by omega, by go_num, _, rfl⟩
            case measure => simp [intOf]; omega
          · obtain rfl : k2 = xs.length := by omega
            go_wp2_with fail
            go_ret
            exact ⟨rfl, below_drewN' hb9 _⟩
end Go.Proofs.Ytdekaaclheoapaa
