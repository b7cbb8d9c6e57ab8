/- The contracts of layer 12's helpers: Addr, bits, the document's examples. -/
import Derived.Test.YtodpaejakgjblaaDoorPfxC
import Derived.Test.YtodpaejakgjblaaDoorReg3
import Derived.Deep.DeepCutAuto
namespace Go.Proofs.YtodpaejakgjblaaDoor
open Go.RowKit
set_option linter.unusedVariables false
set_option maxRecDepth 20000

def addrN (six : Bool) : Nat := if six then 16 else 4
/-- Six bytes in a new block. -/
def six6 (g : Nat) : Value → World → Prop := fun v w => ∃ h, v = .slice (some ⟨h, 0, none⟩) 6 6 ∧ h ≠ g ∧ h < w.heap.size ∧ ∀ j, j < 6 → ∃ x : Nat, x < 256 ∧ w.cell? ⟨h, j, none⟩ = some (.int .u8 x)
def ptr6 (g : Nat) : Value → World → Prop := fun v w => ∃ h j, v = .pointer (some ⟨h, j, none⟩) ∧ h ≠ g ∧ h < w.heap.size ∧ ∃ x : Nat, x < 256 ∧ w.cell? ⟨h, j, none⟩ = some (.int .u8 x)
def some8 : Value → World → Prop := fun v _ => ∃ x : Nat, x < 256 ∧ v = .int .u8 x
theorem six6_stays (g : Nat) : ∀ v w w', six6 g v w → GoesBut g w w' → six6 g v w' := by
  rintro v w w' ⟨h, rfl, h1, h2, h3⟩ he
  exact ⟨h, rfl, h1, Nat.lt_of_lt_of_le h2 he.1, fun j hj => by rw [he.cell h2 h1]; exact h3 j hj⟩
theorem ptr6_stays (g : Nat) : ∀ v w w', ptr6 g v w → GoesBut g w w' → ptr6 g v w' := by
  rintro v w w' ⟨h, j, rfl, h1, h2, h3⟩ he
  exact ⟨h, j, rfl, h1, Nat.lt_of_lt_of_le h2 he.1, by rw [he.cell h2 h1]; exact h3⟩
theorem some8_stays (g : Nat) : ∀ v w w', some8 v w → GoesBut g w w' → some8 v w' := fun _ _ _ h _ => h

attribute [local simp] isV wordOf Deps Region.binds wantedX isB Act.put
set_option maxHeartbeats 1600000 in
set_option maxRecDepth 20000 in
theorem addr_any (six : Bool) (A : Option Addr) (n c : Nat) (l : List UInt8) (w : World) (hA : Sl w w.heap.size 1 A n (l.map bv)) (hn : n ≤ 140737488355328) :
    Calls Tryd.prog 36 #[.bool six, .slice A n c] w fun e w' => ∃ s : ByteArray, s.size = addrN six ∧ e = .returned (.string s) ∧ Below w.heap.size w w' := by
  obtain ⟨i0, hi, hi0, hi1, hi2⟩ := info_parts pfx_info
  obtain ⟨N, hN⟩ : ∃ N, N = addrN six := ⟨_, rfl⟩
  have hN2 : N = 4 ∨ N = 16 := by rw [hN]; unfold addrN; cases six <;> simp
  have HN := Lib.hid hN
  clear hN
  go_enter Tryd.func36, Tryd.ntmps36
  go_upto_if 9 with (first
    | (at_make; refine wpList_make_full _ rfl _ _ 22 rfl w.heap.size 5 i0 (.int .u8 0) 1 Tryd.underlying22 hi hi0 hi1 _ _ _ _ 4 rfl rfl (by omega) (by omega) (by rw [hi2]; omega) (by unfold maxLen; omega) (by simp) ?_; intro w1 hown1 hg1))
  rw [show (madeCells (Value.int .u8 0).cells (4 * 1)).toList = (List.replicate 4 (0 : UInt8)).map bv by rw [Nat.mul_one, List.map_replicate]; exact toList_madeCells_one _ _] at hown1
  have hob1 := OB.of_own hown1 (below_grown_none (Below.refl _ _) hg1 (Nat.le_refl _)) hg1.size
  have hz1 := hg1.size
  clear hown1 hg1
  go_cut [5] (fun v wc => ∃ g, v = .slice (some ⟨g, 0, none⟩) N N ∧ ∃ l : List UInt8, l.length = N ∧ OB w.heap.size w v N (l.map bv) wc)
  case first =>
    cases six with
    | false =>
      obtain rfl : N = 4 := HN.out
      go_wp2_with fail
      go_meet
      exact ⟨_, rfl, _, by simp, hob1⟩
    | true =>
      obtain rfl : N = 16 := HN.out
      go_wp2_with (first
        | (at_make; refine wpList_make_full _ rfl _ _ 22 rfl w.heap.size 5 i0 (.int .u8 0) 1 Tryd.underlying22 hi hi0 hi1 _ _ _ _ 16 rfl rfl (by omega) (by omega) (by rw [hi2]; omega) (by unfold maxLen; omega) (by omega) ?_; intro w2 hown2 hg2))
      rw [show (madeCells (Value.int .u8 0).cells (16 * 1)).toList = (List.replicate 16 (0 : UInt8)).map bv by rw [Nat.mul_one, List.map_replicate]; exact toList_madeCells_one _ _] at hown2
      have hob2 := OB.of_own hown2 (below_grown_none hob1.bel hg2 hob1.base) (by have := hg2.size; omega)
      go_meet
      exact ⟨_, rfl, _, by simp, hob2⟩
  case rest =>
    obtain ⟨g, rfl, l0, hl0, hob⟩ := hcut
    have hB := hob.lt g rfl
    obtain ⟨R, hR⟩ : ∃ R : World → Prop, R = fun wr => ∃ l : List UInt8, l.length = N ∧ OB w.heap.size w (.slice (some ⟨g, 0, none⟩) N N) N (l.map bv) wr := ⟨_, rfl⟩
    have HR := Lib.hid hR
    have hR0 : R wc := by rw [hR]; exact ⟨l0, hl0, hob⟩
    clear hR hob hl0 hob1 hz1
    go_wp2_with fail
    go_loopw [13] (fun i wr => ∃ k : Nat, k ≤ n ∧ i = .int .i64 k ∧ R wr) (fun i _ => n - (intOf i).toNat)
    case atStart => exact ⟨0, Nat.zero_le _, rfl, hR0⟩
    case round =>
      obtain ⟨k, hk, rfl, hr⟩ := hrel
      have hr2 := hr
      rw [HR.out] at hr2
      obtain ⟨lk, hlk, hb⟩ := hr2
      by_cases hlt : k < n
      · obtain ⟨b, off, u, rfl, hbb, hu, hc⟩ := hA.at_ hlt
        have hcell : wr.cell? ⟨b, off + k, none⟩ = some u := (hb.bel.cell (p := ⟨b, off + k, none⟩) hbb).trans hc
        rw [List.getElem?_map] at hu
        obtain ⟨yc, hyc, rfl⟩ := Option.map_eq_some_iff.1 hu
        have h8 := UInt8.toNat_lt yc
        simp only [bv] at hcell
        generalize yc.toNat = y at *
        clear hu hyc hc
        by_cases hkN : k < N
        · obtain ⟨p, hp⟩ : ∃ p, p = k * 7 % N := ⟨_, rfl⟩
          have hpN : p < N := by rw [hp]; exact Nat.mod_lt _ (by omega)
          have hm : (k : Int) * 7 % (N : Int) = (p : Int) := by rw [hp]; simp
          have hm2 : ((k : Int) * 7).tmod (N : Int) = (p : Int) := by rw [Int.tmod_eq_emod_of_nonneg (by omega)]; exact hm
          have e1 : IntKind.i64.wrap ((k : Int) * 7) = (k : Int) * 7 := IntWalk.i64_in _ (by omega)
          have e2 : IntKind.i64.wrap (p : Int) = (p : Int) := IntWalk.i64_in _ (by omega)
          have e3 : ¬ (N : Int) = 0 := by omega
          have e4 : 0 ≤ (y : Int) % 6 := by omega
          have e5 : (y : Int) % 6 < 6 := by omega
          have e6 : ((y : Int) % 6).toNat = y % 6 := by omega
          have e7 : IntKind.u8.wrap ((y : Int) % 6) = (y : Int) % 6 := by rw [IntKind.wrap_u8]; omega
          have e8 : (p : Int) < N := by omega
          have e9 : (y : Int).tmod 6 = (y : Int) % 6 := Int.tmod_eq_emod_of_nonneg (by omega)
          have hRlt : ∀ wx, R wx → g < wx.heap.size := by
            intro wx h; rw [HR.out] at h; obtain ⟨lx, _, hx⟩ := h; exact (hx.lt g rfl).2
          have hRall : ∀ wx o, R wx → R (wx.alloc o) := by
            intro wx o h; rw [HR.out] at h ⊢; obtain ⟨lx, h1, hx⟩ := h; exact ⟨lx, h1, hx.alloc o⟩
          have hRset : ∀ wx (v : Nat), v < 256 → R wx → R (wx.setCell ⟨g, p, none⟩ (.int .u8 v)) := by
            intro wx v hv h; rw [HR.out] at h ⊢; obtain ⟨lx, h1, hx⟩ := h
            refine ⟨lx.set p (UInt8.ofNat v), by simpa using h1, ?_⟩
            rw [List.map_set, show bv (UInt8.ofNat v) = .int .u8 v by unfold bv; rw [UInt8.toNat_ofNat_of_lt' (by simpa using hv)]]
            exact hx.set p hpN _
          have hRcell : ∀ wx, R wx → (∃ u, wx.cell? ⟨g, p, none⟩ = some u) ∧ wx.frozen? ⟨g, p, none⟩ = false := by
            intro wx h; rw [HR.out] at h; obtain ⟨lx, h1, hx⟩ := h
            exact ⟨⟨_, hx.cell p _ (List.getElem?_eq_getElem (by simp; omega))⟩, hx.frozen p hpN⟩
          have HRALL := Lib.hid hRall
          have HRSET := Lib.hid hRset
          have HRLT := Lib.hid hRlt
          have HRCELL := Lib.hid hRcell
          clear hb hlk hp hRlt hRall hRset hRcell
          go_upto_region 8 with fail
          refine wp_region_ext pfx_follows (fun x => by simp [putsF, Act.put]; rfl) R (GoesBut g)
            [isV (.slice (some ⟨g, 0, none⟩) N N), isV (.int .i64 k), isV (.int .i64 (k * 7)), isV (.slice (some ⟨g, 0, none⟩) N N), isV (.int .i64 N), isV (.int .i64 p), isV (.int .u8 y), six6 g, isV (.int .u8 y), isV (.int .u8 ((y : Int) % 6)), ptr6 g, some8, isV (.pointer (some ⟨g, p, none⟩)), fun _ _ => True]
            (by kernel_rfl) (by kernel_rfl) (by kernel_rfl) rfl ?_ (GoesBut.refl g) ?_ ?_ ?_
          · refine ⟨isV_stayX _ _, isV_stayX _ _, isV_stayX _ _, isV_stayX _ _, isV_stayX _ _, isV_stayX _ _, isV_stayX _ _, six6_stays g, isV_stayX _ _, isV_stayX _ _, ptr6_stays g, some8_stays g, isV_stayX _ _, fun _ _ _ _ _ => trivial, trivial⟩
          · have hr2 := hr
            rw [HR.out] at hr2 ⊢
            obtain ⟨lk, hlk, hb⟩ := hr2
            exact ⟨lk, hlk, hb.drew⟩
          · refine ⟨?_, ?_, ?_, ?_, ?_, ?_, ?_, ?_, ?_, ?_, ?_, ?_, ?_, ?_, trivial⟩
            all_goals
              intro x wx hRx hd
              simp at hd ⊢
            all_goals try simp [hd]
            all_goals try (go_simp; exact next_of _ rfl rfl hRx (GoesBut.refl g wx))
            · obtain ⟨hd0, hd1⟩ := hd
              have e3' : ¬ N = 0 := by omega
              go_simp
              exact next_of _ rfl rfl hRx (GoesBut.refl g wx)
            · have hlt2 := HRLT.out wx hRx
              go_simp
              refine next_of _ rfl ⟨wx.heap.size, rfl, by omega, by simp, ?_⟩ (HRALL.out wx _ hRx) (GoesBut.alloc g wx _)
              intro j hj
              have hj6 : j = 0 ∨ j = 1 ∨ j = 2 ∨ j = 3 ∨ j = 4 ∨ j = 5 := by omega
              rcases hj6 with rfl | rfl | rfl | rfl | rfl | rfl
              · exact ⟨0, by omega, by simp⟩
              · exact ⟨1, by omega, by simp⟩
              · exact ⟨128, by omega, by simp⟩
              · exact ⟨255, by omega, by simp⟩
              · exact ⟨192, by omega, by simp⟩
              · exact ⟨y, h8, by simp⟩
            · obtain ⟨⟨h, hx7, h1, h2, h3⟩, hd1⟩ := hd
              go_simp
              refine next_of _ rfl ⟨h, y % 6, rfl, h1, h2, ?_⟩ hRx (GoesBut.refl g wx)
              exact h3 _ (by omega)
            · obtain ⟨h, j, hx10, h1, h2, v, hv, hc⟩ := hd
              go_simp
              exact next_of (p := some8) (.int .u8 v) rfl ⟨v, hv, rfl⟩ hRx (GoesBut.refl g wx)
            · obtain ⟨hd0, ⟨v, hv, hx11⟩, -⟩ := hd
              obtain ⟨⟨u, hu⟩, hf⟩ := HRCELL.out wx hRx
              go_simp
              exact next_of undef rfl trivial (HRSET.out wx v hv hRx) (GoesBut.set g p wx _)
          intro x w3 hr3 hx
          simp [AllWords] at hx ⊢
          clear hx
          go_wp2_with fail
          go_roundw
          case rel => exact ⟨k + 1, by omega, by go_num, hr3⟩
          case measure => simp [intOf]; omega
        · go_wp2_with fail
          go_roundw
          case rel => exact ⟨k + 1, by omega, by go_num, hr⟩
          case measure => simp [intOf]; omega
      · obtain rfl : k = n := by omega
        have hst := run_string_of (P := Tryd.prog) wr 22 9 5 _ _ N lk Tryd.underlying22 Tryd.underlying5 Tryd.underlying9 hb.sl (by intro h; cases h) N
        obtain ⟨C, eC⟩ : ∃ C : ByteArray, C = ⟨lk.toArray⟩ := ⟨_, rfl⟩
        rw [← eC] at hst
        have hCs : C.size = addrN six := by rw [eC, mk_size, hlk, HN.out]
        have HCS := Lib.hid hCs
        have hbel := hb.bel
        clear hb eC hCs hlk hr
        go_wp2_with fail
        go_ret
        exact ⟨C, HCS.out, rfl, hbel⟩
end Go.Proofs.YtodpaejakgjblaaDoor
