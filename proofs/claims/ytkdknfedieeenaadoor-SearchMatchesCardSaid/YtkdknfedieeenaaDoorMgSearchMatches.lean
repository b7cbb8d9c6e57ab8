/- Texts that walks stand on, one behind the other. -/
import Derived.Test.YtkdknfedieeenaaDoorMgSC
import Derived.Test.YtkdknfedieeenaaDoorPfxC
import Derived.Test.YtkdknfedieeenaaDoorMgSA
import Derived.Deep.DeepCutAuto
import Derived.WalkArith
import Derived.Test.YtkdknfedieeenaaDoorMgSB
import Derived.Test.YtkdknfedieeenaaDoorCs
import Derived.LoopN
import Derived.Test.YtkdknfedieeenaaDoorSrM
import Derived.Test.YtkdknfedieeenaaDoorView5
namespace Go.Proofs.YtkdknfedieeenaaDoor
set_option linter.unusedVariables false

theorem dig_ok : ∀ k : Fin 16, isUp (dig k.val) = false := by decide +kernel
theorem digsF_ok (b : Nat) (hb : 2 ≤ b ∧ b ≤ 16) : ∀ (f n : Nat), n < b ^ (f + 1) → (digsF f b n).all (fun c => !isUp c) = true
  | 0, n, h => by
    have hn : n < 16 := by rw [Nat.zero_add, Nat.pow_one] at h; omega
    have := dig_ok ⟨n, hn⟩
    simp only at this
    simp [digsF, this]
  | f + 1, n, h => by
    rw [digsF]
    split
    · have hn : n < 16 := by omega
      have := dig_ok ⟨n, hn⟩
      simp only at this
      simp [this]
    · have h1 := digsF_ok b hb f (n / b) (Nat.div_lt_of_lt_mul (by rw [Nat.mul_comm]; rw [Nat.pow_succ] at h; exact h))
      have h2 : n % b < 16 := by have := Nat.mod_lt n (show 0 < b by omega); omega
      have := dig_ok ⟨n % b, h2⟩
      simp only at this
      rw [List.all_append, h1]
      simp [this]
theorem digs_label {f b n : Nat} (hb : 2 ≤ b ∧ b ≤ 16) (h : n < b ^ (f + 1)) (hf : f ≤ 3) : okLabel (digsF f b n) = true ∧ (digsF f b n).length ≤ 4 := by
  have h1 := digsF_len f b n
  have h2 : 1 ≤ (digsF f b n).length := List.length_pos_iff.2 (digsF_ne f b n)
  refine ⟨?_, by omega⟩
  unfold okLabel
  rw [digsF_ok b hb f n h]
  simp; omega
theorem dec_label {n : Nat} (h : n < 256) : okLabel (dec n) = true ∧ (dec n).length ≤ 4 := digs_label (by omega) (by omega) (by omega)
theorem hex_label {n : Nat} (h : n < 65536) : okLabel (hex n) = true ∧ (hex n).length ≤ 4 := digs_label (by omega) (by omega) (by omega)
theorem prefix_labels {a : List UInt8} {bits : Int} : ∀ x ∈ prefixR a bits, okLabel x = true ∧ x.length ≤ 4 := by
  intro y hy
  unfold prefixR at hy
  split at hy
  · rename_i hm
    obtain ⟨h1, h2, h3⟩ := isCut_four (mayP_cut hm)
    unfold prefixL at hy
    simp only [List.mem_cons, List.mem_reverse] at hy
    rcases hy with rfl | hy
    · exact dec_label (by rcases h1 with h1 | h1 <;> rw [h1] at h3 <;> omega)
    · unfold body at hy
      split at hy
      · unfold body6 at hy
        obtain ⟨o, _, rfl⟩ := List.mem_map.1 hy
        cases o with
        | none => exact ⟨show okLabel zz = true by decide, show zz.length ≤ 4 by decide⟩
        | some k =>
          refine hex_label ?_
          rw [List.getD_eq_getElem?_getD]
          rcases Nat.lt_or_ge k (wordsL a).length with hk | hk
          · rw [List.getElem?_eq_getElem hk]; exact wordsL_lt a _ (List.getElem_mem hk)
          · rw [List.getElem?_eq_none hk]; simp
      · obtain ⟨c, _, rfl⟩ := List.mem_map.1 hy
        exact dec_label c.toNat_lt
  · cases hy
theorem short_wire : ∀ (ls : List (List UInt8)) (m : Nat), (∀ x ∈ ls, x.length ≤ m) → (wire ls).length ≤ (m + 1) * ls.length
  | [], _, _ => by simp [wire]
  | l :: ls, m, h => by
    have h1 := short_wire ls m (fun x hx => h x (by simp [hx]))
    have h2 := h l (by simp)
    rw [wire_cons]
    simp only [List.length_append, List.length_cons]
    rw [Nat.mul_add]
    omega
/-- A trigger whose labels are a name's, and are read as it. -/
structure GoodT (t : Trig) : Prop where
  ok : OkLs (labT t)
  ne : labT t ≠ []
  dec : decL (labT t) = some t
theorem GoodT.enc {t : Trig} (h : GoodT t) : encR t = some (wire (labT t)) := enc_of_dec h.ok h.ne h.dec
theorem GoodT.dec' {t : Trig} (h : GoodT t) : decR (wire (labT t)) = some t := dec_enc h.enc
theorem GoodT.labels {t : Trig} (h : GoodT t) : nameLabels (wire (labT t)) = some (labT t) := h.ok.labels
theorem getLastD_snoc {α : Type} (l : List α) (x d : α) : (l ++ [x]).getLastD d = x := by rw [List.getLastD_eq_getLast?]; simp
theorem good_pfx {k : Int} {a : List UInt8} {bits : Int} (hm : mayP a bits = true) (hk : k = 0 ∨ k = 3 ∨ k = 6) : GoodT ⟨k, [], a, bits⟩ := by
  obtain ⟨c, hc, hck, hl⟩ : ∃ c, (c = cClient ∨ c = cAnswer ∨ c = cNsip) ∧ kindOf c = some k ∧ labT ⟨k, [], a, bits⟩ = prefixR a bits ++ [c] := by
    rcases hk with rfl | rfl | rfl
    · exact ⟨cClient, .inl rfl, rfl, rfl⟩
    · exact ⟨cAnswer, .inr (.inl rfl), rfl, rfl⟩
    · exact ⟨cNsip, .inr (.inr rfl), rfl, rfl⟩
  have hcl : okLabel c = true ∧ c.length ≤ 13 := by rcases hc with rfl | rfl | rfl <;> decide
  have hpl := prefixR_len a bits
  refine ⟨?_, ?_, ?_⟩
  · rw [hl]
    refine ⟨?_, ?_⟩
    · intro x hx
      simp only [List.mem_append, List.mem_cons, List.not_mem_nil, or_false] at hx
      rcases hx with hx | rfl
      · exact (prefix_labels x hx).1
      · exact hcl.1
    · rw [wire_append, List.length_append]
      have h1 := short_wire (prefixR a bits) 4 (fun x hx => (prefix_labels x hx).2)
      have h2 := short_wire [c] 13 (by intro x hx; simp at hx; subst hx; exact hcl.2)
      simp only [List.length_cons, List.length_nil] at h2
      omega
  · rw [hl]; simp
  · rw [hl]
    unfold decL
    rw [getLastD_snoc, hck, List.dropLast_concat]
    simp only
    rw [if_neg (by rcases hk with rfl | rfl | rfl <;> decide), addr_prefix hm]
    rfl
def five : List (List UInt8) := [[97], [98], [119, 119, 119], [101, 120], [111, 114, 103]]
theorem five_ok : ∀ x ∈ five, okLabel x = true ∧ x ≠ star ∧ kindOf x = none ∧ x.length ≤ 3 := by decide
/-- Labels of the five, five at most. -/
structure FewX (X : List (List UInt8)) : Prop where
  mem : ∀ x ∈ X, x ∈ five
  len : X.length ≤ 5
theorem FewX.ok {X : List (List UInt8)} (h : FewX X) : OkLs X := by
  refine ⟨fun x hx => (five_ok x (h.mem x hx)).1, ?_⟩
  have := short_wire X 3 (fun x hx => (five_ok x (h.mem x hx)).2.2.2)
  have := h.len
  omega
theorem FewX.name {X : List (List UInt8)} (h : FewX X) : nameLabels ((makeL X).getD []) = some X := by rw [h.ok.make]; exact h.ok.labels
theorem FewX.more {X : List (List UInt8)} (h : FewX X) (p q : List (List UInt8)) (hp : ∀ x ∈ p ++ q, okLabel x = true ∧ x.length ≤ 20) (hl : (p ++ q).length ≤ 2) : OkLs (p ++ (X ++ q)) := by
  refine ⟨?_, ?_⟩
  · intro x hx
    simp only [List.mem_append] at hx
    rcases hx with hx | hx | hx
    · exact (hp x (by simp [hx])).1
    · exact (five_ok x (h.mem x hx)).1
    · exact (hp x (by simp [hx])).1
  · rw [wire_append, wire_append]
    have h1 := short_wire X 3 (fun x hx => (five_ok x (h.mem x hx)).2.2.2)
    have h2 := short_wire p 20 (fun x hx => (hp x (by simp [hx])).2)
    have h3 := short_wire q 20 (fun x hx => (hp x (by simp [hx])).2)
    have := h.len
    simp only [List.length_append] at hl ⊢
    omega
theorem good_name {k : Int} {X : List (List UInt8)} (h : FewX X) (hk : k = 1 ∨ k = 2 ∨ k = 4 ∨ k = 5) (hne : k = 1 ∨ k = 4 → X ≠ []) : GoodT ⟨k, (makeL X).getD [], [], 0⟩ := by
  have hn := h.name
  have hns : ∀ x r, X = x :: r → x ≠ star := fun x r e => (five_ok x (h.mem x (by rw [e]; simp))).2.1
  have hX : ∀ e d : Int, X ≠ [] → namedR X e d = some ⟨e, (makeL X).getD [], [], 0⟩ := by
    intro e d hX
    cases X with
    | nil => exact absurd rfl hX
    | cons x r => unfold namedR; simp only [if_neg (hns x r rfl)]
  have hS : ∀ e d : Int, namedR (star :: X) e d = some ⟨d, (makeL X).getD [], [], 0⟩ := fun e d => by simp only [namedR]; rfl
  have hlast : X ≠ [] → kindOf (X.getLastD []) = none := by
    intro hX
    have : X.getLastD [] ∈ X := by
      have := last_split [] hX
      rw [this]; simp
    exact (five_ok _ (h.mem _ this)).2.2.1
  rcases hk with rfl | rfl | rfl | rfl
  · have hl : labT ⟨1, (makeL X).getD [], [], 0⟩ = X := by show (nameLabels _).getD [] = X; rw [hn]; rfl
    have hX' := hne (.inl rfl)
    refine ⟨by rw [hl]; exact h.ok, by rw [hl]; exact hX', ?_⟩
    rw [hl]; unfold decL; rw [hlast hX']; exact hX 1 2 hX'
  · have hl : labT ⟨2, (makeL X).getD [], [], 0⟩ = star :: X := by show star :: (nameLabels _).getD [] = _; rw [hn]; rfl
    refine ⟨?_, by rw [hl]; simp, ?_⟩
    · rw [hl]
      have := h.more [star] [] (by decide) (by decide)
      simpa using this
    · rw [hl]; unfold decL
      have : kindOf ((star :: X).getLastD []) = none := by
        by_cases hX' : X = []
        · subst hX'; decide
        · have e : (star :: X).getLastD [] = X.getLastD [] := by
            cases X with
            | nil => exact absurd rfl hX'
            | cons x r => rfl
          rw [e]; exact hlast hX'
      rw [this]; exact hS 1 2
  · have hl : labT ⟨4, (makeL X).getD [], [], 0⟩ = X ++ [cNsname] := by show (nameLabels _).getD [] ++ [cNsname] = _; rw [hn]; rfl
    have hX' := hne (.inr rfl)
    refine ⟨?_, by rw [hl]; simp, ?_⟩
    · rw [hl]
      have := h.more [] [cNsname] (by decide) (by decide)
      simpa using this
    · rw [hl]; unfold decL
      rw [getLastD_snoc, show kindOf cNsname = some 4 from rfl, List.dropLast_concat]
      exact hX 4 5 hX'
  · have hl : labT ⟨5, (makeL X).getD [], [], 0⟩ = star :: (X ++ [cNsname]) := by show star :: ((nameLabels _).getD [] ++ [cNsname]) = _; rw [hn]; rfl
    refine ⟨?_, by rw [hl]; simp, ?_⟩
    · rw [hl]
      have := h.more [star] [cNsname] (by decide) (by decide)
      simpa using this
    · rw [hl]; unfold decL
      rw [show star :: (X ++ [cNsname]) = (star :: X) ++ [cNsname] by rfl, getLastD_snoc, show kindOf cNsname = some 4 from rfl, List.dropLast_concat]
      exact hS 4 5
end Go.Proofs.YtkdknfedieeenaaDoor
namespace Go.Proofs.YtkdknfedieeenaaDoor
open Go.RowKit
set_option linter.unusedVariables false
set_option maxRecDepth 20000

def ex13a : List (List UInt8) := [[50, 52], [48], [50], [48], [49, 57, 50], cAnswer]
def ex13b : List (List UInt8) := [[51, 50], [122, 122], [49], [50, 48, 48, 49], cClient]
theorem ex13a_dec : decR ((makeL ex13a).getD []) = some ⟨3, [], [192, 0, 2, 0], 24⟩ := by decide +kernel
theorem ex13b_dec : decR ((makeL ex13b).getD []) = some ⟨0, [], [32, 1, 0, 1, 0, 0, 0, 0, 0, 0, 0, 0, 0, 0, 0, 0], 32⟩ := by decide +kernel

end Go.Proofs.YtkdknfedieeenaaDoor
namespace Go.Proofs.YtkdknfedieeenaaDoor
open Go.RowKit
set_option linter.unusedVariables false
set_option maxRecDepth 20000

def addrN (six : Bool) : Nat := if six then 16 else 4
/-- Six bytes in a new block. -/
def six6 (g : Nat) : Value → World → Prop := fun v w => ∃ h, v = .slice (some ⟨h, 0, none⟩) 6 6 ∧ h ≠ g ∧ h < w.heap.size ∧ ∀ j, j < 6 → ∃ x : Nat, x < 256 ∧ w.cell? ⟨h, j, none⟩ = some (.int .u8 x)
def ptr6 (g : Nat) : Value → World → Prop := fun v w => ∃ h j, v = .pointer (some ⟨h, j, none⟩) ∧ h ≠ g ∧ h < w.heap.size ∧ ∃ x : Nat, x < 256 ∧ w.cell? ⟨h, j, none⟩ = some (.int .u8 x)
def some8 : Value → World → Prop := fun v _ => ∃ x : Nat, x < 256 ∧ v = .int .u8 x
theorem six6_stays (g : Nat) : ∀ v w w', six6 g v w → GoesBut g w w' → six6 g v w' := by
  rintro v w w' ⟨h, rfl, h1, h2, h3⟩ he
  exact ⟨h, rfl, h1, Nat.lt_of_lt_of_le h2 he.1, fun j hj => by rw [he.cell h2 h1]; exact h3 j hj⟩
theorem ptr6_stays (g : Nat) : ∀ v w w', ptr6 g v w → GoesBut g w w' → ptr6 g v w' := by
  rintro v w w' ⟨h, j, rfl, h1, h2, h3⟩ he
  exact ⟨h, j, rfl, h1, Nat.lt_of_lt_of_le h2 he.1, by rw [he.cell h2 h1]; exact h3⟩
theorem some8_stays (g : Nat) : ∀ v w w', some8 v w → GoesBut g w w' → some8 v w' := fun _ _ _ h _ => h

attribute [local simp] isV wordOf Deps Region.binds wantedX isB Act.put
set_option maxHeartbeats 1600000 in
set_option maxRecDepth 20000 in
theorem addr_any (six : Bool) (A : Option Addr) (n c : Nat) (l : List UInt8) (w : World) (hA : Sl w w.heap.size 1 A n (l.map bv)) (hn : n ≤ 140737488355328) :
    Calls Tryd.prog 13 #[.bool six, .slice A n c] w fun e w' => ∃ s : ByteArray, s.size = addrN six ∧ e = .returned (.string s) ∧ Below w.heap.size w w' := by
  obtain ⟨i0, hi, hi0, hi1, hi2⟩ := info_parts pfx_info
  obtain ⟨N, hN⟩ : ∃ N, N = addrN six := ⟨_, rfl⟩
  have hN2 : N = 4 ∨ N = 16 := by rw [hN]; unfold addrN; cases six <;> simp
  have HN := Lib.hid hN
  clear hN
  go_enter Tryd.func13, Tryd.ntmps13
  go_upto_if 9 with (first
    | (at_make; refine wpList_make_full _ rfl _ _ 22 rfl w.heap.size 5 i0 (.int .u8 0) 1 Tryd.underlying22 hi hi0 hi1 _ _ _ _ 4 rfl rfl (by omega) (by omega) (by rw [hi2]; omega) (by unfold maxLen; omega) (by simp) ?_; intro w1 hown1 hg1))
  rw [show (madeCells (Value.int .u8 0).cells (4 * 1)).toList = (List.replicate 4 (0 : UInt8)).map bv by rw [Nat.mul_one, List.map_replicate]; exact toList_madeCells_one _ _] at hown1
  have hob1 := OB.of_own hown1 (below_grown_none (Below.refl _ _) hg1 (Nat.le_refl _)) hg1.size
  have hz1 := hg1.size
  clear hown1 hg1
  go_cut [5] (fun v wc => ∃ g, v = .slice (some ⟨g, 0, none⟩) N N ∧ ∃ l : List UInt8, l.length = N ∧ OB w.heap.size w v N (l.map bv) wc)
  case first =>
    cases six with
    | false =>
      obtain rfl : N = 4 := HN.out
      go_wp2_with fail
      go_meet
      exact ⟨_, rfl, _, by simp, hob1⟩
    | true =>
      obtain rfl : N = 16 := HN.out
      go_wp2_with (first
        | (at_make; refine wpList_make_full _ rfl _ _ 22 rfl w.heap.size 5 i0 (.int .u8 0) 1 Tryd.underlying22 hi hi0 hi1 _ _ _ _ 16 rfl rfl (by omega) (by omega) (by rw [hi2]; omega) (by unfold maxLen; omega) (by omega) ?_; intro w2 hown2 hg2))
      rw [show (madeCells (Value.int .u8 0).cells (16 * 1)).toList = (List.replicate 16 (0 : UInt8)).map bv by rw [Nat.mul_one, List.map_replicate]; exact toList_madeCells_one _ _] at hown2
      have hob2 := OB.of_own hown2 (below_grown_none hob1.bel hg2 hob1.base) (by have := hg2.size; omega)
      go_meet
      exact ⟨_, rfl, _, by simp, hob2⟩
  case rest =>
    obtain ⟨g, rfl, l0, hl0, hob⟩ := hcut
    have hB := hob.lt g rfl
    obtain ⟨R, hR⟩ : ∃ R : World → Prop, R = fun wr => ∃ l : List UInt8, l.length = N ∧ OB w.heap.size w (.slice (some ⟨g, 0, none⟩) N N) N (l.map bv) wr := ⟨_, rfl⟩
    have HR := Lib.hid hR
    have hR0 : R wc := by rw [hR]; exact ⟨l0, hl0, hob⟩
    clear hR hob hl0 hob1 hz1
    go_wp2_with fail
    go_loopw [13] (fun i wr => ∃ k : Nat, k ≤ n ∧ i = .int .i64 k ∧ R wr) (fun i _ => n - (intOf i).toNat)
    case atStart => exact ⟨0, Nat.zero_le _, rfl, hR0⟩
    case round =>
      obtain ⟨k, hk, rfl, hr⟩ := hrel
      have hr2 := hr
      rw [HR.out] at hr2
      obtain ⟨lk, hlk, hb⟩ := hr2
      by_cases hlt : k < n
      · obtain ⟨b, off, u, rfl, hbb, hu, hc⟩ := hA.at_ hlt
        have hcell : wr.cell? ⟨b, off + k, none⟩ = some u := (hb.bel.cell (p := ⟨b, off + k, none⟩) hbb).trans hc
        rw [List.getElem?_map] at hu
        obtain ⟨yc, hyc, rfl⟩ := Option.map_eq_some_iff.1 hu
        have h8 := UInt8.toNat_lt yc
        simp only [bv] at hcell
        generalize yc.toNat = y at *
        clear hu hyc hc
        by_cases hkN : k < N
        · obtain ⟨p, hp⟩ : ∃ p, p = k * 7 % N := ⟨_, rfl⟩
          have hpN : p < N := by rw [hp]; exact Nat.mod_lt _ (by omega)
          have hm : (k : Int) * 7 % (N : Int) = (p : Int) := by rw [hp]; simp
          have hm2 : ((k : Int) * 7).tmod (N : Int) = (p : Int) := by rw [Int.tmod_eq_emod_of_nonneg (by omega)]; exact hm
          have e1 : IntKind.i64.wrap ((k : Int) * 7) = (k : Int) * 7 := IntWalk.i64_in _ (by omega)
          have e2 : IntKind.i64.wrap (p : Int) = (p : Int) := IntWalk.i64_in _ (by omega)
          have e3 : ¬ (N : Int) = 0 := by omega
          have e4 : 0 ≤ (y : Int) % 6 := by omega
          have e5 : (y : Int) % 6 < 6 := by omega
          have e6 : ((y : Int) % 6).toNat = y % 6 := by omega
          have e7 : IntKind.u8.wrap ((y : Int) % 6) = (y : Int) % 6 := by rw [IntKind.wrap_u8]; omega
          have e8 : (p : Int) < N := by omega
          have e9 : (y : Int).tmod 6 = (y : Int) % 6 := Int.tmod_eq_emod_of_nonneg (by omega)
          have hRlt : ∀ wx, R wx → g < wx.heap.size := by
            intro wx h; rw [HR.out] at h; obtain ⟨lx, _, hx⟩ := h; exact (hx.lt g rfl).2
          have hRall : ∀ wx o, R wx → R (wx.alloc o) := by
            intro wx o h; rw [HR.out] at h ⊢; obtain ⟨lx, h1, hx⟩ := h; exact ⟨lx, h1, hx.alloc o⟩
          have hRset : ∀ wx (v : Nat), v < 256 → R wx → R (wx.setCell ⟨g, p, none⟩ (.int .u8 v)) := by
            intro wx v hv h; rw [HR.out] at h ⊢; obtain ⟨lx, h1, hx⟩ := h
            refine ⟨lx.set p (UInt8.ofNat v), by simpa using h1, ?_⟩
            rw [List.map_set, show bv (UInt8.ofNat v) = .int .u8 v by unfold bv; rw [UInt8.toNat_ofNat_of_lt' (by simpa using hv)]]
            exact hx.set p hpN _
          have hRcell : ∀ wx, R wx → (∃ u, wx.cell? ⟨g, p, none⟩ = some u) ∧ wx.frozen? ⟨g, p, none⟩ = false := by
            intro wx h; rw [HR.out] at h; obtain ⟨lx, h1, hx⟩ := h
            exact ⟨⟨_, hx.cell p _ (List.getElem?_eq_getElem (by simp; omega))⟩, hx.frozen p hpN⟩
          have HRALL := Lib.hid hRall
          have HRSET := Lib.hid hRset
          have HRLT := Lib.hid hRlt
          have HRCELL := Lib.hid hRcell
          clear hb hlk hp hRlt hRall hRset hRcell
          go_upto_region 8 with fail
          refine wp_region_ext pfx_follows (fun x => by simp [putsF, Act.put]; rfl) R (GoesBut g)
            [isV (.slice (some ⟨g, 0, none⟩) N N), isV (.int .i64 k), isV (.int .i64 (k * 7)), isV (.slice (some ⟨g, 0, none⟩) N N), isV (.int .i64 N), isV (.int .i64 p), isV (.int .u8 y), six6 g, isV (.int .u8 y), isV (.int .u8 ((y : Int) % 6)), ptr6 g, some8, isV (.pointer (some ⟨g, p, none⟩)), fun _ _ => True]
            (by kernel_rfl) (by kernel_rfl) (by kernel_rfl) rfl ?_ (GoesBut.refl g) ?_ ?_ ?_
          · refine ⟨isV_stayX _ _, isV_stayX _ _, isV_stayX _ _, isV_stayX _ _, isV_stayX _ _, isV_stayX _ _, isV_stayX _ _, six6_stays g, isV_stayX _ _, isV_stayX _ _, ptr6_stays g, some8_stays g, isV_stayX _ _, fun _ _ _ _ _ => trivial, trivial⟩
          · have hr2 := hr
            rw [HR.out] at hr2 ⊢
            obtain ⟨lk, hlk, hb⟩ := hr2
            exact ⟨lk, hlk, hb.drew⟩
          · refine ⟨?_, ?_, ?_, ?_, ?_, ?_, ?_, ?_, ?_, ?_, ?_, ?_, ?_, ?_, trivial⟩
            all_goals
              intro x wx hRx hd
              simp at hd ⊢
            all_goals try simp [hd]
            all_goals try (go_simp; exact next_of _ rfl rfl hRx (GoesBut.refl g wx))
            · obtain ⟨hd0, hd1⟩ := hd
              have e3' : ¬ N = 0 := by omega
              go_simp
              exact next_of _ rfl rfl hRx (GoesBut.refl g wx)
            · have hlt2 := HRLT.out wx hRx
              go_simp
              refine next_of _ rfl ⟨wx.heap.size, rfl, by omega, by simp, ?_⟩ (HRALL.out wx _ hRx) (GoesBut.alloc g wx _)
              intro j hj
              have hj6 : j = 0 ∨ j = 1 ∨ j = 2 ∨ j = 3 ∨ j = 4 ∨ j = 5 := by omega
              rcases hj6 with rfl | rfl | rfl | rfl | rfl | rfl
              · exact ⟨0, by omega, by simp⟩
              · exact ⟨1, by omega, by simp⟩
              · exact ⟨128, by omega, by simp⟩
              · exact ⟨255, by omega, by simp⟩
              · exact ⟨192, by omega, by simp⟩
              · exact ⟨y, h8, by simp⟩
            · obtain ⟨⟨h, hx7, h1, h2, h3⟩, hd1⟩ := hd
              go_simp
              refine next_of _ rfl ⟨h, y % 6, rfl, h1, h2, ?_⟩ hRx (GoesBut.refl g wx)
              exact h3 _ (by omega)
            · obtain ⟨h, j, hx10, h1, h2, v, hv, hc⟩ := hd
              go_simp
              exact next_of (p := some8) (.int .u8 v) rfl ⟨v, hv, rfl⟩ hRx (GoesBut.refl g wx)
            · obtain ⟨hd0, ⟨v, hv, hx11⟩, -⟩ := hd
              obtain ⟨⟨u, hu⟩, hf⟩ := HRCELL.out wx hRx
              go_simp
              exact next_of undef rfl trivial (HRSET.out wx v hv hRx) (GoesBut.set g p wx _)
          intro x w3 hr3 hx
          simp [AllWords] at hx ⊢
          clear hx
          go_wp2_with fail
          go_roundw
          case rel => exact ⟨k + 1, by omega, by go_num, hr3⟩
          case measure => simp [intOf]; omega
        · go_wp2_with fail
          go_roundw
          case rel => exact ⟨k + 1, by omega, by go_num, hr⟩
          case measure => simp [intOf]; omega
      · obtain rfl : k = n := by omega
        have hst := run_string_of (P := Tryd.prog) wr 22 9 5 _ _ N lk Tryd.underlying22 Tryd.underlying5 Tryd.underlying9 hb.sl (by intro h; cases h) N
        obtain ⟨C, eC⟩ : ∃ C : ByteArray, C = ⟨lk.toArray⟩ := ⟨_, rfl⟩
        rw [← eC] at hst
        have hCs : C.size = addrN six := by rw [eC, mk_size, hlk, HN.out]
        have HCS := Lib.hid hCs
        have hbel := hb.bel
        clear hb eC hCs hlk hr
        go_wp2_with fail
        go_ret
        exact ⟨C, HCS.out, rfl, hbel⟩
end Go.Proofs.YtkdknfedieeenaaDoor
namespace Go.Proofs.YtkdknfedieeenaaDoor
open Go.RowKit
set_option linter.unusedVariables false
set_option maxRecDepth 20000

theorem five_cell (w : World) (z : Int) (hz : 0 ≤ z) (T : TypeId) :
    ∃ l ∈ five, (w.alloc (.cells #[.string ⟨#[97]⟩, .string ⟨#[98]⟩, .string ⟨#[119, 119, 119]⟩, .string ⟨#[101, 120]⟩, .string ⟨#[111, 114, 103]⟩] T)).cell? ⟨w.heap.size, (z % 5).toNat, none⟩ = some (.string (baL l)) := by
  obtain ⟨k, hk, hk5⟩ : ∃ k : Nat, (z % 5).toNat = k ∧ k < 5 := ⟨_, rfl, by omega⟩
  rw [hk]
  have hl : k < five.length := hk5
  refine ⟨five[k], List.getElem_mem hl, ?_⟩
  have h := news_at w #[.string ⟨#[97]⟩, .string ⟨#[98]⟩, .string ⟨#[119, 119, 119]⟩, .string ⟨#[101, 120]⟩, .string ⟨#[111, 114, 103]⟩] T k (.string (baL five[k]))
  rw [Addr.add_lit, Nat.zero_add] at h
  apply h
  match k, hk5 with
  | 0, _ => rfl
  | 1, _ => rfl
  | 2, _ => rfl
  | 3, _ => rfl
  | 4, _ => rfl
/-- What a trigger of the statements is. -/
structure TrigOk (kd : Int) (t : Trig) : Prop where
  kind : t.kind = kd % 7
  good : GoodT t
  pfx : (kd % 7 = 0 ∨ kd % 7 = 3 ∨ kd % 7 = 6) → mayP t.addr t.bits = true ∧ t.name = []
  nam : ¬ (kd % 7 = 0 ∨ kd % 7 = 3 ∨ kd % 7 = 6) → t.addr = [] ∧ t.bits = 0 ∧ ∃ X, FewX X ∧ nameLabels t.name = some X
  small : t.name.length ≤ 254 ∧ t.addr.length ≤ 16
theorem addrN_ok (six : Bool) : isAddr (addrN six) = true := by cases six <;> rfl
theorem trigPfx_ok {kd : Int} (hk : kd % 7 = 0 ∨ kd % 7 = 3 ∨ kd % 7 = 6) {l : List UInt8} {m : Nat} (hl : isAddr l.length = true) (hm : m ≤ 8 * l.length) : TrigOk kd ⟨kd % 7, [], cutL l m, m⟩ := by
  have hmay : mayP (cutL l m) m = true := by
    unfold mayP isCut
    rw [cutL_length, Int.toNat_natCast, cutL_cutL l m hm, hl]
    simp; omega
  refine ⟨rfl, good_pfx hmay hk, fun _ => ⟨hmay, rfl⟩, fun h => absurd hk h, by simp, ?_⟩
  have := isAddr_le hl
  rw [cutL_length]; exact this
theorem trigNam_ok {kd : Int} (h0 : 0 ≤ kd) (hk : ¬ (kd % 7 = 0 ∨ kd % 7 = 3 ∨ kd % 7 = 6)) {X : List (List UInt8)} (hX : FewX X) (hne : kd % 7 = 1 ∨ kd % 7 = 4 → X ≠ []) : TrigOk kd ⟨kd % 7, (makeL X).getD [], [], 0⟩ := by
  refine ⟨rfl, good_name hX (by omega) hne, fun h => absurd h hk, fun _ => ⟨rfl, rfl, X, hX, hX.name⟩, ?_, by simp⟩
  rw [hX.ok.make]
  exact hX.ok.2

set_option maxHeartbeats 16000000 in
theorem trigger13_any (kd : Int) (hkd : 0 ≤ kd ∧ kd ≤ 255) (A : Option Addr) (n c : Nat) (zs : List Int) (six : Bool) (bits : Int) (hb : 0 ≤ bits ∧ bits ≤ 255) (w : World)
    (hA : Sl w w.heap.size 1 A n (zs.map (Value.int .u8))) (hz : ∀ z ∈ zs, 0 ≤ z ∧ z < 256) (hn : n ≤ 140737488355328) :
    Calls Tryd.prog 6 #[.int .u8 kd, .slice A n c, .bool six, .int .u8 bits] w fun e w' => ∃ t : Trig, e = .returned (trigA t) ∧ TrigOk kd t ∧ Below w.heap.size w w' := by
  obtain ⟨i0, hi, hz0, hz1, hz2⟩ := info_parts str_info
  obtain ⟨tk, htk⟩ : ∃ tk, tk = kd % 7 := ⟨_, rfl⟩
  have ht7 : 0 ≤ tk ∧ tk < 7 := by omega
  have hmod : kd.tmod 7 = tk := by rw [Int.tmod_eq_emod_of_nonneg hkd.1, htk]
  have hw8 : IntKind.u8.wrap tk = tk := by rw [IntKind.wrap_u8]; omega
  obtain ⟨W0, hW0⟩ : ∃ W0, W0 = (w.alloc (.cells #[.int .i64 0, .string ⟨#[]⟩, .string ⟨#[]⟩, .int .i64 0] 33)).alloc (.cells #[.int .i64 tk, .string ⟨#[]⟩, .string ⟨#[]⟩, .int .i64 0] 33) := ⟨_, rfl⟩
  have hc1 : Cs W0 w.heap.size [.int .i64 0, .string ⟨#[]⟩, .string ⟨#[]⟩, .int .i64 0] := by rw [hW0]; exact (Cs.new w _ _ _).alloc _
  have hc2 : Cs W0 (w.heap.size + 1) [.int .i64 tk, .string ⟨#[]⟩, .string ⟨#[]⟩, .int .i64 0] := by
    rw [hW0]
    exact (Cs.new (w.alloc (.cells #[.int .i64 0, .string ⟨#[]⟩, .string ⟨#[]⟩, .int .i64 0] 33)) _ _ _).at_ _ (by simp)
  have hb0 : Below w.heap.size w W0 := by
    rw [hW0]
    have h1 := (Below.refl w.heap.size w).alloc (Nat.le_refl _) (.cells #[.int .i64 0, .string ⟨#[]⟩, .string ⟨#[]⟩, .int .i64 0] 33)
    exact h1.alloc h1.size _
  have hs0 : W0.heap.size = w.heap.size + 2 := by rw [hW0]; simp
  have hA0 := (hA.below hb0).more hb0.size
  by_cases hp : tk = 0 ∨ tk = 3 ∨ tk = 6
  · have hbytes : ∃ l : List UInt8, zs.map (Value.int .u8) = l.map bv := bytes_of zs (fun z h => WalkArith.wf_u8 (by have := hz z h; omega))
    obtain ⟨l, hl⟩ := hbytes
    rw [hl] at hA0
    have had := addr_any six A n c l W0 hA0 hn
    obtain ⟨M, hM⟩ : ∃ M : Nat, M = 8 * addrN six + 1 := ⟨_, rfl⟩
    obtain ⟨m, hm⟩ : ∃ m : Nat, (m : Int) = bits % M := ⟨(bits % M).toNat, by have : (0 : Int) < M := by omega
                                                                              have := Int.emod_nonneg bits (show (M : Int) ≠ 0 by omega); omega⟩
    have hmM : m < M := by have := Int.emod_lt_of_pos bits (show (0 : Int) < M by omega); omega
    have hmt : bits.tmod (M : Int) = m := by rw [Int.tmod_eq_emod_of_nonneg hb.1, hm]
    have hMl : M = 33 ∨ M = 129 := by rw [hM]; cases six <;> simp [addrN]
    have hMM : (8 : Int) * (addrN six : Int) + 1 = M := by omega
    have hmw : IntKind.i64.wrap (m : Int) = m := IntWalk.i64_in _ (by omega)
    have hm0 : ¬ (M : Int) = 0 := by omega
    have hsl : addrN six = 4 ∨ addrN six = 16 := by cases six <;> simp [addrN]
    have hTO := fun (s : ByteArray) (h : s.size = addrN six) => trigPfx_ok (kd := kd) (by rw [← htk]; exact hp) (l := s.data.toList) (m := m) (by rw [show s.data.toList.length = s.size by simp, h]; exact addrN_ok six) (by rw [show s.data.toList.length = s.size by simp, h]; omega)
    rw [← htk] at hTO
    have HMB := Lib.hid (show m ≤ 8 * addrN six by omega)
    have HAD := Lib.hid had
    have HTO := Lib.hid hTO
    have HC1 := Lib.hid hc1
    have HC2 := Lib.hid hc2
    have HB0 := Lib.hid hb0
    have HS0 := Lib.hid hs0
    have HW0 := Lib.hid hW0
    obtain ⟨Z, hZ⟩ : ∃ Z, Z = addrN six := ⟨_, rfl⟩
    rw [← hZ] at hMM hsl
    have HZ := Lib.hid hZ
    clear had hTO hc1 hc2 hb0 hs0 hW0 hZ hA0 hl hA hz hM hm htk hmM
    rcases hp with rfl | rfl | rfl
    · go_enter Tryd.func6, Tryd.ntmps6
      go_wp2_with (go_at_call 13; rw [← HW0.out]; refine HAD.out.mono ?_; rintro e w1 ⟨s, hs, rfl, hb1⟩; refine Hid.out ?_)
      refine Lib.hid ?_
      have HTS := Lib.hid (HTO.out s hs)
      have hcut := fun w h => pcut_yes s.data.toList m w (by rw [show s.data.toList.length = s.size by simp, hs]; exact addrN_ok six) h
      rw [ba_eta] at hcut
      have hcut := fun w => hcut w (by rw [show s.data.toList.length = s.size by simp, hs]; exact HMB.out)
      obtain ⟨CB, hCB⟩ : ∃ CB, CB = baL (cutL s.data.toList m) := ⟨_, rfl⟩
      rw [show (⟨(cutL s.data.toList m).toArray⟩ : ByteArray) = CB by rw [hCB]; rfl] at hcut
      have hsZ : s.size = Z := by rw [hs, HZ.out]
      have HCUT := Lib.hid hcut
      have HCB := Lib.hid hCB
      have HC11 := Lib.hid (HC1.out.below hb1)
      have HC21 := Lib.hid (HC2.out.below hb1)
      have HB1 := Lib.hid (HB0.out.trans (hb1.mono HB0.out.size))
      clear hcut hCB hs hb1
      go_wp2_with (go_at_call 14; refine (HCUT.out _).mono ?_; rintro e w2 ⟨rfl, hb2⟩; refine Hid.out ?_)
      refine Lib.hid ?_
      have hC1 := HC11.out.below hb2
      have hC2 := HC21.out.below hb2
      have HB2 := Lib.hid (HB1.out.trans (hb2.mono HB1.out.size))
      have k0 := hC1.get 0 (.int .i64 0)
      have k1 := hC1.get 1 (.string ⟨#[]⟩)
      have k2 := hC1.get 2 (.string ⟨#[]⟩)
      have k3 := hC1.get 3 (.int .i64 0)
      have kz0 := hC1.froz 0
      have kz1 := hC1.froz 1
      have kz2 := hC1.froz 2
      have kz3 := hC1.froz 3
      have l0 := hC2.get 0 (.int .i64 0)
      have l1 := hC2.get 1 (.string ⟨#[]⟩)
      have l2 := hC2.get 2 (.string ⟨#[]⟩)
      have l3 := hC2.get 3 (.int .i64 0)
      have lz0 := hC2.froz 0
      have lz1 := hC2.froz 1
      have lz2 := hC2.froz 2
      have lz3 := hC2.froz 3
      have HC1' := Lib.hid hC1
      clear hC1 hC2 hb2 HC11 HC21 HCUT HB1
      have hne : w.heap.size + 1 ≠ w.heap.size := by omega
      go_wp2_with fail
      refine bodyPost_ret (v := .agg #[.int .i64 0, .string ⟨#[]⟩, .string CB, .int .i64 m]) ?_ rfl ⟨_, ?_, HTS.out, ?_⟩
      · have hfin := Cs.all4 (((HC1'.out.other _ 2 (.string CB) hne).other _ 3 (.int .i64 m) hne)) (a' := .int .i64 0) (b' := .string ⟨#[]⟩) (c' := .string CB) (d' := .int .i64 m)
        have g0 := hfin.get 0 (.int .i64 0)
        have g1 := hfin.get 1 (.string ⟨#[]⟩)
        have g2 := hfin.get 2 (.string CB)
        have g3 := hfin.get 3 (.int .i64 m)
        generalize ((((((w2.setCell ⟨w.heap.size + 1, 2, none⟩ (.string CB)).setCell ⟨w.heap.size + 1, 3, none⟩ (.int .i64 m)).setCell ⟨w.heap.size, 0, none⟩ (.int .i64 0)).setCell ⟨w.heap.size, 1, none⟩ (.string ⟨#[]⟩)).setCell ⟨w.heap.size, 2, none⟩ (.string CB)).setCell ⟨w.heap.size, 3, none⟩ (.int .i64 m)) = WF at g0 g1 g2 g3 ⊢
        simp [results, Tryd.results6, go_sem, g0, g1, g2, g3]
      · rw [HCB.out]; rfl
      · exact below_all4 ((HB2.out.setCell (p := ⟨w.heap.size + 1, 2, none⟩) (by simp) (.string CB)).setCell (p := ⟨w.heap.size + 1, 3, none⟩) (by simp) (.int .i64 m)) (Nat.le_refl _)
    · go_enter Tryd.func6, Tryd.ntmps6
      go_wp2_with (go_at_call 13; rw [← HW0.out]; refine HAD.out.mono ?_; rintro e w1 ⟨s, hs, rfl, hb1⟩; refine Hid.out ?_)
      refine Lib.hid ?_
      have HTS := Lib.hid (HTO.out s hs)
      have hcut := fun w h => pcut_yes s.data.toList m w (by rw [show s.data.toList.length = s.size by simp, hs]; exact addrN_ok six) h
      rw [ba_eta] at hcut
      have hcut := fun w => hcut w (by rw [show s.data.toList.length = s.size by simp, hs]; exact HMB.out)
      obtain ⟨CB, hCB⟩ : ∃ CB, CB = baL (cutL s.data.toList m) := ⟨_, rfl⟩
      rw [show (⟨(cutL s.data.toList m).toArray⟩ : ByteArray) = CB by rw [hCB]; rfl] at hcut
      have hsZ : s.size = Z := by rw [hs, HZ.out]
      have HCUT := Lib.hid hcut
      have HCB := Lib.hid hCB
      have HC11 := Lib.hid (HC1.out.below hb1)
      have HC21 := Lib.hid (HC2.out.below hb1)
      have HB1 := Lib.hid (HB0.out.trans (hb1.mono HB0.out.size))
      clear hcut hCB hs hb1
      go_wp2_with (go_at_call 14; refine (HCUT.out _).mono ?_; rintro e w2 ⟨rfl, hb2⟩; refine Hid.out ?_)
      refine Lib.hid ?_
      have hC1 := HC11.out.below hb2
      have hC2 := HC21.out.below hb2
      have HB2 := Lib.hid (HB1.out.trans (hb2.mono HB1.out.size))
      have k0 := hC1.get 0 (.int .i64 0)
      have k1 := hC1.get 1 (.string ⟨#[]⟩)
      have k2 := hC1.get 2 (.string ⟨#[]⟩)
      have k3 := hC1.get 3 (.int .i64 0)
      have kz0 := hC1.froz 0
      have kz1 := hC1.froz 1
      have kz2 := hC1.froz 2
      have kz3 := hC1.froz 3
      have l0 := hC2.get 0 (.int .i64 3)
      have l1 := hC2.get 1 (.string ⟨#[]⟩)
      have l2 := hC2.get 2 (.string ⟨#[]⟩)
      have l3 := hC2.get 3 (.int .i64 0)
      have lz0 := hC2.froz 0
      have lz1 := hC2.froz 1
      have lz2 := hC2.froz 2
      have lz3 := hC2.froz 3
      have HC1' := Lib.hid hC1
      clear hC1 hC2 hb2 HC11 HC21 HCUT HB1
      have hne : w.heap.size + 1 ≠ w.heap.size := by omega
      go_wp2_with fail
      refine bodyPost_ret (v := .agg #[.int .i64 3, .string ⟨#[]⟩, .string CB, .int .i64 m]) ?_ rfl ⟨_, ?_, HTS.out, ?_⟩
      · have hfin := Cs.all4 (((HC1'.out.other _ 2 (.string CB) hne).other _ 3 (.int .i64 m) hne)) (a' := .int .i64 3) (b' := .string ⟨#[]⟩) (c' := .string CB) (d' := .int .i64 m)
        have g0 := hfin.get 0 (.int .i64 3)
        have g1 := hfin.get 1 (.string ⟨#[]⟩)
        have g2 := hfin.get 2 (.string CB)
        have g3 := hfin.get 3 (.int .i64 m)
        generalize ((((((w2.setCell ⟨w.heap.size + 1, 2, none⟩ (.string CB)).setCell ⟨w.heap.size + 1, 3, none⟩ (.int .i64 m)).setCell ⟨w.heap.size, 0, none⟩ (.int .i64 3)).setCell ⟨w.heap.size, 1, none⟩ (.string ⟨#[]⟩)).setCell ⟨w.heap.size, 2, none⟩ (.string CB)).setCell ⟨w.heap.size, 3, none⟩ (.int .i64 m)) = WF at g0 g1 g2 g3 ⊢
        simp [results, Tryd.results6, go_sem, g0, g1, g2, g3]
      · rw [HCB.out]; rfl
      · exact below_all4 ((HB2.out.setCell (p := ⟨w.heap.size + 1, 2, none⟩) (by simp) (.string CB)).setCell (p := ⟨w.heap.size + 1, 3, none⟩) (by simp) (.int .i64 m)) (Nat.le_refl _)
    · go_enter Tryd.func6, Tryd.ntmps6
      go_wp2_with (go_at_call 13; rw [← HW0.out]; refine HAD.out.mono ?_; rintro e w1 ⟨s, hs, rfl, hb1⟩; refine Hid.out ?_)
      refine Lib.hid ?_
      have HTS := Lib.hid (HTO.out s hs)
      have hcut := fun w h => pcut_yes s.data.toList m w (by rw [show s.data.toList.length = s.size by simp, hs]; exact addrN_ok six) h
      rw [ba_eta] at hcut
      have hcut := fun w => hcut w (by rw [show s.data.toList.length = s.size by simp, hs]; exact HMB.out)
      obtain ⟨CB, hCB⟩ : ∃ CB, CB = baL (cutL s.data.toList m) := ⟨_, rfl⟩
      rw [show (⟨(cutL s.data.toList m).toArray⟩ : ByteArray) = CB by rw [hCB]; rfl] at hcut
      have hsZ : s.size = Z := by rw [hs, HZ.out]
      have HCUT := Lib.hid hcut
      have HCB := Lib.hid hCB
      have HC11 := Lib.hid (HC1.out.below hb1)
      have HC21 := Lib.hid (HC2.out.below hb1)
      have HB1 := Lib.hid (HB0.out.trans (hb1.mono HB0.out.size))
      clear hcut hCB hs hb1
      go_wp2_with (go_at_call 14; refine (HCUT.out _).mono ?_; rintro e w2 ⟨rfl, hb2⟩; refine Hid.out ?_)
      refine Lib.hid ?_
      have hC1 := HC11.out.below hb2
      have hC2 := HC21.out.below hb2
      have HB2 := Lib.hid (HB1.out.trans (hb2.mono HB1.out.size))
      have k0 := hC1.get 0 (.int .i64 0)
      have k1 := hC1.get 1 (.string ⟨#[]⟩)
      have k2 := hC1.get 2 (.string ⟨#[]⟩)
      have k3 := hC1.get 3 (.int .i64 0)
      have kz0 := hC1.froz 0
      have kz1 := hC1.froz 1
      have kz2 := hC1.froz 2
      have kz3 := hC1.froz 3
      have l0 := hC2.get 0 (.int .i64 6)
      have l1 := hC2.get 1 (.string ⟨#[]⟩)
      have l2 := hC2.get 2 (.string ⟨#[]⟩)
      have l3 := hC2.get 3 (.int .i64 0)
      have lz0 := hC2.froz 0
      have lz1 := hC2.froz 1
      have lz2 := hC2.froz 2
      have lz3 := hC2.froz 3
      have HC1' := Lib.hid hC1
      clear hC1 hC2 hb2 HC11 HC21 HCUT HB1
      have hne : w.heap.size + 1 ≠ w.heap.size := by omega
      go_wp2_with fail
      refine bodyPost_ret (v := .agg #[.int .i64 6, .string ⟨#[]⟩, .string CB, .int .i64 m]) ?_ rfl ⟨_, ?_, HTS.out, ?_⟩
      · have hfin := Cs.all4 (((HC1'.out.other _ 2 (.string CB) hne).other _ 3 (.int .i64 m) hne)) (a' := .int .i64 6) (b' := .string ⟨#[]⟩) (c' := .string CB) (d' := .int .i64 m)
        have g0 := hfin.get 0 (.int .i64 6)
        have g1 := hfin.get 1 (.string ⟨#[]⟩)
        have g2 := hfin.get 2 (.string CB)
        have g3 := hfin.get 3 (.int .i64 m)
        generalize ((((((w2.setCell ⟨w.heap.size + 1, 2, none⟩ (.string CB)).setCell ⟨w.heap.size + 1, 3, none⟩ (.int .i64 m)).setCell ⟨w.heap.size, 0, none⟩ (.int .i64 6)).setCell ⟨w.heap.size, 1, none⟩ (.string ⟨#[]⟩)).setCell ⟨w.heap.size, 2, none⟩ (.string CB)).setCell ⟨w.heap.size, 3, none⟩ (.int .i64 m)) = WF at g0 g1 g2 g3 ⊢
        simp [results, Tryd.results6, go_sem, g0, g1, g2, g3]
      · rw [HCB.out]; rfl
      · exact below_all4 ((HB2.out.setCell (p := ⟨w.heap.size + 1, 2, none⟩) (by simp) (.string CB)).setCell (p := ⟨w.heap.size + 1, 3, none⟩) (by simp) (.int .i64 m)) (Nat.le_refl _)
  · have e0 : (tk == 0) = false := by rw [beq_eq_false_iff_ne]; omega
    have e3 : (tk == 3) = false := by rw [beq_eq_false_iff_ne]; omega
    have e6 : (tk == 6) = false := by rw [beq_eq_false_iff_ne]; omega
    have hTO := fun (X : List (List UInt8)) (h : FewX X) => trigNam_ok hkd.1 (by rw [← htk]; exact hp) h
    rw [← htk] at hTO
    have HTO := Lib.hid hTO
    have HC1 := Lib.hid hc1
    have HC2 := Lib.hid hc2
    have HB0 := Lib.hid hb0
    have HS0 := Lib.hid hs0
    have HW0 := Lib.hid hW0
    have HA0 := Lib.hid hA0
    have HZ := Lib.hid hz
    have hzl : zs.length = n := by simpa using hA0.1
    have HZL := Lib.hid hzl
    have ht4 : tk = 1 ∨ tk = 2 ∨ tk = 4 ∨ tk = 5 := by omega
    have HT4 := Lib.hid ht4
    clear hTO hc1 hc2 hb0 hs0 hW0 hA0 hz hA hzl ht4 hp htk
    go_enter Tryd.func6, Tryd.ntmps6
    go_upto_region 5 with fail
    rw [← HW0.out]
    go_loopw [11, 22] (fun v i wr => ∃ (k : Nat) (X : List (List UInt8)), k ≤ n ∧ i = .int .i64 k ∧ Hid (FewX X) ∧ Buf W0.heap.size 9 W0 v X.length (X.map sv) wr) (fun _ i _ => n - (intOf i).toNat)
    case atStart => exact ⟨0, [], Nat.zero_le _, rfl, Lib.hid ⟨fun x h => by (cases h), by simp⟩, Buf.start _ _⟩
    case round =>
      obtain ⟨k, X, hk, rfl, HFX, hb⟩ := hrel
      have hXl := HFX.out.len
      obtain ⟨D, cd, rfl, hd1, hd2, hd3⟩ := hb.slice
      by_cases hlt : k < n
      · have hlt' : (k : Int) < n := by omega
        obtain ⟨b, off, u, rfl, hbb, hu, hc⟩ := (HA0.out.below hb.below).at_ hlt
        have hkl : k < zs.length := by rw [HZL.out]; exact hlt
        have hcell : wr.cell? ⟨b, off + k, none⟩ = some (.int .u8 zs[k]) := by
          rw [hc]
          simp only [List.getElem?_map, List.getElem?_eq_getElem hkl, Option.map_some] at hu
          exact hu.symm
        have hzk := HZ.out zs[k] (List.getElem_mem hkl)
        generalize zs[k] = z at *
        obtain ⟨z0, z1⟩ := hzk
        clear hc hu hd3
        by_cases h5 : X.length < 5
        · have h5i : (X.length : Int) < 5 := by omega
          have a1 : 0 ≤ z % 5 := by omega
          have a2 : z % 5 < 5 := by omega
          obtain ⟨l5, hl5, hcl5⟩ := five_cell wr z z0 9
          obtain ⟨S5, hS5⟩ : ∃ S, S = baL l5 := ⟨_, rfl⟩
          rw [← hS5] at hcl5
          have HFN : Hid (FewX (X ++ [l5])) := Lib.hid ⟨by
            intro x hx
            simp only [List.mem_append, List.mem_cons, List.not_mem_nil, or_false] at hx
            rcases hx with hx | rfl
            · exact HFX.out.mem x hx
            · exact hl5, by simp; omega⟩
          have hmap : (X ++ [l5]).map sv = X.map sv ++ [.string S5] := by rw [List.map_append, hS5]; rfl
          have HM := Lib.hid hmap
          have hb1 := hb.alloc (.cells #[.string ⟨#[97]⟩, .string ⟨#[98]⟩, .string ⟨#[119, 119, 119]⟩, .string ⟨#[101, 120]⟩, .string ⟨#[111, 114, 103]⟩] 9)
          clear hmap hS5 hl5
          go_wp2_with (at_builtin; go_loud (refine wpList_append_one rfl _ _ 34 rfl W0.heap.size 9 i0 _ 16 Tryd.underlying34 hi hz0 hz1 hz2 rfl hb1 rfl ?hx rfl ?c1 ?c2 ?_))
          case hx => exact congrArg (fun q => Value.slice (some ⟨q, 0, none⟩) 1 1) (by simp)
          case c1 => unfold maxLen; omega
          case c2 => omega
          intro v' w2 hb2
          have HB2 := Lib.hid hb2
          clear hb2 hb1
          go_wp2
          go_roundw
          case rel => exact ⟨k + 1, X ++ [l5], by omega, by go_num, HFN, by rw [HM.out, List.length_append]; exact HB2.out⟩
          case measure => simp [intOf]; omega
        · have h5i : ¬ (X.length : Int) < 5 := by omega
          go_wp2_with fail
          go_roundw
          case rel => exact ⟨k + 1, X, by omega, by go_num, HFX, hb⟩
          case measure => simp [intOf]; omega
      · have hlt' : ¬ (k : Int) < n := by omega
        have HC1w := Lib.hid (HC1.out.below hb.below)
        have HC2w := Lib.hid (HC2.out.below hb.below)
        have HBw := Lib.hid (HB0.out.trans (hb.below.mono HB0.out.size))
        have hq0 := HC2w.out.get 0 (.int .i64 tk)
        have HSLX := Lib.hid hb.sl
        clear hb hd3 HC1 HC2 HB0 HA0 HZ HZL HW0 HS0
        by_cases hsp : X = [] ∧ (tk = 1 ∨ tk = 4)
        · obtain ⟨hX0, ht⟩ := hsp
          have hxl : ((X.length : Int) == 0) = true := by rw [hX0]; rfl
          have hA5 : FewX [[97]] := ⟨by decide, by decide⟩
          have HTS := Lib.hid (HTO.out [[97]] hA5 (fun _ => by simp))
          obtain ⟨NM, hNM⟩ : ∃ N, N = baL ((makeL [[97]]).getD []) := ⟨_, rfl⟩
          have hmk := fun A c w h => makeX_any A 1 c [[97]] w h (fun x hx => by have := (five_ok x (hA5.mem x hx)).2.2.2; unfold maxLen; omega) (by unfold maxLen; decide)
          rw [show sv ((makeL [[97]]).getD []) = .string NM by rw [hNM]; rfl] at hmk
          have HMK := Lib.hid hmk
          have HNM := Lib.hid hNM
          clear hmk hNM
          have HCM := Lib.hid (HC1w.out.alloc (.cells #[.string ⟨#[97]⟩] 9))
          have HCN := Lib.hid (HC2w.out.alloc (.cells #[.string ⟨#[97]⟩] 9))
          have HBM := Lib.hid (HBw.out.alloc HBw.out.size (.cells #[.string ⟨#[97]⟩] 9))
          have HSLM := Lib.hid (Sl.fresh wr #[.string ⟨#[97]⟩] 9 1 _ rfl rfl)
          clear HTO HT4 e0 e3 e6 hX0 HSLX HFX hXl
          rcases ht with rfl | rfl
          · go_wp2_with (go_at_call 11; refine (HMK.out _ _ _ HSLM.out).mono ?_; rintro e w5 ⟨rfl, hb5⟩; refine Hid.out ?_)
            refine Lib.hid ?_
            have HC5 := Lib.hid (HCM.out.below hb5)
            have hC2 := HCN.out.below hb5
            have HB5 := Lib.hid (HBM.out.trans (hb5.mono HBM.out.size))
            have k0 := HC5.out.get 0 (.int .i64 0)
            have k1 := HC5.out.get 1 (.string ⟨#[]⟩)
            have k2 := HC5.out.get 2 (.string ⟨#[]⟩)
            have k3 := HC5.out.get 3 (.int .i64 0)
            have kz0 := HC5.out.froz 0
            have kz1 := HC5.out.froz 1
            have kz2 := HC5.out.froz 2
            have kz3 := HC5.out.froz 3
            have l0 := hC2.get 0 (.int .i64 1)
            have l1 := hC2.get 1 (.string ⟨#[]⟩)
            have l2 := hC2.get 2 (.string ⟨#[]⟩)
            have l3 := hC2.get 3 (.int .i64 0)
            have lz1 := hC2.froz 1
            clear hb5 hC2 hq0 HMK
            go_wp2_with fail
            have hne : w.heap.size + 1 ≠ w.heap.size := by omega
            refine bodyPost_ret (v := .agg #[.int .i64 1, .string NM, .string ⟨#[]⟩, .int .i64 0]) ?_ rfl ⟨_, ?_, HTS.out, ?_⟩
            · have hfin := Cs.all4 ((HC5.out.other _ 1 (.string NM) hne)) (a' := .int .i64 1) (b' := .string NM) (c' := .string ⟨#[]⟩) (d' := .int .i64 0)
              have g0 := hfin.get 0 (.int .i64 1)
              have g1 := hfin.get 1 (.string NM)
              have g2 := hfin.get 2 (.string ⟨#[]⟩)
              have g3 := hfin.get 3 (.int .i64 0)
              generalize (((((w5.setCell ⟨w.heap.size + 1, 1, none⟩ (.string NM)).setCell ⟨w.heap.size, 0, none⟩ (.int .i64 1)).setCell ⟨w.heap.size, 1, none⟩ (.string NM)).setCell ⟨w.heap.size, 2, none⟩ (.string ⟨#[]⟩)).setCell ⟨w.heap.size, 3, none⟩ (.int .i64 0)) = WF at g0 g1 g2 g3 ⊢
              simp [results, Tryd.results6, go_sem, g0, g1, g2, g3]
            · rw [HNM.out]; rfl
            · exact below_all4 (HB5.out.setCell (p := ⟨w.heap.size + 1, 1, none⟩) (by simp) (.string NM)) (Nat.le_refl _)
          · go_wp2_with (go_at_call 11; refine (HMK.out _ _ _ HSLM.out).mono ?_; rintro e w5 ⟨rfl, hb5⟩; refine Hid.out ?_)
            refine Lib.hid ?_
            have HC5 := Lib.hid (HCM.out.below hb5)
            have hC2 := HCN.out.below hb5
            have HB5 := Lib.hid (HBM.out.trans (hb5.mono HBM.out.size))
            have k0 := HC5.out.get 0 (.int .i64 0)
            have k1 := HC5.out.get 1 (.string ⟨#[]⟩)
            have k2 := HC5.out.get 2 (.string ⟨#[]⟩)
            have k3 := HC5.out.get 3 (.int .i64 0)
            have kz0 := HC5.out.froz 0
            have kz1 := HC5.out.froz 1
            have kz2 := HC5.out.froz 2
            have kz3 := HC5.out.froz 3
            have l0 := hC2.get 0 (.int .i64 4)
            have l1 := hC2.get 1 (.string ⟨#[]⟩)
            have l2 := hC2.get 2 (.string ⟨#[]⟩)
            have l3 := hC2.get 3 (.int .i64 0)
            have lz1 := hC2.froz 1
            clear hb5 hC2 hq0 HMK
            go_wp2_with fail
            have hne : w.heap.size + 1 ≠ w.heap.size := by omega
            refine bodyPost_ret (v := .agg #[.int .i64 4, .string NM, .string ⟨#[]⟩, .int .i64 0]) ?_ rfl ⟨_, ?_, HTS.out, ?_⟩
            · have hfin := Cs.all4 ((HC5.out.other _ 1 (.string NM) hne)) (a' := .int .i64 4) (b' := .string NM) (c' := .string ⟨#[]⟩) (d' := .int .i64 0)
              have g0 := hfin.get 0 (.int .i64 4)
              have g1 := hfin.get 1 (.string NM)
              have g2 := hfin.get 2 (.string ⟨#[]⟩)
              have g3 := hfin.get 3 (.int .i64 0)
              generalize (((((w5.setCell ⟨w.heap.size + 1, 1, none⟩ (.string NM)).setCell ⟨w.heap.size, 0, none⟩ (.int .i64 4)).setCell ⟨w.heap.size, 1, none⟩ (.string NM)).setCell ⟨w.heap.size, 2, none⟩ (.string ⟨#[]⟩)).setCell ⟨w.heap.size, 3, none⟩ (.int .i64 0)) = WF at g0 g1 g2 g3 ⊢
              simp [results, Tryd.results6, go_sem, g0, g1, g2, g3]
            · rw [HNM.out]; rfl
            · exact below_all4 (HB5.out.setCell (p := ⟨w.heap.size + 1, 1, none⟩) (by simp) (.string NM)) (Nat.le_refl _)
        · have hnsp : X ≠ [] ∨ (tk = 2 ∨ tk = 5) := by
            have := HT4.out
            by_cases hX0 : X = []
            · right; rcases this with h | h | h | h
              · exact absurd ⟨hX0, .inl h⟩ hsp
              · exact .inl h
              · exact absurd ⟨hX0, .inr h⟩ hsp
              · exact .inr h
            · exact .inl hX0
          have HTS := Lib.hid (HTO.out X HFX.out (fun h hX0 => hsp ⟨hX0, h⟩))
          obtain ⟨NM, hNM⟩ : ∃ N, N = baL ((makeL X).getD []) := ⟨_, rfl⟩
          have hmk := fun A c w h => makeX_any A X.length c X w h (fun x hx => by have := (five_ok x (HFX.out.mem x hx)).2.2.2; unfold maxLen; omega) (by unfold maxLen; have := HFX.out.len; omega)
          rw [show sv ((makeL X).getD []) = .string NM by rw [hNM]; rfl] at hmk
          have HMK := Lib.hid hmk
          have HNM := Lib.hid hNM
          clear hmk hNM
          have HCM := HC1w
          have HCN := HC2w
          have HBM := HBw
          have ht := HT4.out
          clear HTO HT4 e0 e3 e6 hsp
          rcases hnsp with hX0 | hk25
          · have hxl : ((X.length : Int) == 0) = false := by
              have := List.length_pos_iff.2 hX0
              rw [beq_eq_false_iff_ne]; omega
            clear hX0
            rcases ht with rfl | rfl | rfl | rfl
            · go_wp2_with (go_at_call 11; refine (HMK.out _ _ _ HSLX.out).mono ?_; rintro e w5 ⟨rfl, hb5⟩; refine Hid.out ?_)
              refine Lib.hid ?_
              have HC5 := Lib.hid (HCM.out.below hb5)
              have hC2 := HCN.out.below hb5
              have HB5 := Lib.hid (HBM.out.trans (hb5.mono HBM.out.size))
              have k0 := HC5.out.get 0 (.int .i64 0)
              have k1 := HC5.out.get 1 (.string ⟨#[]⟩)
              have k2 := HC5.out.get 2 (.string ⟨#[]⟩)
              have k3 := HC5.out.get 3 (.int .i64 0)
              have kz0 := HC5.out.froz 0
              have kz1 := HC5.out.froz 1
              have kz2 := HC5.out.froz 2
              have kz3 := HC5.out.froz 3
              have l0 := hC2.get 0 (.int .i64 1)
              have l1 := hC2.get 1 (.string ⟨#[]⟩)
              have l2 := hC2.get 2 (.string ⟨#[]⟩)
              have l3 := hC2.get 3 (.int .i64 0)
              have lz1 := hC2.froz 1
              clear hb5 hC2 hq0 HMK
              go_wp2_with fail
              have hne : w.heap.size + 1 ≠ w.heap.size := by omega
              refine bodyPost_ret (v := .agg #[.int .i64 1, .string NM, .string ⟨#[]⟩, .int .i64 0]) ?_ rfl ⟨_, ?_, HTS.out, ?_⟩
              · have hfin := Cs.all4 ((HC5.out.other _ 1 (.string NM) hne)) (a' := .int .i64 1) (b' := .string NM) (c' := .string ⟨#[]⟩) (d' := .int .i64 0)
                have g0 := hfin.get 0 (.int .i64 1)
                have g1 := hfin.get 1 (.string NM)
                have g2 := hfin.get 2 (.string ⟨#[]⟩)
                have g3 := hfin.get 3 (.int .i64 0)
                generalize (((((w5.setCell ⟨w.heap.size + 1, 1, none⟩ (.string NM)).setCell ⟨w.heap.size, 0, none⟩ (.int .i64 1)).setCell ⟨w.heap.size, 1, none⟩ (.string NM)).setCell ⟨w.heap.size, 2, none⟩ (.string ⟨#[]⟩)).setCell ⟨w.heap.size, 3, none⟩ (.int .i64 0)) = WF at g0 g1 g2 g3 ⊢
                simp [results, Tryd.results6, go_sem, g0, g1, g2, g3]
              · rw [HNM.out]; rfl
              · exact below_all4 (HB5.out.setCell (p := ⟨w.heap.size + 1, 1, none⟩) (by simp) (.string NM)) (Nat.le_refl _)
            · go_wp2_with (go_at_call 11; refine (HMK.out _ _ _ HSLX.out).mono ?_; rintro e w5 ⟨rfl, hb5⟩; refine Hid.out ?_)
              refine Lib.hid ?_
              have HC5 := Lib.hid (HCM.out.below hb5)
              have hC2 := HCN.out.below hb5
              have HB5 := Lib.hid (HBM.out.trans (hb5.mono HBM.out.size))
              have k0 := HC5.out.get 0 (.int .i64 0)
              have k1 := HC5.out.get 1 (.string ⟨#[]⟩)
              have k2 := HC5.out.get 2 (.string ⟨#[]⟩)
              have k3 := HC5.out.get 3 (.int .i64 0)
              have kz0 := HC5.out.froz 0
              have kz1 := HC5.out.froz 1
              have kz2 := HC5.out.froz 2
              have kz3 := HC5.out.froz 3
              have l0 := hC2.get 0 (.int .i64 2)
              have l1 := hC2.get 1 (.string ⟨#[]⟩)
              have l2 := hC2.get 2 (.string ⟨#[]⟩)
              have l3 := hC2.get 3 (.int .i64 0)
              have lz1 := hC2.froz 1
              clear hb5 hC2 hq0 HMK
              go_wp2_with fail
              have hne : w.heap.size + 1 ≠ w.heap.size := by omega
              refine bodyPost_ret (v := .agg #[.int .i64 2, .string NM, .string ⟨#[]⟩, .int .i64 0]) ?_ rfl ⟨_, ?_, HTS.out, ?_⟩
              · have hfin := Cs.all4 ((HC5.out.other _ 1 (.string NM) hne)) (a' := .int .i64 2) (b' := .string NM) (c' := .string ⟨#[]⟩) (d' := .int .i64 0)
                have g0 := hfin.get 0 (.int .i64 2)
                have g1 := hfin.get 1 (.string NM)
                have g2 := hfin.get 2 (.string ⟨#[]⟩)
                have g3 := hfin.get 3 (.int .i64 0)
                generalize (((((w5.setCell ⟨w.heap.size + 1, 1, none⟩ (.string NM)).setCell ⟨w.heap.size, 0, none⟩ (.int .i64 2)).setCell ⟨w.heap.size, 1, none⟩ (.string NM)).setCell ⟨w.heap.size, 2, none⟩ (.string ⟨#[]⟩)).setCell ⟨w.heap.size, 3, none⟩ (.int .i64 0)) = WF at g0 g1 g2 g3 ⊢
                simp [results, Tryd.results6, go_sem, g0, g1, g2, g3]
              · rw [HNM.out]; rfl
              · exact below_all4 (HB5.out.setCell (p := ⟨w.heap.size + 1, 1, none⟩) (by simp) (.string NM)) (Nat.le_refl _)
            · go_wp2_with (go_at_call 11; refine (HMK.out _ _ _ HSLX.out).mono ?_; rintro e w5 ⟨rfl, hb5⟩; refine Hid.out ?_)
              refine Lib.hid ?_
              have HC5 := Lib.hid (HCM.out.below hb5)
              have hC2 := HCN.out.below hb5
              have HB5 := Lib.hid (HBM.out.trans (hb5.mono HBM.out.size))
              have k0 := HC5.out.get 0 (.int .i64 0)
              have k1 := HC5.out.get 1 (.string ⟨#[]⟩)
              have k2 := HC5.out.get 2 (.string ⟨#[]⟩)
              have k3 := HC5.out.get 3 (.int .i64 0)
              have kz0 := HC5.out.froz 0
              have kz1 := HC5.out.froz 1
              have kz2 := HC5.out.froz 2
              have kz3 := HC5.out.froz 3
              have l0 := hC2.get 0 (.int .i64 4)
              have l1 := hC2.get 1 (.string ⟨#[]⟩)
              have l2 := hC2.get 2 (.string ⟨#[]⟩)
              have l3 := hC2.get 3 (.int .i64 0)
              have lz1 := hC2.froz 1
              clear hb5 hC2 hq0 HMK
              go_wp2_with fail
              have hne : w.heap.size + 1 ≠ w.heap.size := by omega
              refine bodyPost_ret (v := .agg #[.int .i64 4, .string NM, .string ⟨#[]⟩, .int .i64 0]) ?_ rfl ⟨_, ?_, HTS.out, ?_⟩
              · have hfin := Cs.all4 ((HC5.out.other _ 1 (.string NM) hne)) (a' := .int .i64 4) (b' := .string NM) (c' := .string ⟨#[]⟩) (d' := .int .i64 0)
                have g0 := hfin.get 0 (.int .i64 4)
                have g1 := hfin.get 1 (.string NM)
                have g2 := hfin.get 2 (.string ⟨#[]⟩)
                have g3 := hfin.get 3 (.int .i64 0)
                generalize (((((w5.setCell ⟨w.heap.size + 1, 1, none⟩ (.string NM)).setCell ⟨w.heap.size, 0, none⟩ (.int .i64 4)).setCell ⟨w.heap.size, 1, none⟩ (.string NM)).setCell ⟨w.heap.size, 2, none⟩ (.string ⟨#[]⟩)).setCell ⟨w.heap.size, 3, none⟩ (.int .i64 0)) = WF at g0 g1 g2 g3 ⊢
                simp [results, Tryd.results6, go_sem, g0, g1, g2, g3]
              · rw [HNM.out]; rfl
              · exact below_all4 (HB5.out.setCell (p := ⟨w.heap.size + 1, 1, none⟩) (by simp) (.string NM)) (Nat.le_refl _)
            · go_wp2_with (go_at_call 11; refine (HMK.out _ _ _ HSLX.out).mono ?_; rintro e w5 ⟨rfl, hb5⟩; refine Hid.out ?_)
              refine Lib.hid ?_
              have HC5 := Lib.hid (HCM.out.below hb5)
              have hC2 := HCN.out.below hb5
              have HB5 := Lib.hid (HBM.out.trans (hb5.mono HBM.out.size))
              have k0 := HC5.out.get 0 (.int .i64 0)
              have k1 := HC5.out.get 1 (.string ⟨#[]⟩)
              have k2 := HC5.out.get 2 (.string ⟨#[]⟩)
              have k3 := HC5.out.get 3 (.int .i64 0)
              have kz0 := HC5.out.froz 0
              have kz1 := HC5.out.froz 1
              have kz2 := HC5.out.froz 2
              have kz3 := HC5.out.froz 3
              have l0 := hC2.get 0 (.int .i64 5)
              have l1 := hC2.get 1 (.string ⟨#[]⟩)
              have l2 := hC2.get 2 (.string ⟨#[]⟩)
              have l3 := hC2.get 3 (.int .i64 0)
              have lz1 := hC2.froz 1
              clear hb5 hC2 hq0 HMK
              go_wp2_with fail
              have hne : w.heap.size + 1 ≠ w.heap.size := by omega
              refine bodyPost_ret (v := .agg #[.int .i64 5, .string NM, .string ⟨#[]⟩, .int .i64 0]) ?_ rfl ⟨_, ?_, HTS.out, ?_⟩
              · have hfin := Cs.all4 ((HC5.out.other _ 1 (.string NM) hne)) (a' := .int .i64 5) (b' := .string NM) (c' := .string ⟨#[]⟩) (d' := .int .i64 0)
                have g0 := hfin.get 0 (.int .i64 5)
                have g1 := hfin.get 1 (.string NM)
                have g2 := hfin.get 2 (.string ⟨#[]⟩)
                have g3 := hfin.get 3 (.int .i64 0)
                generalize (((((w5.setCell ⟨w.heap.size + 1, 1, none⟩ (.string NM)).setCell ⟨w.heap.size, 0, none⟩ (.int .i64 5)).setCell ⟨w.heap.size, 1, none⟩ (.string NM)).setCell ⟨w.heap.size, 2, none⟩ (.string ⟨#[]⟩)).setCell ⟨w.heap.size, 3, none⟩ (.int .i64 0)) = WF at g0 g1 g2 g3 ⊢
                simp [results, Tryd.results6, go_sem, g0, g1, g2, g3]
              · rw [HNM.out]; rfl
              · exact below_all4 (HB5.out.setCell (p := ⟨w.heap.size + 1, 1, none⟩) (by simp) (.string NM)) (Nat.le_refl _)
          · clear ht
            cases hxl : ((X.length : Int) == 0) with
            | true =>
              rcases hk25 with rfl | rfl
              · go_wp2_with (go_at_call 11; refine (HMK.out _ _ _ HSLX.out).mono ?_; rintro e w5 ⟨rfl, hb5⟩; refine Hid.out ?_)
                refine Lib.hid ?_
                have HC5 := Lib.hid (HCM.out.below hb5)
                have hC2 := HCN.out.below hb5
                have HB5 := Lib.hid (HBM.out.trans (hb5.mono HBM.out.size))
                have k0 := HC5.out.get 0 (.int .i64 0)
                have k1 := HC5.out.get 1 (.string ⟨#[]⟩)
                have k2 := HC5.out.get 2 (.string ⟨#[]⟩)
                have k3 := HC5.out.get 3 (.int .i64 0)
                have kz0 := HC5.out.froz 0
                have kz1 := HC5.out.froz 1
                have kz2 := HC5.out.froz 2
                have kz3 := HC5.out.froz 3
                have l0 := hC2.get 0 (.int .i64 2)
                have l1 := hC2.get 1 (.string ⟨#[]⟩)
                have l2 := hC2.get 2 (.string ⟨#[]⟩)
                have l3 := hC2.get 3 (.int .i64 0)
                have lz1 := hC2.froz 1
                clear hb5 hC2 hq0 HMK
                go_wp2_with fail
                have hne : w.heap.size + 1 ≠ w.heap.size := by omega
                refine bodyPost_ret (v := .agg #[.int .i64 2, .string NM, .string ⟨#[]⟩, .int .i64 0]) ?_ rfl ⟨_, ?_, HTS.out, ?_⟩
                · have hfin := Cs.all4 ((HC5.out.other _ 1 (.string NM) hne)) (a' := .int .i64 2) (b' := .string NM) (c' := .string ⟨#[]⟩) (d' := .int .i64 0)
                  have g0 := hfin.get 0 (.int .i64 2)
                  have g1 := hfin.get 1 (.string NM)
                  have g2 := hfin.get 2 (.string ⟨#[]⟩)
                  have g3 := hfin.get 3 (.int .i64 0)
                  generalize (((((w5.setCell ⟨w.heap.size + 1, 1, none⟩ (.string NM)).setCell ⟨w.heap.size, 0, none⟩ (.int .i64 2)).setCell ⟨w.heap.size, 1, none⟩ (.string NM)).setCell ⟨w.heap.size, 2, none⟩ (.string ⟨#[]⟩)).setCell ⟨w.heap.size, 3, none⟩ (.int .i64 0)) = WF at g0 g1 g2 g3 ⊢
                  simp [results, Tryd.results6, go_sem, g0, g1, g2, g3]
                · rw [HNM.out]; rfl
                · exact below_all4 (HB5.out.setCell (p := ⟨w.heap.size + 1, 1, none⟩) (by simp) (.string NM)) (Nat.le_refl _)
              · go_wp2_with (go_at_call 11; refine (HMK.out _ _ _ HSLX.out).mono ?_; rintro e w5 ⟨rfl, hb5⟩; refine Hid.out ?_)
                refine Lib.hid ?_
                have HC5 := Lib.hid (HCM.out.below hb5)
                have hC2 := HCN.out.below hb5
                have HB5 := Lib.hid (HBM.out.trans (hb5.mono HBM.out.size))
                have k0 := HC5.out.get 0 (.int .i64 0)
                have k1 := HC5.out.get 1 (.string ⟨#[]⟩)
                have k2 := HC5.out.get 2 (.string ⟨#[]⟩)
                have k3 := HC5.out.get 3 (.int .i64 0)
                have kz0 := HC5.out.froz 0
                have kz1 := HC5.out.froz 1
                have kz2 := HC5.out.froz 2
                have kz3 := HC5.out.froz 3
                have l0 := hC2.get 0 (.int .i64 5)
                have l1 := hC2.get 1 (.string ⟨#[]⟩)
                have l2 := hC2.get 2 (.string ⟨#[]⟩)
                have l3 := hC2.get 3 (.int .i64 0)
                have lz1 := hC2.froz 1
                clear hb5 hC2 hq0 HMK
                go_wp2_with fail
                have hne : w.heap.size + 1 ≠ w.heap.size := by omega
                refine bodyPost_ret (v := .agg #[.int .i64 5, .string NM, .string ⟨#[]⟩, .int .i64 0]) ?_ rfl ⟨_, ?_, HTS.out, ?_⟩
                · have hfin := Cs.all4 ((HC5.out.other _ 1 (.string NM) hne)) (a' := .int .i64 5) (b' := .string NM) (c' := .string ⟨#[]⟩) (d' := .int .i64 0)
                  have g0 := hfin.get 0 (.int .i64 5)
                  have g1 := hfin.get 1 (.string NM)
                  have g2 := hfin.get 2 (.string ⟨#[]⟩)
                  have g3 := hfin.get 3 (.int .i64 0)
                  generalize (((((w5.setCell ⟨w.heap.size + 1, 1, none⟩ (.string NM)).setCell ⟨w.heap.size, 0, none⟩ (.int .i64 5)).setCell ⟨w.heap.size, 1, none⟩ (.string NM)).setCell ⟨w.heap.size, 2, none⟩ (.string ⟨#[]⟩)).setCell ⟨w.heap.size, 3, none⟩ (.int .i64 0)) = WF at g0 g1 g2 g3 ⊢
                  simp [results, Tryd.results6, go_sem, g0, g1, g2, g3]
                · rw [HNM.out]; rfl
                · exact below_all4 (HB5.out.setCell (p := ⟨w.heap.size + 1, 1, none⟩) (by simp) (.string NM)) (Nat.le_refl _)
            | false =>
              rcases hk25 with rfl | rfl
              · go_wp2_with (go_at_call 11; refine (HMK.out _ _ _ HSLX.out).mono ?_; rintro e w5 ⟨rfl, hb5⟩; refine Hid.out ?_)
                refine Lib.hid ?_
                have HC5 := Lib.hid (HCM.out.below hb5)
                have hC2 := HCN.out.below hb5
                have HB5 := Lib.hid (HBM.out.trans (hb5.mono HBM.out.size))
                have k0 := HC5.out.get 0 (.int .i64 0)
                have k1 := HC5.out.get 1 (.string ⟨#[]⟩)
                have k2 := HC5.out.get 2 (.string ⟨#[]⟩)
                have k3 := HC5.out.get 3 (.int .i64 0)
                have kz0 := HC5.out.froz 0
                have kz1 := HC5.out.froz 1
                have kz2 := HC5.out.froz 2
                have kz3 := HC5.out.froz 3
                have l0 := hC2.get 0 (.int .i64 2)
                have l1 := hC2.get 1 (.string ⟨#[]⟩)
                have l2 := hC2.get 2 (.string ⟨#[]⟩)
                have l3 := hC2.get 3 (.int .i64 0)
                have lz1 := hC2.froz 1
                clear hb5 hC2 hq0 HMK
                go_wp2_with fail
                have hne : w.heap.size + 1 ≠ w.heap.size := by omega
                refine bodyPost_ret (v := .agg #[.int .i64 2, .string NM, .string ⟨#[]⟩, .int .i64 0]) ?_ rfl ⟨_, ?_, HTS.out, ?_⟩
                · have hfin := Cs.all4 ((HC5.out.other _ 1 (.string NM) hne)) (a' := .int .i64 2) (b' := .string NM) (c' := .string ⟨#[]⟩) (d' := .int .i64 0)
                  have g0 := hfin.get 0 (.int .i64 2)
                  have g1 := hfin.get 1 (.string NM)
                  have g2 := hfin.get 2 (.string ⟨#[]⟩)
                  have g3 := hfin.get 3 (.int .i64 0)
                  generalize (((((w5.setCell ⟨w.heap.size + 1, 1, none⟩ (.string NM)).setCell ⟨w.heap.size, 0, none⟩ (.int .i64 2)).setCell ⟨w.heap.size, 1, none⟩ (.string NM)).setCell ⟨w.heap.size, 2, none⟩ (.string ⟨#[]⟩)).setCell ⟨w.heap.size, 3, none⟩ (.int .i64 0)) = WF at g0 g1 g2 g3 ⊢
                  simp [results, Tryd.results6, go_sem, g0, g1, g2, g3]
                · rw [HNM.out]; rfl
                · exact below_all4 (HB5.out.setCell (p := ⟨w.heap.size + 1, 1, none⟩) (by simp) (.string NM)) (Nat.le_refl _)
              · go_wp2_with (go_at_call 11; refine (HMK.out _ _ _ HSLX.out).mono ?_; rintro e w5 ⟨rfl, hb5⟩; refine Hid.out ?_)
                refine Lib.hid ?_
                have HC5 := Lib.hid (HCM.out.below hb5)
                have hC2 := HCN.out.below hb5
                have HB5 := Lib.hid (HBM.out.trans (hb5.mono HBM.out.size))
                have k0 := HC5.out.get 0 (.int .i64 0)
                have k1 := HC5.out.get 1 (.string ⟨#[]⟩)
                have k2 := HC5.out.get 2 (.string ⟨#[]⟩)
                have k3 := HC5.out.get 3 (.int .i64 0)
                have kz0 := HC5.out.froz 0
                have kz1 := HC5.out.froz 1
                have kz2 := HC5.out.froz 2
                have kz3 := HC5.out.froz 3
                have l0 := hC2.get 0 (.int .i64 5)
                have l1 := hC2.get 1 (.string ⟨#[]⟩)
                have l2 := hC2.get 2 (.string ⟨#[]⟩)
                have l3 := hC2.get 3 (.int .i64 0)
                have lz1 := hC2.froz 1
                clear hb5 hC2 hq0 HMK
                go_wp2_with fail
                have hne : w.heap.size + 1 ≠ w.heap.size := by omega
                refine bodyPost_ret (v := .agg #[.int .i64 5, .string NM, .string ⟨#[]⟩, .int .i64 0]) ?_ rfl ⟨_, ?_, HTS.out, ?_⟩
                · have hfin := Cs.all4 ((HC5.out.other _ 1 (.string NM) hne)) (a' := .int .i64 5) (b' := .string NM) (c' := .string ⟨#[]⟩) (d' := .int .i64 0)
                  have g0 := hfin.get 0 (.int .i64 5)
                  have g1 := hfin.get 1 (.string NM)
                  have g2 := hfin.get 2 (.string ⟨#[]⟩)
                  have g3 := hfin.get 3 (.int .i64 0)
                  generalize (((((w5.setCell ⟨w.heap.size + 1, 1, none⟩ (.string NM)).setCell ⟨w.heap.size, 0, none⟩ (.int .i64 5)).setCell ⟨w.heap.size, 1, none⟩ (.string NM)).setCell ⟨w.heap.size, 2, none⟩ (.string ⟨#[]⟩)).setCell ⟨w.heap.size, 3, none⟩ (.int .i64 0)) = WF at g0 g1 g2 g3 ⊢
                  simp [results, Tryd.results6, go_sem, g0, g1, g2, g3]
                · rw [HNM.out]; rfl
                · exact below_all4 (HB5.out.setCell (p := ⟨w.heap.size + 1, 1, none⟩) (by simp) (.string NM)) (Nat.le_refl _)
end Go.Proofs.YtkdknfedieeenaaDoor
namespace Go.Proofs.YtkdknfedieeenaaDoor
open Go.RowKit
set_option linter.unusedVariables false
set_option linter.unusedSimpArgs false
set_option maxRecDepth 20000
attribute [local simp] putsF isV wordOf Deps Region.binds Region.wanted wantedX isB Act.put
theorem ad_follows : Tryd.prog.follows .mixedOrders = true := by kernel_rfl
theorem adtail_cons {P : Program} {Q : Exit → Act → World → Prop} (o : Oper) (os : List Oper) (a : Act) (w : World) : tailWp P Q (o :: os) a w = Oper.wp P o a w (fun a' w' => ∃ v, a' = a.put o.dst v ∧ tailWp P Q os a' w') Q := rfl
theorem adtail_nil {P : Program} {Q : Exit → Act → World → Prop} (a : Act) (w : World) : tailWp P Q [] a w = Q .normal a w := rfl
def litD (n : Nat) (vs : List Value) : Value → World → Prop := fun v w => ∃ g, v = .slice (some ⟨g, 0, none⟩) n n ∧ Cs w g vs
theorem litD_stays (n : Nat) (vs : List Value) : ∀ v w w', litD n vs v w → Goes w w' → litD n vs v w' := by
  rintro v w w' ⟨g, hx, hc⟩ he
  exact ⟨g, hx, hc.below he⟩
def atD (j : Nat) (vs : List Value) : Value → World → Prop := fun v w => ∃ g, v = .pointer (some ⟨g, j, none⟩) ∧ Cs w g vs
theorem atD_stays (j : Nat) (vs : List Value) : ∀ v w w', atD j vs v w → Goes w w' → atD j vs v w' := by
  rintro v w w' ⟨g, hx, hc⟩ he
  exact ⟨g, hx, hc.below he⟩
/-- Which byte a number chooses. -/
def pickA (y : Nat) : Nat := [0, 1, 128, 255, 192, y].getD (y % 6) 0
theorem pickA_lt {y : Nat} (h : y < 256) : pickA y < 256 := by
  have h6 : y % 6 < 6 := Nat.mod_lt _ (by omega)
  unfold pickA
  generalize y % 6 = j at h6
  match j, h6 with
  | 0, _ => simp
  | 1, _ => simp
  | 2, _ => simp
  | 3, _ => simp
  | 4, _ => simp
  | 5, _ => exact h
theorem pickA_cell (y : Nat) : ([.int .u8 0, .int .u8 1, .int .u8 128, .int .u8 255, .int .u8 192, .int .u8 y] : List Value)[y % 6]? = some (.int .u8 (pickA y)) := by
  have h6 : y % 6 < 6 := Nat.mod_lt _ (by omega)
  unfold pickA
  generalize y % 6 = j at h6
  match j, h6 with
  | 0, _ => rfl
  | 1, _ => rfl
  | 2, _ => rfl
  | 3, _ => rfl
  | 4, _ => rfl
  | 5, _ => rfl
def addrK (N : Nat) (l : List UInt8) : Nat → List UInt8
  | 0 => List.replicate N 0
  | k + 1 => if k < N then (addrK N l k).set (k * 7 % N) (UInt8.ofNat (pickA (l.getD k 0).toNat)) else addrK N l k
/-- The address that the statements make of numbers. -/
def addrD (six : Bool) (l : List UInt8) : List UInt8 := addrK (addrN six) l l.length
theorem addrK_len (N : Nat) (l : List UInt8) : ∀ k, (addrK N l k).length = N
  | 0 => by simp [addrK]
  | k + 1 => by
    have := addrK_len N l k
    unfold addrK
    split
    · simpa using this
    · exact this
theorem addrD_len (six : Bool) (l : List UInt8) : (addrD six l).length = addrN six := addrK_len _ _ _

set_option maxHeartbeats 8000000 in
theorem addrD_any (six : Bool) (A : Option Addr) (n c : Nat) (l : List UInt8) (w : World) (hA : Sl w w.heap.size 1 A n (l.map bv)) (hn : n ≤ 140737488355328) :
    Calls Tryd.prog 13 #[.bool six, .slice A n c] w fun e w' => e = .returned (.string ⟨(addrD six l).toArray⟩) ∧ Below w.heap.size w w' := by
  have hln : l.length = n := by simpa using hA.1
  have HLN := Lib.hid hln
  clear hln
  obtain ⟨i0, hi, hi0, hi1, hi2⟩ := info_parts pfx_info
  obtain ⟨N, hN⟩ : ∃ N, N = addrN six := ⟨_, rfl⟩
  have hN2 : N = 4 ∨ N = 16 := by rw [hN]; unfold addrN; cases six <;> simp
  have HN := Lib.hid hN
  clear hN
  go_enter Tryd.func13, Tryd.ntmps13
  go_upto_if 9 with (first
    | (at_make; refine wpList_make_full _ rfl _ _ 22 rfl w.heap.size 5 i0 (.int .u8 0) 1 Tryd.underlying22 hi hi0 hi1 _ _ _ _ 4 rfl rfl (by omega) (by omega) (by rw [hi2]; omega) (by unfold maxLen; omega) (by simp) ?_; intro w1 hown1 hg1))
  rw [show (madeCells (Value.int .u8 0).cells (4 * 1)).toList = (List.replicate 4 (0 : UInt8)).map bv by rw [Nat.mul_one, List.map_replicate]; exact toList_madeCells_one _ _] at hown1
  have hob1 := OB.of_own hown1 (below_grown_none (Below.refl _ _) hg1 (Nat.le_refl _)) hg1.size
  have hz1 := hg1.size
  clear hown1 hg1
  go_cut [5] (fun v wc => ∃ g, v = .slice (some ⟨g, 0, none⟩) N N ∧ OB w.heap.size w v N ((addrK N l 0).map bv) wc)
  case first =>
    cases six with
    | false =>
      obtain rfl : N = 4 := HN.out
      go_wp2_with fail
      go_meet
      exact ⟨_, rfl, hob1⟩
    | true =>
      obtain rfl : N = 16 := HN.out
      go_wp2_with (first
        | (at_make; refine wpList_make_full _ rfl _ _ 22 rfl w.heap.size 5 i0 (.int .u8 0) 1 Tryd.underlying22 hi hi0 hi1 _ _ _ _ 16 rfl rfl (by omega) (by omega) (by rw [hi2]; omega) (by unfold maxLen; omega) (by omega) ?_; intro w2 hown2 hg2))
      rw [show (madeCells (Value.int .u8 0).cells (16 * 1)).toList = (List.replicate 16 (0 : UInt8)).map bv by rw [Nat.mul_one, List.map_replicate]; exact toList_madeCells_one _ _] at hown2
      have hob2 := OB.of_own hown2 (below_grown_none hob1.bel hg2 hob1.base) (by have := hg2.size; omega)
      go_meet
      exact ⟨_, rfl, hob2⟩
  case rest =>
    obtain ⟨g, rfl, hob⟩ := hcut
    have hB := hob.lt g rfl
    have HO0 := Lib.hid hob
    clear hob hob1 hz1
    go_wp2_with fail
    go_loopw [13] (fun i wr => ∃ k : Nat, k ≤ n ∧ i = .int .i64 k ∧ Hid (OB w.heap.size w (.slice (some ⟨g, 0, none⟩) N N) N ((addrK N l k).map bv) wr)) (fun i _ => n - (intOf i).toNat)
    case atStart => exact ⟨0, Nat.zero_le _, rfl, HO0⟩
    case round =>
      obtain ⟨k, hk, rfl, HR⟩ := hrel
      have hb := HR.out
      by_cases hlt : k < n
      · obtain ⟨b, off, u, rfl, hbb, hu, hc⟩ := hA.at_ hlt
        have hcell : wr.cell? ⟨b, off + k, none⟩ = some u := (hb.bel.cell (p := ⟨b, off + k, none⟩) hbb).trans hc
        rw [List.getElem?_map] at hu
        obtain ⟨yc, hyc, rfl⟩ := Option.map_eq_some_iff.1 hu
        have h8 := UInt8.toNat_lt yc
        have hgd : l.getD k 0 = yc := by rw [List.getD_eq_getElem?_getD, hyc]; rfl
        have hnext : addrK N l (k + 1) = if k < N then (addrK N l k).set (k * 7 % N) (UInt8.ofNat (pickA yc.toNat)) else addrK N l k := by rw [← hgd]; rfl
        clear hgd
        simp only [bv] at hcell
        generalize yc.toNat = y at *
        clear hu hyc hc
        by_cases hkN : k < N
        · obtain ⟨p, hp⟩ : ∃ p, p = k * 7 % N := ⟨_, rfl⟩
          have hpN : p < N := by rw [hp]; exact Nat.mod_lt _ (by omega)
          have hm : (k : Int) * 7 % (N : Int) = (p : Int) := by rw [hp]; simp
          have hm2 : ((k : Int) * 7).tmod (N : Int) = (p : Int) := by rw [Int.tmod_eq_emod_of_nonneg (by omega)]; exact hm
          have e1 : IntKind.i64.wrap ((k : Int) * 7) = (k : Int) * 7 := IntWalk.i64_in _ (by omega)
          have e2 : IntKind.i64.wrap (p : Int) = (p : Int) := IntWalk.i64_in _ (by omega)
          have e3 : ¬ (N : Int) = 0 := by omega
          have e4 : 0 ≤ (y : Int) % 6 := by omega
          have e5 : (y : Int) % 6 < 6 := by omega
          have e6 : ((y : Int) % 6).toNat = y % 6 := by omega
          have e7 : IntKind.u8.wrap ((y : Int) % 6) = (y : Int) % 6 := by rw [IntKind.wrap_u8]; omega
          have e8 : (p : Int) < N := by omega
          have e9 : (y : Int).tmod 6 = (y : Int) % 6 := Int.tmod_eq_emod_of_nonneg (by omega)
          rw [if_pos hkN, ← hp] at hnext
          have hplt := pickA_lt h8
          have hcl6 := pickA_cell y
          have HN2 := Lib.hid hnext
          have HCL6 := Lib.hid hcl6
          have e3' : ¬ N = 0 := by omega
          clear hb hp hnext hcl6
          go_upto_region 8 with fail
          refine wp_region_tail ad_follows (fun x => by simp [putsF, Act.put]; rfl) (fun v => Below wr.heap.size wr v)
            [isV (.slice (some ⟨g, 0, none⟩) N N), isV (.int .i64 k), isV (.int .i64 (k * 7)), isV (.slice (some ⟨g, 0, none⟩) N N), isV (.int .i64 N), isV (.int .i64 p), isV (.int .u8 y), litD 6 [.int .u8 0, .int .u8 1, .int .u8 128, .int .u8 255, .int .u8 192, .int .u8 y], isV (.int .u8 y), isV (.int .u8 ((y : Int) % 6)),
             atD (y % 6) [.int .u8 0, .int .u8 1, .int .u8 128, .int .u8 255, .int .u8 192, .int .u8 y], isV (.int .u8 (pickA y)), isV (.pointer (some ⟨g, p, none⟩))]
            13 [] (by kernel_rfl) (by kernel_rfl) (by kernel_rfl) rfl (by kernel_rfl) (by kernel_rfl) ?_ (Below.refl _ _).drew ?_ ?_
          · repeat (first | exact trivial | refine ⟨by first | exact isV_stays _ | exact litD_stays _ _ | exact atD_stays _ _, ?_⟩)
          · refine ⟨?_, ?_, ?_, ?_, ?_, ?_, ?_, ?_, ?_, ?_, ?_, ?_, ?_, skipped rfl, trivial⟩
            all_goals
              intro _ x wx hR hd
              refine ⟨fun _ => ?_, fun hX => by simp at hX⟩
              simp at hd ⊢
            · go_simp; exact nextL _ rfl rfl hR (Below.refl _ _)
            · go_simp; exact nextL _ rfl rfl hR (Below.refl _ _)
            · go_simp; exact nextL _ rfl rfl hR (Below.refl _ _)
            · go_simp; exact nextL _ rfl rfl hR (Below.refl _ _)
            · go_simp; exact nextL _ rfl rfl hR (Below.refl _ _)
            · obtain ⟨hd0, hd1⟩ := hd
              go_simp; exact nextL _ rfl rfl hR (Below.refl _ _)
            · go_simp; exact nextL _ rfl rfl hR (Below.refl _ _)
            · go_simp; exact nextL _ rfl ⟨_, rfl, Cs.new _ _ _ _⟩ (hR.alloc hR.size _) ((Below.refl _ _).alloc (Nat.le_refl _) _)
            · go_simp; exact nextL _ rfl rfl hR (Below.refl _ _)
            · go_simp; exact nextL _ rfl rfl hR (Below.refl _ _)
            · obtain ⟨⟨h, hx7, hcs⟩, hd1⟩ := hd
              rw [hx7, hd1]
              go_simp; exact nextL _ rfl ⟨h, rfl, hcs⟩ hR (Below.refl _ _)
            · obtain ⟨h, hx10, hcs⟩ := hd
              rw [hx10]
              have hc0 := hcs.get (y % 6) _ HCL6.out
              go_simp; exact nextL _ rfl rfl hR (Below.refl _ _)
            · obtain ⟨hd1, hd2⟩ := hd
              go_simp; exact nextL _ rfl rfl hR (Below.refl _ _)
          intro x w5 hR5 hx _
          obtain ⟨-, -, -, -, -, -, -, -, -, -, -, x11, x12, -⟩ := hx
          have x11 : x 11 = .int .u8 (pickA y) := x11
          have x12 : x 12 = .pointer (some ⟨g, p, none⟩) := x12
          have hob5 := HR.out.keep hR5 (Nat.le_refl _)
          have hpl : p < ((addrK N l k).map bv).length := by rw [List.length_map, addrK_len]; exact hpN
          have m0 := hob5.cell p _ (List.getElem?_eq_getElem hpl)
          have f0 := hob5.frozen p hpN
          have hob6 := hob5.set p hpN (.int .u8 (pickA y))
          rw [show (.int .u8 (pickA y) : Value) = bv (UInt8.ofNat (pickA y)) by unfold bv; rw [UInt8.toNat_ofNat_of_lt' (by show _ < 256; exact hplt)], ← List.map_set, ← HN2.out, show bv (UInt8.ofNat (pickA y)) = (.int .u8 (pickA y) : Value) by unfold bv; rw [UInt8.toNat_ofNat_of_lt' (by show _ < 256; exact hplt)]] at hob6
          have HOB6 := Lib.hid hob6
          generalize ((addrK N l k).map bv)[p] = y0 at m0
          clear hob5 hob6 hpl
          change tailWp _ _ [_] _ _
          rw [adtail_cons, x11, x12]
          go_simp
          rw [adtail_nil]
          go_wp2_with fail
          go_roundw
          case rel => exact ⟨k + 1, by omega, by go_num, HOB6⟩
          case measure => simp [intOf]; omega
        · rw [if_neg hkN] at hnext
          have HN2 := Lib.hid hnext
          clear hnext hb
          go_wp2_with fail
          go_roundw
          case rel => exact ⟨k + 1, by omega, by go_num, by rw [HN2.out]; exact HR⟩
          case measure => simp [intOf]; omega
      · obtain rfl : k = n := by omega
        have hst := run_string_of (P := Tryd.prog) wr 22 9 5 _ _ N (addrK N l k) Tryd.underlying22 Tryd.underlying5 Tryd.underlying9 hb.sl (by intro h; cases h) N
        have hC : (⟨(addrK N l k).toArray⟩ : ByteArray) = ⟨(addrD six l).toArray⟩ := by unfold addrD; rw [HLN.out, HN.out]
        rw [hC] at hst
        obtain ⟨C, eC⟩ : ∃ C : ByteArray, C = ⟨(addrD six l).toArray⟩ := ⟨_, rfl⟩
        rw [← eC] at hst
        have HEC := Lib.hid eC
        have hbel := hb.bel
        clear hb eC hC
        go_wp2_with fail
        go_ret
        exact ⟨congrArg (fun q => Ending.returned (Value.string q)) HEC.out, hbel⟩
end Go.Proofs.YtkdknfedieeenaaDoor
namespace Go.Proofs.YtkdknfedieeenaaDoor
open Go.RowKit
set_option linter.unusedVariables false
set_option linter.unusedSimpArgs false
set_option maxRecDepth 20000
def nm5 (z : Int) : List UInt8 := five.getD (z % 5).toNat []
theorem five_cellD (w : World) (z : Int) (hz : 0 ≤ z) (T : TypeId) :
    ∃ l, l = nm5 z ∧ l ∈ five ∧ (w.alloc (.cells #[.string ⟨#[97]⟩, .string ⟨#[98]⟩, .string ⟨#[119, 119, 119]⟩, .string ⟨#[101, 120]⟩, .string ⟨#[111, 114, 103]⟩] T)).cell? ⟨w.heap.size, (z % 5).toNat, none⟩ = some (.string (baL l)) := by
  obtain ⟨k, hk, hk5⟩ : ∃ k : Nat, (z % 5).toNat = k ∧ k < 5 := ⟨_, rfl, by omega⟩
  unfold nm5
  rw [hk]
  have hl : k < five.length := hk5
  have e : five.getD k [] = five[k] := by rw [List.getD_eq_getElem?_getD, List.getElem?_eq_getElem hl]; rfl
  refine ⟨_, rfl, by rw [e]; exact List.getElem_mem hl, ?_⟩
  rw [e]
  have h := news_at w #[.string ⟨#[97]⟩, .string ⟨#[98]⟩, .string ⟨#[119, 119, 119]⟩, .string ⟨#[101, 120]⟩, .string ⟨#[111, 114, 103]⟩] T k (.string (baL five[k]))
  rw [Addr.add_lit, Nat.zero_add] at h
  apply h
  match k, hk5 with
  | 0, _ => rfl
  | 1, _ => rfl
  | 2, _ => rfl
  | 3, _ => rfl
  | 4, _ => rfl
def fewK (zs : List Int) (k : Nat) : List (List UInt8) := ((zs.take k).map nm5).take 5
theorem fewK_add {zs : List Int} {k : Nat} (h : k < zs.length) : ((fewK zs k).length < 5 → fewK zs k ++ [nm5 zs[k]] = fewK zs (k + 1)) ∧ (¬ (fewK zs k).length < 5 → fewK zs k = fewK zs (k + 1)) := by
  unfold fewK
  rw [List.take_succ_eq_append_getElem h, List.map_append]
  generalize (zs.take k).map nm5 = A
  constructor
  · intro hA
    have hl : A.length < 5 := by rw [List.length_take] at hA; omega
    rw [List.take_of_length_le (by omega), List.take_of_length_le (by simp; omega)]
    rfl
  · intro hA
    have hl : 5 ≤ A.length := by rw [List.length_take] at hA; omega
    rw [List.take_append_of_le_length hl]
theorem nm5_mem (z : Int) : nm5 z ∈ five := by
  obtain ⟨k, hk, hk5⟩ : ∃ k : Nat, (z % 5).toNat = k ∧ k < 5 := ⟨_, rfl, by omega⟩
  unfold nm5
  rw [hk]
  have hl : k < five.length := hk5
  rw [List.getD_eq_getElem?_getD, List.getElem?_eq_getElem hl]
  exact List.getElem_mem hl
theorem fewK_ok (zs : List Int) (k : Nat) : FewX (fewK zs k) := by
  refine ⟨fun x hx => ?_, by unfold fewK; rw [List.length_take]; omega⟩
  obtain ⟨z, _, rfl⟩ := List.mem_map.1 (List.mem_of_mem_take hx)
  exact nm5_mem z
def bytesZ (zs : List Int) : List UInt8 := zs.map fun z => UInt8.ofNat z.toNat
theorem bytesZ_map (zs : List Int) (h : ∀ z ∈ zs, 0 ≤ z ∧ z < 256) : zs.map (Value.int .u8) = (bytesZ zs).map bv := by
  unfold bytesZ
  rw [List.map_map]
  apply List.map_congr_left
  intro z hz
  have := h z hz
  simp only [Function.comp, bv]
  rw [UInt8.toNat_ofNat_of_lt' (by show _ < 256; omega), Int.toNat_of_nonneg this.1]
def namD (tk : Int) (zs : List Int) : List (List UInt8) := if fewK zs zs.length = [] ∧ (tk = 1 ∨ tk = 4) then [[97]] else fewK zs zs.length
def bitsD (six : Bool) (bits : Int) : Int := bits % ((8 * addrN six + 1 : Nat) : Int)
/-- The trigger that the statements make of numbers. -/
def trigD (kd : Int) (zs : List Int) (six : Bool) (bits : Int) : Trig :=
  if kd % 7 = 0 ∨ kd % 7 = 3 ∨ kd % 7 = 6 then ⟨kd % 7, [], cutL (addrD six (bytesZ zs)) (bitsD six bits).toNat, bitsD six bits⟩ else ⟨kd % 7, (makeL (namD (kd % 7) zs)).getD [], [], 0⟩
structure TrigIs (kd : Int) (t T : Trig) : Prop where
  ok : TrigOk kd t
  eq : t = T

set_option maxHeartbeats 16000000 in
theorem trigD_any (kd : Int) (hkd : 0 ≤ kd ∧ kd ≤ 255) (A : Option Addr) (n c : Nat) (zs : List Int) (six : Bool) (bits : Int) (hb : 0 ≤ bits ∧ bits ≤ 255) (w : World)
    (hA : Sl w w.heap.size 1 A n (zs.map (Value.int .u8))) (hz : ∀ z ∈ zs, 0 ≤ z ∧ z < 256) (hn : n ≤ 140737488355328) :
    Calls Tryd.prog 6 #[.int .u8 kd, .slice A n c, .bool six, .int .u8 bits] w fun e w' => ∃ t : Trig, e = .returned (trigA t) ∧ TrigIs kd t (trigD kd zs six bits) ∧ Below w.heap.size w w' := by
  obtain ⟨i0, hi, hz0, hz1, hz2⟩ := info_parts str_info
  obtain ⟨tk, htk⟩ : ∃ tk, tk = kd % 7 := ⟨_, rfl⟩
  have ht7 : 0 ≤ tk ∧ tk < 7 := by omega
  have hmod : kd.tmod 7 = tk := by rw [Int.tmod_eq_emod_of_nonneg hkd.1, htk]
  have hw8 : IntKind.u8.wrap tk = tk := by rw [IntKind.wrap_u8]; omega
  obtain ⟨W0, hW0⟩ : ∃ W0, W0 = (w.alloc (.cells #[.int .i64 0, .string ⟨#[]⟩, .string ⟨#[]⟩, .int .i64 0] 33)).alloc (.cells #[.int .i64 tk, .string ⟨#[]⟩, .string ⟨#[]⟩, .int .i64 0] 33) := ⟨_, rfl⟩
  have hc1 : Cs W0 w.heap.size [.int .i64 0, .string ⟨#[]⟩, .string ⟨#[]⟩, .int .i64 0] := by rw [hW0]; exact (Cs.new w _ _ _).alloc _
  have hc2 : Cs W0 (w.heap.size + 1) [.int .i64 tk, .string ⟨#[]⟩, .string ⟨#[]⟩, .int .i64 0] := by
    rw [hW0]
    exact (Cs.new (w.alloc (.cells #[.int .i64 0, .string ⟨#[]⟩, .string ⟨#[]⟩, .int .i64 0] 33)) _ _ _).at_ _ (by simp)
  have hb0 : Below w.heap.size w W0 := by
    rw [hW0]
    have h1 := (Below.refl w.heap.size w).alloc (Nat.le_refl _) (.cells #[.int .i64 0, .string ⟨#[]⟩, .string ⟨#[]⟩, .int .i64 0] 33)
    exact h1.alloc h1.size _
  have hs0 : W0.heap.size = w.heap.size + 2 := by rw [hW0]; simp
  have hA0 := (hA.below hb0).more hb0.size
  by_cases hp : tk = 0 ∨ tk = 3 ∨ tk = 6
  · have hl := bytesZ_map zs hz
    have had : Calls Tryd.prog 13 #[.bool six, .slice A n c] W0 fun e w' => ∃ s : ByteArray, (s.size = addrN six ∧ s.data.toList = addrD six (bytesZ zs)) ∧ e = .returned (.string s) ∧ Below W0.heap.size W0 w' := by
      refine (addrD_any six A n c (bytesZ zs) W0 (by rw [← hl]; exact hA0) hn).mono ?_
      rintro e w' ⟨rfl, hb⟩
      exact ⟨_, ⟨by rw [mk_size]; exact addrD_len _ _, by simp⟩, rfl, hb⟩
    obtain ⟨M, hM⟩ : ∃ M : Nat, M = 8 * addrN six + 1 := ⟨_, rfl⟩
    obtain ⟨m, hm⟩ : ∃ m : Nat, (m : Int) = bits % M := ⟨(bits % M).toNat, by have : (0 : Int) < M := by omega
                                                                              have := Int.emod_nonneg bits (show (M : Int) ≠ 0 by omega); omega⟩
    have hmM : m < M := by have := Int.emod_lt_of_pos bits (show (0 : Int) < M by omega); omega
    have hmt : bits.tmod (M : Int) = m := by rw [Int.tmod_eq_emod_of_nonneg hb.1, hm]
    have hMl : M = 33 ∨ M = 129 := by rw [hM]; cases six <;> simp [addrN]
    have hMM : (8 : Int) * (addrN six : Int) + 1 = M := by omega
    have hmw : IntKind.i64.wrap (m : Int) = m := IntWalk.i64_in _ (by omega)
    have hm0 : ¬ (M : Int) = 0 := by omega
    have hsl : addrN six = 4 ∨ addrN six = 16 := by cases six <;> simp [addrN]
    have hbm : bitsD six bits = m := by unfold bitsD; rw [← hM, hm]
    have hTO : ∀ (s : ByteArray), (s.size = addrN six ∧ s.data.toList = addrD six (bytesZ zs)) → TrigIs kd ⟨kd % 7, [], cutL s.data.toList m, m⟩ (trigD kd zs six bits) := fun s h => ⟨trigPfx_ok (kd := kd) (by rw [← htk]; exact hp) (l := s.data.toList) (m := m) (by rw [show s.data.toList.length = s.size by simp, h.1]; exact addrN_ok six) (by rw [show s.data.toList.length = s.size by simp, h.1]; omega), by
      unfold trigD
      rw [if_pos (by rw [← htk]; exact hp), hbm, h.2, Int.toNat_natCast]⟩
    rw [← htk] at hTO
    have HMB := Lib.hid (show m ≤ 8 * addrN six by omega)
    have HAD := Lib.hid had
    have HTO := Lib.hid hTO
    have HC1 := Lib.hid hc1
    have HC2 := Lib.hid hc2
    have HB0 := Lib.hid hb0
    have HS0 := Lib.hid hs0
    have HW0 := Lib.hid hW0
    obtain ⟨Z, hZ⟩ : ∃ Z, Z = addrN six := ⟨_, rfl⟩
    rw [← hZ] at hMM hsl
    have HZ := Lib.hid hZ
    clear had hTO hc1 hc2 hb0 hs0 hW0 hZ hA0 hl hA hz hM hm htk hmM hbm
    rcases hp with rfl | rfl | rfl
    · go_enter Tryd.func6, Tryd.ntmps6
      go_wp2_with (go_at_call 13; rw [← HW0.out]; refine HAD.out.mono ?_; rintro e w1 ⟨s, ⟨hs, hsd⟩, rfl, hb1⟩; refine Hid.out ?_)
      refine Lib.hid ?_
      have HTS := Lib.hid (HTO.out s ⟨hs, hsd⟩)
      have hcut := fun w h => pcut_yes s.data.toList m w (by rw [show s.data.toList.length = s.size by simp, hs]; exact addrN_ok six) h
      rw [ba_eta] at hcut
      have hcut := fun w => hcut w (by rw [show s.data.toList.length = s.size by simp, hs]; exact HMB.out)
      obtain ⟨CB, hCB⟩ : ∃ CB, CB = baL (cutL s.data.toList m) := ⟨_, rfl⟩
      rw [show (⟨(cutL s.data.toList m).toArray⟩ : ByteArray) = CB by rw [hCB]; rfl] at hcut
      have hsZ : s.size = Z := by rw [hs, HZ.out]
      have HCUT := Lib.hid hcut
      have HCB := Lib.hid hCB
      have HC11 := Lib.hid (HC1.out.below hb1)
      have HC21 := Lib.hid (HC2.out.below hb1)
      have HB1 := Lib.hid (HB0.out.trans (hb1.mono HB0.out.size))
      clear hcut hCB hs hsd hb1
      go_wp2_with (go_at_call 14; refine (HCUT.out _).mono ?_; rintro e w2 ⟨rfl, hb2⟩; refine Hid.out ?_)
      refine Lib.hid ?_
      have hC1 := HC11.out.below hb2
      have hC2 := HC21.out.below hb2
      have HB2 := Lib.hid (HB1.out.trans (hb2.mono HB1.out.size))
      have k0 := hC1.get 0 (.int .i64 0)
      have k1 := hC1.get 1 (.string ⟨#[]⟩)
      have k2 := hC1.get 2 (.string ⟨#[]⟩)
      have k3 := hC1.get 3 (.int .i64 0)
      have kz0 := hC1.froz 0
      have kz1 := hC1.froz 1
      have kz2 := hC1.froz 2
      have kz3 := hC1.froz 3
      have l0 := hC2.get 0 (.int .i64 0)
      have l1 := hC2.get 1 (.string ⟨#[]⟩)
      have l2 := hC2.get 2 (.string ⟨#[]⟩)
      have l3 := hC2.get 3 (.int .i64 0)
      have lz0 := hC2.froz 0
      have lz1 := hC2.froz 1
      have lz2 := hC2.froz 2
      have lz3 := hC2.froz 3
      have HC1' := Lib.hid hC1
      clear hC1 hC2 hb2 HC11 HC21 HCUT HB1
      have hne : w.heap.size + 1 ≠ w.heap.size := by omega
      go_wp2_with fail
      refine bodyPost_ret (v := .agg #[.int .i64 0, .string ⟨#[]⟩, .string CB, .int .i64 m]) ?_ rfl ⟨_, ?_, HTS.out, ?_⟩
      · have hfin := Cs.all4 (((HC1'.out.other _ 2 (.string CB) hne).other _ 3 (.int .i64 m) hne)) (a' := .int .i64 0) (b' := .string ⟨#[]⟩) (c' := .string CB) (d' := .int .i64 m)
        have g0 := hfin.get 0 (.int .i64 0)
        have g1 := hfin.get 1 (.string ⟨#[]⟩)
        have g2 := hfin.get 2 (.string CB)
        have g3 := hfin.get 3 (.int .i64 m)
        generalize ((((((w2.setCell ⟨w.heap.size + 1, 2, none⟩ (.string CB)).setCell ⟨w.heap.size + 1, 3, none⟩ (.int .i64 m)).setCell ⟨w.heap.size, 0, none⟩ (.int .i64 0)).setCell ⟨w.heap.size, 1, none⟩ (.string ⟨#[]⟩)).setCell ⟨w.heap.size, 2, none⟩ (.string CB)).setCell ⟨w.heap.size, 3, none⟩ (.int .i64 m)) = WF at g0 g1 g2 g3 ⊢
        simp [results, Tryd.results6, go_sem, g0, g1, g2, g3]
      · rw [HCB.out]; rfl
      · exact below_all4 ((HB2.out.setCell (p := ⟨w.heap.size + 1, 2, none⟩) (by simp) (.string CB)).setCell (p := ⟨w.heap.size + 1, 3, none⟩) (by simp) (.int .i64 m)) (Nat.le_refl _)
    · go_enter Tryd.func6, Tryd.ntmps6
      go_wp2_with (go_at_call 13; rw [← HW0.out]; refine HAD.out.mono ?_; rintro e w1 ⟨s, ⟨hs, hsd⟩, rfl, hb1⟩; refine Hid.out ?_)
      refine Lib.hid ?_
      have HTS := Lib.hid (HTO.out s ⟨hs, hsd⟩)
      have hcut := fun w h => pcut_yes s.data.toList m w (by rw [show s.data.toList.length = s.size by simp, hs]; exact addrN_ok six) h
      rw [ba_eta] at hcut
      have hcut := fun w => hcut w (by rw [show s.data.toList.length = s.size by simp, hs]; exact HMB.out)
      obtain ⟨CB, hCB⟩ : ∃ CB, CB = baL (cutL s.data.toList m) := ⟨_, rfl⟩
      rw [show (⟨(cutL s.data.toList m).toArray⟩ : ByteArray) = CB by rw [hCB]; rfl] at hcut
      have hsZ : s.size = Z := by rw [hs, HZ.out]
      have HCUT := Lib.hid hcut
      have HCB := Lib.hid hCB
      have HC11 := Lib.hid (HC1.out.below hb1)
      have HC21 := Lib.hid (HC2.out.below hb1)
      have HB1 := Lib.hid (HB0.out.trans (hb1.mono HB0.out.size))
      clear hcut hCB hs hsd hb1
      go_wp2_with (go_at_call 14; refine (HCUT.out _).mono ?_; rintro e w2 ⟨rfl, hb2⟩; refine Hid.out ?_)
      refine Lib.hid ?_
      have hC1 := HC11.out.below hb2
      have hC2 := HC21.out.below hb2
      have HB2 := Lib.hid (HB1.out.trans (hb2.mono HB1.out.size))
      have k0 := hC1.get 0 (.int .i64 0)
      have k1 := hC1.get 1 (.string ⟨#[]⟩)
      have k2 := hC1.get 2 (.string ⟨#[]⟩)
      have k3 := hC1.get 3 (.int .i64 0)
      have kz0 := hC1.froz 0
      have kz1 := hC1.froz 1
      have kz2 := hC1.froz 2
      have kz3 := hC1.froz 3
      have l0 := hC2.get 0 (.int .i64 3)
      have l1 := hC2.get 1 (.string ⟨#[]⟩)
      have l2 := hC2.get 2 (.string ⟨#[]⟩)
      have l3 := hC2.get 3 (.int .i64 0)
      have lz0 := hC2.froz 0
      have lz1 := hC2.froz 1
      have lz2 := hC2.froz 2
      have lz3 := hC2.froz 3
      have HC1' := Lib.hid hC1
      clear hC1 hC2 hb2 HC11 HC21 HCUT HB1
      have hne : w.heap.size + 1 ≠ w.heap.size := by omega
      go_wp2_with fail
      refine bodyPost_ret (v := .agg #[.int .i64 3, .string ⟨#[]⟩, .string CB, .int .i64 m]) ?_ rfl ⟨_, ?_, HTS.out, ?_⟩
      · have hfin := Cs.all4 (((HC1'.out.other _ 2 (.string CB) hne).other _ 3 (.int .i64 m) hne)) (a' := .int .i64 3) (b' := .string ⟨#[]⟩) (c' := .string CB) (d' := .int .i64 m)
        have g0 := hfin.get 0 (.int .i64 3)
        have g1 := hfin.get 1 (.string ⟨#[]⟩)
        have g2 := hfin.get 2 (.string CB)
        have g3 := hfin.get 3 (.int .i64 m)
        generalize ((((((w2.setCell ⟨w.heap.size + 1, 2, none⟩ (.string CB)).setCell ⟨w.heap.size + 1, 3, none⟩ (.int .i64 m)).setCell ⟨w.heap.size, 0, none⟩ (.int .i64 3)).setCell ⟨w.heap.size, 1, none⟩ (.string ⟨#[]⟩)).setCell ⟨w.heap.size, 2, none⟩ (.string CB)).setCell ⟨w.heap.size, 3, none⟩ (.int .i64 m)) = WF at g0 g1 g2 g3 ⊢
        simp [results, Tryd.results6, go_sem, g0, g1, g2, g3]
      · rw [HCB.out]; rfl
      · exact below_all4 ((HB2.out.setCell (p := ⟨w.heap.size + 1, 2, none⟩) (by simp) (.string CB)).setCell (p := ⟨w.heap.size + 1, 3, none⟩) (by simp) (.int .i64 m)) (Nat.le_refl _)
    · go_enter Tryd.func6, Tryd.ntmps6
      go_wp2_with (go_at_call 13; rw [← HW0.out]; refine HAD.out.mono ?_; rintro e w1 ⟨s, ⟨hs, hsd⟩, rfl, hb1⟩; refine Hid.out ?_)
      refine Lib.hid ?_
      have HTS := Lib.hid (HTO.out s ⟨hs, hsd⟩)
      have hcut := fun w h => pcut_yes s.data.toList m w (by rw [show s.data.toList.length = s.size by simp, hs]; exact addrN_ok six) h
      rw [ba_eta] at hcut
      have hcut := fun w => hcut w (by rw [show s.data.toList.length = s.size by simp, hs]; exact HMB.out)
      obtain ⟨CB, hCB⟩ : ∃ CB, CB = baL (cutL s.data.toList m) := ⟨_, rfl⟩
      rw [show (⟨(cutL s.data.toList m).toArray⟩ : ByteArray) = CB by rw [hCB]; rfl] at hcut
      have hsZ : s.size = Z := by rw [hs, HZ.out]
      have HCUT := Lib.hid hcut
      have HCB := Lib.hid hCB
      have HC11 := Lib.hid (HC1.out.below hb1)
      have HC21 := Lib.hid (HC2.out.below hb1)
      have HB1 := Lib.hid (HB0.out.trans (hb1.mono HB0.out.size))
      clear hcut hCB hs hsd hb1
      go_wp2_with (go_at_call 14; refine (HCUT.out _).mono ?_; rintro e w2 ⟨rfl, hb2⟩; refine Hid.out ?_)
      refine Lib.hid ?_
      have hC1 := HC11.out.below hb2
      have hC2 := HC21.out.below hb2
      have HB2 := Lib.hid (HB1.out.trans (hb2.mono HB1.out.size))
      have k0 := hC1.get 0 (.int .i64 0)
      have k1 := hC1.get 1 (.string ⟨#[]⟩)
      have k2 := hC1.get 2 (.string ⟨#[]⟩)
      have k3 := hC1.get 3 (.int .i64 0)
      have kz0 := hC1.froz 0
      have kz1 := hC1.froz 1
      have kz2 := hC1.froz 2
      have kz3 := hC1.froz 3
      have l0 := hC2.get 0 (.int .i64 6)
      have l1 := hC2.get 1 (.string ⟨#[]⟩)
      have l2 := hC2.get 2 (.string ⟨#[]⟩)
      have l3 := hC2.get 3 (.int .i64 0)
      have lz0 := hC2.froz 0
      have lz1 := hC2.froz 1
      have lz2 := hC2.froz 2
      have lz3 := hC2.froz 3
      have HC1' := Lib.hid hC1
      clear hC1 hC2 hb2 HC11 HC21 HCUT HB1
      have hne : w.heap.size + 1 ≠ w.heap.size := by omega
      go_wp2_with fail
      refine bodyPost_ret (v := .agg #[.int .i64 6, .string ⟨#[]⟩, .string CB, .int .i64 m]) ?_ rfl ⟨_, ?_, HTS.out, ?_⟩
      · have hfin := Cs.all4 (((HC1'.out.other _ 2 (.string CB) hne).other _ 3 (.int .i64 m) hne)) (a' := .int .i64 6) (b' := .string ⟨#[]⟩) (c' := .string CB) (d' := .int .i64 m)
        have g0 := hfin.get 0 (.int .i64 6)
        have g1 := hfin.get 1 (.string ⟨#[]⟩)
        have g2 := hfin.get 2 (.string CB)
        have g3 := hfin.get 3 (.int .i64 m)
        generalize ((((((w2.setCell ⟨w.heap.size + 1, 2, none⟩ (.string CB)).setCell ⟨w.heap.size + 1, 3, none⟩ (.int .i64 m)).setCell ⟨w.heap.size, 0, none⟩ (.int .i64 6)).setCell ⟨w.heap.size, 1, none⟩ (.string ⟨#[]⟩)).setCell ⟨w.heap.size, 2, none⟩ (.string CB)).setCell ⟨w.heap.size, 3, none⟩ (.int .i64 m)) = WF at g0 g1 g2 g3 ⊢
        simp [results, Tryd.results6, go_sem, g0, g1, g2, g3]
      · rw [HCB.out]; rfl
      · exact below_all4 ((HB2.out.setCell (p := ⟨w.heap.size + 1, 2, none⟩) (by simp) (.string CB)).setCell (p := ⟨w.heap.size + 1, 3, none⟩) (by simp) (.int .i64 m)) (Nat.le_refl _)
  · have e0 : (tk == 0) = false := by rw [beq_eq_false_iff_ne]; omega
    have e3 : (tk == 3) = false := by rw [beq_eq_false_iff_ne]; omega
    have e6 : (tk == 6) = false := by rw [beq_eq_false_iff_ne]; omega
    have hTO : ∀ (X : List (List UInt8)), FewX X → (kd % 7 = 1 ∨ kd % 7 = 4 → X ≠ []) → X = namD (kd % 7) zs → TrigIs kd ⟨kd % 7, (makeL X).getD [], [], 0⟩ (trigD kd zs six bits) := fun X h hne hX => ⟨trigNam_ok hkd.1 (by rw [← htk]; exact hp) h hne, by
      unfold trigD
      rw [if_neg (by rw [← htk]; exact hp), hX]⟩
    rw [← htk] at hTO
    have HTO := Lib.hid hTO
    have HC1 := Lib.hid hc1
    have HC2 := Lib.hid hc2
    have HB0 := Lib.hid hb0
    have HS0 := Lib.hid hs0
    have HW0 := Lib.hid hW0
    have HA0 := Lib.hid hA0
    have HZ := Lib.hid hz
    have hzl : zs.length = n := by simpa using hA0.1
    have HZL := Lib.hid hzl
    have ht4 : tk = 1 ∨ tk = 2 ∨ tk = 4 ∨ tk = 5 := by omega
    have HT4 := Lib.hid ht4
    clear hTO hc1 hc2 hb0 hs0 hW0 hA0 hz hA hzl ht4 hp htk
    go_enter Tryd.func6, Tryd.ntmps6
    go_upto_region 5 with fail
    rw [← HW0.out]
    go_loopw [11, 22] (fun v i wr => ∃ (k : Nat) (X : List (List UInt8)), k ≤ n ∧ i = .int .i64 k ∧ Hid (X = fewK zs k) ∧ Buf W0.heap.size 9 W0 v X.length (X.map sv) wr) (fun _ i _ => n - (intOf i).toNat)
    case atStart => exact ⟨0, [], Nat.zero_le _, rfl, Lib.hid (by simp [fewK]), Buf.start _ _⟩
    case round =>
      obtain ⟨k, X, hk, rfl, HXE, hb⟩ := hrel
      have HFX : Hid (FewX X) := Lib.hid (by rw [HXE.out]; exact fewK_ok zs k)
      have hXl := HFX.out.len
      obtain ⟨D, cd, rfl, hd1, hd2, hd3⟩ := hb.slice
      by_cases hlt : k < n
      · have hlt' : (k : Int) < n := by omega
        obtain ⟨b, off, u, rfl, hbb, hu, hc⟩ := (HA0.out.below hb.below).at_ hlt
        have hkl : k < zs.length := by rw [HZL.out]; exact hlt
        have hcell : wr.cell? ⟨b, off + k, none⟩ = some (.int .u8 zs[k]) := by
          rw [hc]
          simp only [List.getElem?_map, List.getElem?_eq_getElem hkl, Option.map_some] at hu
          exact hu.symm
        have hzk := HZ.out zs[k] (List.getElem_mem hkl)
        have hfa := fewK_add hkl
        rw [← HXE.out] at hfa
        generalize zs[k] = z at *
        have HFA := Lib.hid hfa
        clear hfa
        obtain ⟨z0, z1⟩ := hzk
        clear hc hu hd3
        by_cases h5 : X.length < 5
        · have h5i : (X.length : Int) < 5 := by omega
          have a1 : 0 ≤ z % 5 := by omega
          have a2 : z % 5 < 5 := by omega
          obtain ⟨l5, hl5n, hl5, hcl5⟩ := five_cellD wr z z0 9
          obtain ⟨S5, hS5⟩ : ∃ S, S = baL l5 := ⟨_, rfl⟩
          rw [← hS5] at hcl5
          have HFN : Hid (X ++ [l5] = fewK zs (k + 1)) := Lib.hid (by rw [hl5n]; exact HFA.out.1 h5)
          have hmap : (X ++ [l5]).map sv = X.map sv ++ [.string S5] := by rw [List.map_append, hS5]; rfl
          have HM := Lib.hid hmap
          have hb1 := hb.alloc (.cells #[.string ⟨#[97]⟩, .string ⟨#[98]⟩, .string ⟨#[119, 119, 119]⟩, .string ⟨#[101, 120]⟩, .string ⟨#[111, 114, 103]⟩] 9)
          clear hmap hS5 hl5 hl5n
          go_wp2_with (at_builtin; go_loud (refine wpList_append_one rfl _ _ 34 rfl W0.heap.size 9 i0 _ 16 Tryd.underlying34 hi hz0 hz1 hz2 rfl hb1 rfl ?hx rfl ?c1 ?c2 ?_))
          case hx => exact congrArg (fun q => Value.slice (some ⟨q, 0, none⟩) 1 1) (by simp)
          case c1 => unfold maxLen; omega
          case c2 => omega
          intro v' w2 hb2
          have HB2 := Lib.hid hb2
          clear hb2 hb1
          go_wp2
          go_roundw
          case rel => exact ⟨k + 1, X ++ [l5], by omega, by go_num, HFN, by rw [HM.out, List.length_append]; exact HB2.out⟩
          case measure => simp [intOf]; omega
        · have h5i : ¬ (X.length : Int) < 5 := by omega
          go_wp2_with fail
          go_roundw
          case rel => exact ⟨k + 1, X, by omega, by go_num, Lib.hid (HFA.out.2 h5), hb⟩
          case measure => simp [intOf]; omega
      · have hkz : k = zs.length := by have := HZL.out; omega
        have HXN : Hid (X = fewK zs zs.length) := Lib.hid (by rw [← hkz]; exact HXE.out)
        clear hkz
        have hlt' : ¬ (k : Int) < n := by omega
        have HC1w := Lib.hid (HC1.out.below hb.below)
        have HC2w := Lib.hid (HC2.out.below hb.below)
        have HBw := Lib.hid (HB0.out.trans (hb.below.mono HB0.out.size))
        have hq0 := HC2w.out.get 0 (.int .i64 tk)
        have HSLX := Lib.hid hb.sl
        clear hb hd3 HC1 HC2 HB0 HA0 HZ HZL HW0 HS0
        by_cases hsp : X = [] ∧ (tk = 1 ∨ tk = 4)
        · obtain ⟨hX0, ht⟩ := hsp
          have hxl : ((X.length : Int) == 0) = true := by rw [hX0]; rfl
          have hA5 : FewX [[97]] := ⟨by decide, by decide⟩
          have HTS := Lib.hid (HTO.out [[97]] hA5 (fun _ => by simp) (by unfold namD; rw [← HXN.out, if_pos ⟨hX0, ht⟩]))
          obtain ⟨NM, hNM⟩ : ∃ N, N = baL ((makeL [[97]]).getD []) := ⟨_, rfl⟩
          have hmk := fun A c w h => makeX_any A 1 c [[97]] w h (fun x hx => by have := (five_ok x (hA5.mem x hx)).2.2.2; unfold maxLen; omega) (by unfold maxLen; decide)
          rw [show sv ((makeL [[97]]).getD []) = .string NM by rw [hNM]; rfl] at hmk
          have HMK := Lib.hid hmk
          have HNM := Lib.hid hNM
          clear hmk hNM
          have HCM := Lib.hid (HC1w.out.alloc (.cells #[.string ⟨#[97]⟩] 9))
          have HCN := Lib.hid (HC2w.out.alloc (.cells #[.string ⟨#[97]⟩] 9))
          have HBM := Lib.hid (HBw.out.alloc HBw.out.size (.cells #[.string ⟨#[97]⟩] 9))
          have HSLM := Lib.hid (Sl.fresh wr #[.string ⟨#[97]⟩] 9 1 _ rfl rfl)
          clear HTO HT4 e0 e3 e6 hX0 HSLX HFX hXl
          rcases ht with rfl | rfl
          · go_wp2_with (go_at_call 11; refine (HMK.out _ _ _ HSLM.out).mono ?_; rintro e w5 ⟨rfl, hb5⟩; refine Hid.out ?_)
            refine Lib.hid ?_
            have HC5 := Lib.hid (HCM.out.below hb5)
            have hC2 := HCN.out.below hb5
            have HB5 := Lib.hid (HBM.out.trans (hb5.mono HBM.out.size))
            have k0 := HC5.out.get 0 (.int .i64 0)
            have k1 := HC5.out.get 1 (.string ⟨#[]⟩)
            have k2 := HC5.out.get 2 (.string ⟨#[]⟩)
            have k3 := HC5.out.get 3 (.int .i64 0)
            have kz0 := HC5.out.froz 0
            have kz1 := HC5.out.froz 1
            have kz2 := HC5.out.froz 2
            have kz3 := HC5.out.froz 3
            have l0 := hC2.get 0 (.int .i64 1)
            have l1 := hC2.get 1 (.string ⟨#[]⟩)
            have l2 := hC2.get 2 (.string ⟨#[]⟩)
            have l3 := hC2.get 3 (.int .i64 0)
            have lz1 := hC2.froz 1
            clear hb5 hC2 hq0 HMK
            go_wp2_with fail
            have hne : w.heap.size + 1 ≠ w.heap.size := by omega
            refine bodyPost_ret (v := .agg #[.int .i64 1, .string NM, .string ⟨#[]⟩, .int .i64 0]) ?_ rfl ⟨_, ?_, HTS.out, ?_⟩
            · have hfin := Cs.all4 ((HC5.out.other _ 1 (.string NM) hne)) (a' := .int .i64 1) (b' := .string NM) (c' := .string ⟨#[]⟩) (d' := .int .i64 0)
              have g0 := hfin.get 0 (.int .i64 1)
              have g1 := hfin.get 1 (.string NM)
              have g2 := hfin.get 2 (.string ⟨#[]⟩)
              have g3 := hfin.get 3 (.int .i64 0)
              generalize (((((w5.setCell ⟨w.heap.size + 1, 1, none⟩ (.string NM)).setCell ⟨w.heap.size, 0, none⟩ (.int .i64 1)).setCell ⟨w.heap.size, 1, none⟩ (.string NM)).setCell ⟨w.heap.size, 2, none⟩ (.string ⟨#[]⟩)).setCell ⟨w.heap.size, 3, none⟩ (.int .i64 0)) = WF at g0 g1 g2 g3 ⊢
              simp [results, Tryd.results6, go_sem, g0, g1, g2, g3]
            · rw [HNM.out]; rfl
            · exact below_all4 (HB5.out.setCell (p := ⟨w.heap.size + 1, 1, none⟩) (by simp) (.string NM)) (Nat.le_refl _)
          · go_wp2_with (go_at_call 11; refine (HMK.out _ _ _ HSLM.out).mono ?_; rintro e w5 ⟨rfl, hb5⟩; refine Hid.out ?_)
            refine Lib.hid ?_
            have HC5 := Lib.hid (HCM.out.below hb5)
            have hC2 := HCN.out.below hb5
            have HB5 := Lib.hid (HBM.out.trans (hb5.mono HBM.out.size))
            have k0 := HC5.out.get 0 (.int .i64 0)
            have k1 := HC5.out.get 1 (.string ⟨#[]⟩)
            have k2 := HC5.out.get 2 (.string ⟨#[]⟩)
            have k3 := HC5.out.get 3 (.int .i64 0)
            have kz0 := HC5.out.froz 0
            have kz1 := HC5.out.froz 1
            have kz2 := HC5.out.froz 2
            have kz3 := HC5.out.froz 3
            have l0 := hC2.get 0 (.int .i64 4)
            have l1 := hC2.get 1 (.string ⟨#[]⟩)
            have l2 := hC2.get 2 (.string ⟨#[]⟩)
            have l3 := hC2.get 3 (.int .i64 0)
            have lz1 := hC2.froz 1
            clear hb5 hC2 hq0 HMK
            go_wp2_with fail
            have hne : w.heap.size + 1 ≠ w.heap.size := by omega
            refine bodyPost_ret (v := .agg #[.int .i64 4, .string NM, .string ⟨#[]⟩, .int .i64 0]) ?_ rfl ⟨_, ?_, HTS.out, ?_⟩
            · have hfin := Cs.all4 ((HC5.out.other _ 1 (.string NM) hne)) (a' := .int .i64 4) (b' := .string NM) (c' := .string ⟨#[]⟩) (d' := .int .i64 0)
              have g0 := hfin.get 0 (.int .i64 4)
              have g1 := hfin.get 1 (.string NM)
              have g2 := hfin.get 2 (.string ⟨#[]⟩)
              have g3 := hfin.get 3 (.int .i64 0)
              generalize (((((w5.setCell ⟨w.heap.size + 1, 1, none⟩ (.string NM)).setCell ⟨w.heap.size, 0, none⟩ (.int .i64 4)).setCell ⟨w.heap.size, 1, none⟩ (.string NM)).setCell ⟨w.heap.size, 2, none⟩ (.string ⟨#[]⟩)).setCell ⟨w.heap.size, 3, none⟩ (.int .i64 0)) = WF at g0 g1 g2 g3 ⊢
              simp [results, Tryd.results6, go_sem, g0, g1, g2, g3]
            · rw [HNM.out]; rfl
            · exact below_all4 (HB5.out.setCell (p := ⟨w.heap.size + 1, 1, none⟩) (by simp) (.string NM)) (Nat.le_refl _)
        · have hnsp : X ≠ [] ∨ (tk = 2 ∨ tk = 5) := by
            have := HT4.out
            by_cases hX0 : X = []
            · right; rcases this with h | h | h | h
              · exact absurd ⟨hX0, .inl h⟩ hsp
              · exact .inl h
              · exact absurd ⟨hX0, .inr h⟩ hsp
              · exact .inr h
            · exact .inl hX0
          have HTS := Lib.hid (HTO.out X HFX.out (fun h hX0 => hsp ⟨hX0, h⟩) (by unfold namD; rw [← HXN.out, if_neg hsp]))
          obtain ⟨NM, hNM⟩ : ∃ N, N = baL ((makeL X).getD []) := ⟨_, rfl⟩
          have hmk := fun A c w h => makeX_any A X.length c X w h (fun x hx => by have := (five_ok x (HFX.out.mem x hx)).2.2.2; unfold maxLen; omega) (by unfold maxLen; have := HFX.out.len; omega)
          rw [show sv ((makeL X).getD []) = .string NM by rw [hNM]; rfl] at hmk
          have HMK := Lib.hid hmk
          have HNM := Lib.hid hNM
          clear hmk hNM
          have HCM := HC1w
          have HCN := HC2w
          have HBM := HBw
          have ht := HT4.out
          clear HTO HT4 e0 e3 e6 hsp
          rcases hnsp with hX0 | hk25
          · have hxl : ((X.length : Int) == 0) = false := by
              have := List.length_pos_iff.2 hX0
              rw [beq_eq_false_iff_ne]; omega
            clear hX0
            rcases ht with rfl | rfl | rfl | rfl
            · go_wp2_with (go_at_call 11; refine (HMK.out _ _ _ HSLX.out).mono ?_; rintro e w5 ⟨rfl, hb5⟩; refine Hid.out ?_)
              refine Lib.hid ?_
              have HC5 := Lib.hid (HCM.out.below hb5)
              have hC2 := HCN.out.below hb5
              have HB5 := Lib.hid (HBM.out.trans (hb5.mono HBM.out.size))
              have k0 := HC5.out.get 0 (.int .i64 0)
              have k1 := HC5.out.get 1 (.string ⟨#[]⟩)
              have k2 := HC5.out.get 2 (.string ⟨#[]⟩)
              have k3 := HC5.out.get 3 (.int .i64 0)
              have kz0 := HC5.out.froz 0
              have kz1 := HC5.out.froz 1
              have kz2 := HC5.out.froz 2
              have kz3 := HC5.out.froz 3
              have l0 := hC2.get 0 (.int .i64 1)
              have l1 := hC2.get 1 (.string ⟨#[]⟩)
              have l2 := hC2.get 2 (.string ⟨#[]⟩)
              have l3 := hC2.get 3 (.int .i64 0)
              have lz1 := hC2.froz 1
              clear hb5 hC2 hq0 HMK
              go_wp2_with fail
              have hne : w.heap.size + 1 ≠ w.heap.size := by omega
              refine bodyPost_ret (v := .agg #[.int .i64 1, .string NM, .string ⟨#[]⟩, .int .i64 0]) ?_ rfl ⟨_, ?_, HTS.out, ?_⟩
              · have hfin := Cs.all4 ((HC5.out.other _ 1 (.string NM) hne)) (a' := .int .i64 1) (b' := .string NM) (c' := .string ⟨#[]⟩) (d' := .int .i64 0)
                have g0 := hfin.get 0 (.int .i64 1)
                have g1 := hfin.get 1 (.string NM)
                have g2 := hfin.get 2 (.string ⟨#[]⟩)
                have g3 := hfin.get 3 (.int .i64 0)
                generalize (((((w5.setCell ⟨w.heap.size + 1, 1, none⟩ (.string NM)).setCell ⟨w.heap.size, 0, none⟩ (.int .i64 1)).setCell ⟨w.heap.size, 1, none⟩ (.string NM)).setCell ⟨w.heap.size, 2, none⟩ (.string ⟨#[]⟩)).setCell ⟨w.heap.size, 3, none⟩ (.int .i64 0)) = WF at g0 g1 g2 g3 ⊢
                simp [results, Tryd.results6, go_sem, g0, g1, g2, g3]
              · rw [HNM.out]; rfl
              · exact below_all4 (HB5.out.setCell (p := ⟨w.heap.size + 1, 1, none⟩) (by simp) (.string NM)) (Nat.le_refl _)
            · go_wp2_with (go_at_call 11; refine (HMK.out _ _ _ HSLX.out).mono ?_; rintro e w5 ⟨rfl, hb5⟩; refine Hid.out ?_)
              refine Lib.hid ?_
              have HC5 := Lib.hid (HCM.out.below hb5)
              have hC2 := HCN.out.below hb5
              have HB5 := Lib.hid (HBM.out.trans (hb5.mono HBM.out.size))
              have k0 := HC5.out.get 0 (.int .i64 0)
              have k1 := HC5.out.get 1 (.string ⟨#[]⟩)
              have k2 := HC5.out.get 2 (.string ⟨#[]⟩)
              have k3 := HC5.out.get 3 (.int .i64 0)
              have kz0 := HC5.out.froz 0
              have kz1 := HC5.out.froz 1
              have kz2 := HC5.out.froz 2
              have kz3 := HC5.out.froz 3
              have l0 := hC2.get 0 (.int .i64 2)
              have l1 := hC2.get 1 (.string ⟨#[]⟩)
              have l2 := hC2.get 2 (.string ⟨#[]⟩)
              have l3 := hC2.get 3 (.int .i64 0)
              have lz1 := hC2.froz 1
              clear hb5 hC2 hq0 HMK
              go_wp2_with fail
              have hne : w.heap.size + 1 ≠ w.heap.size := by omega
              refine bodyPost_ret (v := .agg #[.int .i64 2, .string NM, .string ⟨#[]⟩, .int .i64 0]) ?_ rfl ⟨_, ?_, HTS.out, ?_⟩
              · have hfin := Cs.all4 ((HC5.out.other _ 1 (.string NM) hne)) (a' := .int .i64 2) (b' := .string NM) (c' := .string ⟨#[]⟩) (d' := .int .i64 0)
                have g0 := hfin.get 0 (.int .i64 2)
                have g1 := hfin.get 1 (.string NM)
                have g2 := hfin.get 2 (.string ⟨#[]⟩)
                have g3 := hfin.get 3 (.int .i64 0)
                generalize (((((w5.setCell ⟨w.heap.size + 1, 1, none⟩ (.string NM)).setCell ⟨w.heap.size, 0, none⟩ (.int .i64 2)).setCell ⟨w.heap.size, 1, none⟩ (.string NM)).setCell ⟨w.heap.size, 2, none⟩ (.string ⟨#[]⟩)).setCell ⟨w.heap.size, 3, none⟩ (.int .i64 0)) = WF at g0 g1 g2 g3 ⊢
                simp [results, Tryd.results6, go_sem, g0, g1, g2, g3]
              · rw [HNM.out]; rfl
              · exact below_all4 (HB5.out.setCell (p := ⟨w.heap.size + 1, 1, none⟩) (by simp) (.string NM)) (Nat.le_refl _)
            · go_wp2_with (go_at_call 11; refine (HMK.out _ _ _ HSLX.out).mono ?_; rintro e w5 ⟨rfl, hb5⟩; refine Hid.out ?_)
              refine Lib.hid ?_
              have HC5 := Lib.hid (HCM.out.below hb5)
              have hC2 := HCN.out.below hb5
              have HB5 := Lib.hid (HBM.out.trans (hb5.mono HBM.out.size))
              have k0 := HC5.out.get 0 (.int .i64 0)
              have k1 := HC5.out.get 1 (.string ⟨#[]⟩)
              have k2 := HC5.out.get 2 (.string ⟨#[]⟩)
              have k3 := HC5.out.get 3 (.int .i64 0)
              have kz0 := HC5.out.froz 0
              have kz1 := HC5.out.froz 1
              have kz2 := HC5.out.froz 2
              have kz3 := HC5.out.froz 3
              have l0 := hC2.get 0 (.int .i64 4)
              have l1 := hC2.get 1 (.string ⟨#[]⟩)
              have l2 := hC2.get 2 (.string ⟨#[]⟩)
              have l3 := hC2.get 3 (.int .i64 0)
              have lz1 := hC2.froz 1
              clear hb5 hC2 hq0 HMK
              go_wp2_with fail
              have hne : w.heap.size + 1 ≠ w.heap.size := by omega
              refine bodyPost_ret (v := .agg #[.int .i64 4, .string NM, .string ⟨#[]⟩, .int .i64 0]) ?_ rfl ⟨_, ?_, HTS.out, ?_⟩
              · have hfin := Cs.all4 ((HC5.out.other _ 1 (.string NM) hne)) (a' := .int .i64 4) (b' := .string NM) (c' := .string ⟨#[]⟩) (d' := .int .i64 0)
                have g0 := hfin.get 0 (.int .i64 4)
                have g1 := hfin.get 1 (.string NM)
                have g2 := hfin.get 2 (.string ⟨#[]⟩)
                have g3 := hfin.get 3 (.int .i64 0)
                generalize (((((w5.setCell ⟨w.heap.size + 1, 1, none⟩ (.string NM)).setCell ⟨w.heap.size, 0, none⟩ (.int .i64 4)).setCell ⟨w.heap.size, 1, none⟩ (.string NM)).setCell ⟨w.heap.size, 2, none⟩ (.string ⟨#[]⟩)).setCell ⟨w.heap.size, 3, none⟩ (.int .i64 0)) = WF at g0 g1 g2 g3 ⊢
                simp [results, Tryd.results6, go_sem, g0, g1, g2, g3]
              · rw [HNM.out]; rfl
              · exact below_all4 (HB5.out.setCell (p := ⟨w.heap.size + 1, 1, none⟩) (by simp) (.string NM)) (Nat.le_refl _)
            · go_wp2_with (go_at_call 11; refine (HMK.out _ _ _ HSLX.out).mono ?_; rintro e w5 ⟨rfl, hb5⟩; refine Hid.out ?_)
              refine Lib.hid ?_
              have HC5 := Lib.hid (HCM.out.below hb5)
              have hC2 := HCN.out.below hb5
              have HB5 := Lib.hid (HBM.out.trans (hb5.mono HBM.out.size))
              have k0 := HC5.out.get 0 (.int .i64 0)
              have k1 := HC5.out.get 1 (.string ⟨#[]⟩)
              have k2 := HC5.out.get 2 (.string ⟨#[]⟩)
              have k3 := HC5.out.get 3 (.int .i64 0)
              have kz0 := HC5.out.froz 0
              have kz1 := HC5.out.froz 1
              have kz2 := HC5.out.froz 2
              have kz3 := HC5.out.froz 3
              have l0 := hC2.get 0 (.int .i64 5)
              have l1 := hC2.get 1 (.string ⟨#[]⟩)
              have l2 := hC2.get 2 (.string ⟨#[]⟩)
              have l3 := hC2.get 3 (.int .i64 0)
              have lz1 := hC2.froz 1
              clear hb5 hC2 hq0 HMK
              go_wp2_with fail
              have hne : w.heap.size + 1 ≠ w.heap.size := by omega
              refine bodyPost_ret (v := .agg #[.int .i64 5, .string NM, .string ⟨#[]⟩, .int .i64 0]) ?_ rfl ⟨_, ?_, HTS.out, ?_⟩
              · have hfin := Cs.all4 ((HC5.out.other _ 1 (.string NM) hne)) (a' := .int .i64 5) (b' := .string NM) (c' := .string ⟨#[]⟩) (d' := .int .i64 0)
                have g0 := hfin.get 0 (.int .i64 5)
                have g1 := hfin.get 1 (.string NM)
                have g2 := hfin.get 2 (.string ⟨#[]⟩)
                have g3 := hfin.get 3 (.int .i64 0)
                generalize (((((w5.setCell ⟨w.heap.size + 1, 1, none⟩ (.string NM)).setCell ⟨w.heap.size, 0, none⟩ (.int .i64 5)).setCell ⟨w.heap.size, 1, none⟩ (.string NM)).setCell ⟨w.heap.size, 2, none⟩ (.string ⟨#[]⟩)).setCell ⟨w.heap.size, 3, none⟩ (.int .i64 0)) = WF at g0 g1 g2 g3 ⊢
                simp [results, Tryd.results6, go_sem, g0, g1, g2, g3]
              · rw [HNM.out]; rfl
              · exact below_all4 (HB5.out.setCell (p := ⟨w.heap.size + 1, 1, none⟩) (by simp) (.string NM)) (Nat.le_refl _)
          · clear ht
            cases hxl : ((X.length : Int) == 0) with
            | true =>
              rcases hk25 with rfl | rfl
              · go_wp2_with (go_at_call 11; refine (HMK.out _ _ _ HSLX.out).mono ?_; rintro e w5 ⟨rfl, hb5⟩; refine Hid.out ?_)
                refine Lib.hid ?_
                have HC5 := Lib.hid (HCM.out.below hb5)
                have hC2 := HCN.out.below hb5
                have HB5 := Lib.hid (HBM.out.trans (hb5.mono HBM.out.size))
                have k0 := HC5.out.get 0 (.int .i64 0)
                have k1 := HC5.out.get 1 (.string ⟨#[]⟩)
                have k2 := HC5.out.get 2 (.string ⟨#[]⟩)
                have k3 := HC5.out.get 3 (.int .i64 0)
                have kz0 := HC5.out.froz 0
                have kz1 := HC5.out.froz 1
                have kz2 := HC5.out.froz 2
                have kz3 := HC5.out.froz 3
                have l0 := hC2.get 0 (.int .i64 2)
                have l1 := hC2.get 1 (.string ⟨#[]⟩)
                have l2 := hC2.get 2 (.string ⟨#[]⟩)
                have l3 := hC2.get 3 (.int .i64 0)
                have lz1 := hC2.froz 1
                clear hb5 hC2 hq0 HMK
                go_wp2_with fail
                have hne : w.heap.size + 1 ≠ w.heap.size := by omega
                refine bodyPost_ret (v := .agg #[.int .i64 2, .string NM, .string ⟨#[]⟩, .int .i64 0]) ?_ rfl ⟨_, ?_, HTS.out, ?_⟩
                · have hfin := Cs.all4 ((HC5.out.other _ 1 (.string NM) hne)) (a' := .int .i64 2) (b' := .string NM) (c' := .string ⟨#[]⟩) (d' := .int .i64 0)
                  have g0 := hfin.get 0 (.int .i64 2)
                  have g1 := hfin.get 1 (.string NM)
                  have g2 := hfin.get 2 (.string ⟨#[]⟩)
                  have g3 := hfin.get 3 (.int .i64 0)
                  generalize (((((w5.setCell ⟨w.heap.size + 1, 1, none⟩ (.string NM)).setCell ⟨w.heap.size, 0, none⟩ (.int .i64 2)).setCell ⟨w.heap.size, 1, none⟩ (.string NM)).setCell ⟨w.heap.size, 2, none⟩ (.string ⟨#[]⟩)).setCell ⟨w.heap.size, 3, none⟩ (.int .i64 0)) = WF at g0 g1 g2 g3 ⊢
                  simp [results, Tryd.results6, go_sem, g0, g1, g2, g3]
                · rw [HNM.out]; rfl
                · exact below_all4 (HB5.out.setCell (p := ⟨w.heap.size + 1, 1, none⟩) (by simp) (.string NM)) (Nat.le_refl _)
              · go_wp2_with (go_at_call 11; refine (HMK.out _ _ _ HSLX.out).mono ?_; rintro e w5 ⟨rfl, hb5⟩; refine Hid.out ?_)
                refine Lib.hid ?_
                have HC5 := Lib.hid (HCM.out.below hb5)
                have hC2 := HCN.out.below hb5
                have HB5 := Lib.hid (HBM.out.trans (hb5.mono HBM.out.size))
                have k0 := HC5.out.get 0 (.int .i64 0)
                have k1 := HC5.out.get 1 (.string ⟨#[]⟩)
                have k2 := HC5.out.get 2 (.string ⟨#[]⟩)
                have k3 := HC5.out.get 3 (.int .i64 0)
                have kz0 := HC5.out.froz 0
                have kz1 := HC5.out.froz 1
                have kz2 := HC5.out.froz 2
                have kz3 := HC5.out.froz 3
                have l0 := hC2.get 0 (.int .i64 5)
                have l1 := hC2.get 1 (.string ⟨#[]⟩)
                have l2 := hC2.get 2 (.string ⟨#[]⟩)
                have l3 := hC2.get 3 (.int .i64 0)
                have lz1 := hC2.froz 1
                clear hb5 hC2 hq0 HMK
                go_wp2_with fail
                have hne : w.heap.size + 1 ≠ w.heap.size := by omega
                refine bodyPost_ret (v := .agg #[.int .i64 5, .string NM, .string ⟨#[]⟩, .int .i64 0]) ?_ rfl ⟨_, ?_, HTS.out, ?_⟩
                · have hfin := Cs.all4 ((HC5.out.other _ 1 (.string NM) hne)) (a' := .int .i64 5) (b' := .string NM) (c' := .string ⟨#[]⟩) (d' := .int .i64 0)
                  have g0 := hfin.get 0 (.int .i64 5)
                  have g1 := hfin.get 1 (.string NM)
                  have g2 := hfin.get 2 (.string ⟨#[]⟩)
                  have g3 := hfin.get 3 (.int .i64 0)
                  generalize (((((w5.setCell ⟨w.heap.size + 1, 1, none⟩ (.string NM)).setCell ⟨w.heap.size, 0, none⟩ (.int .i64 5)).setCell ⟨w.heap.size, 1, none⟩ (.string NM)).setCell ⟨w.heap.size, 2, none⟩ (.string ⟨#[]⟩)).setCell ⟨w.heap.size, 3, none⟩ (.int .i64 0)) = WF at g0 g1 g2 g3 ⊢
                  simp [results, Tryd.results6, go_sem, g0, g1, g2, g3]
                · rw [HNM.out]; rfl
                · exact below_all4 (HB5.out.setCell (p := ⟨w.heap.size + 1, 1, none⟩) (by simp) (.string NM)) (Nat.le_refl _)
            | false =>
              rcases hk25 with rfl | rfl
              · go_wp2_with (go_at_call 11; refine (HMK.out _ _ _ HSLX.out).mono ?_; rintro e w5 ⟨rfl, hb5⟩; refine Hid.out ?_)
                refine Lib.hid ?_
                have HC5 := Lib.hid (HCM.out.below hb5)
                have hC2 := HCN.out.below hb5
                have HB5 := Lib.hid (HBM.out.trans (hb5.mono HBM.out.size))
                have k0 := HC5.out.get 0 (.int .i64 0)
                have k1 := HC5.out.get 1 (.string ⟨#[]⟩)
                have k2 := HC5.out.get 2 (.string ⟨#[]⟩)
                have k3 := HC5.out.get 3 (.int .i64 0)
                have kz0 := HC5.out.froz 0
                have kz1 := HC5.out.froz 1
                have kz2 := HC5.out.froz 2
                have kz3 := HC5.out.froz 3
                have l0 := hC2.get 0 (.int .i64 2)
                have l1 := hC2.get 1 (.string ⟨#[]⟩)
                have l2 := hC2.get 2 (.string ⟨#[]⟩)
                have l3 := hC2.get 3 (.int .i64 0)
                have lz1 := hC2.froz 1
                clear hb5 hC2 hq0 HMK
                go_wp2_with fail
                have hne : w.heap.size + 1 ≠ w.heap.size := by omega
                refine bodyPost_ret (v := .agg #[.int .i64 2, .string NM, .string ⟨#[]⟩, .int .i64 0]) ?_ rfl ⟨_, ?_, HTS.out, ?_⟩
                · have hfin := Cs.all4 ((HC5.out.other _ 1 (.string NM) hne)) (a' := .int .i64 2) (b' := .string NM) (c' := .string ⟨#[]⟩) (d' := .int .i64 0)
                  have g0 := hfin.get 0 (.int .i64 2)
                  have g1 := hfin.get 1 (.string NM)
                  have g2 := hfin.get 2 (.string ⟨#[]⟩)
                  have g3 := hfin.get 3 (.int .i64 0)
                  generalize (((((w5.setCell ⟨w.heap.size + 1, 1, none⟩ (.string NM)).setCell ⟨w.heap.size, 0, none⟩ (.int .i64 2)).setCell ⟨w.heap.size, 1, none⟩ (.string NM)).setCell ⟨w.heap.size, 2, none⟩ (.string ⟨#[]⟩)).setCell ⟨w.heap.size, 3, none⟩ (.int .i64 0)) = WF at g0 g1 g2 g3 ⊢
                  simp [results, Tryd.results6, go_sem, g0, g1, g2, g3]
                · rw [HNM.out]; rfl
                · exact below_all4 (HB5.out.setCell (p := ⟨w.heap.size + 1, 1, none⟩) (by simp) (.string NM)) (Nat.le_refl _)
              · go_wp2_with (go_at_call 11; refine (HMK.out _ _ _ HSLX.out).mono ?_; rintro e w5 ⟨rfl, hb5⟩; refine Hid.out ?_)
                refine Lib.hid ?_
                have HC5 := Lib.hid (HCM.out.below hb5)
                have hC2 := HCN.out.below hb5
                have HB5 := Lib.hid (HBM.out.trans (hb5.mono HBM.out.size))
                have k0 := HC5.out.get 0 (.int .i64 0)
                have k1 := HC5.out.get 1 (.string ⟨#[]⟩)
                have k2 := HC5.out.get 2 (.string ⟨#[]⟩)
                have k3 := HC5.out.get 3 (.int .i64 0)
                have kz0 := HC5.out.froz 0
                have kz1 := HC5.out.froz 1
                have kz2 := HC5.out.froz 2
                have kz3 := HC5.out.froz 3
                have l0 := hC2.get 0 (.int .i64 5)
                have l1 := hC2.get 1 (.string ⟨#[]⟩)
                have l2 := hC2.get 2 (.string ⟨#[]⟩)
                have l3 := hC2.get 3 (.int .i64 0)
                have lz1 := hC2.froz 1
                clear hb5 hC2 hq0 HMK
                go_wp2_with fail
                have hne : w.heap.size + 1 ≠ w.heap.size := by omega
                refine bodyPost_ret (v := .agg #[.int .i64 5, .string NM, .string ⟨#[]⟩, .int .i64 0]) ?_ rfl ⟨_, ?_, HTS.out, ?_⟩
                · have hfin := Cs.all4 ((HC5.out.other _ 1 (.string NM) hne)) (a' := .int .i64 5) (b' := .string NM) (c' := .string ⟨#[]⟩) (d' := .int .i64 0)
                  have g0 := hfin.get 0 (.int .i64 5)
                  have g1 := hfin.get 1 (.string NM)
                  have g2 := hfin.get 2 (.string ⟨#[]⟩)
                  have g3 := hfin.get 3 (.int .i64 0)
                  generalize (((((w5.setCell ⟨w.heap.size + 1, 1, none⟩ (.string NM)).setCell ⟨w.heap.size, 0, none⟩ (.int .i64 5)).setCell ⟨w.heap.size, 1, none⟩ (.string NM)).setCell ⟨w.heap.size, 2, none⟩ (.string ⟨#[]⟩)).setCell ⟨w.heap.size, 3, none⟩ (.int .i64 0)) = WF at g0 g1 g2 g3 ⊢
                  simp [results, Tryd.results6, go_sem, g0, g1, g2, g3]
                · rw [HNM.out]; rfl
                · exact below_all4 (HB5.out.setCell (p := ⟨w.heap.size + 1, 1, none⟩) (by simp) (.string NM)) (Nat.le_refl _)
end Go.Proofs.YtkdknfedieeenaaDoor
namespace Go.Proofs.YtkdknfedieeenaaDoor
open Go.RowKit
set_option linter.unusedVariables false
section
variable {P : Program} {ops : Array Oper} {Q : Exit → Act → World → Prop}
/-- All words, each in some world. -/
def ExWords (x : Nat → Value) : Nat → List (Value → World → Prop) → Prop
  | _, [] => True
  | k, p :: ps => (∃ w, p (x k) w) ∧ ExWords x (k + 1) ps
theorem exWords_of {Ws : List (Value → World → Prop)} {x : Nat → Value} : ∀ (ps : List (Value → World → Prop)) (k : Nat), (∀ j, j < ps.length → ps[j]? = Ws[k + j]?) → (∀ i, i < Ws.length → ∃ w, wordOf Ws i (x i) w) → ExWords x k ps
  | [], _, _, _ => trivial
  | p :: ps, k, h, hw => by
    have h0 := h 0 (by simp)
    simp at h0
    have hk : k < Ws.length := by
      rcases Nat.lt_or_ge k Ws.length with h1 | h1
      · exact h1
      · rw [List.getElem?_eq_none h1] at h0; cases h0
    refine ⟨?_, exWords_of ps (k + 1) (fun j hj => ?_) hw⟩
    · obtain ⟨w, h2⟩ := hw k hk
      unfold wordOf at h2
      rw [← h0] at h2
      exact ⟨w, h2⟩
    · have := h (j + 1) (by simpa using hj)
      simpa [Nat.add_assoc, Nat.add_comm 1 j] using this
/-- All ahead of Ka lead to it, all lead to Ks, the last; what is between has no guard. -/
def appOk (ops : Array Oper) (Ka Ks : Nat) : Bool :=
  ((List.range Ka).all fun i => reachX ops 20 i Ka) && ((List.range Ks).all fun i => reachX ops 20 i Ks) && ((ops.toList.drop Ka).all fun o => o.guard.isNone) && decide (Ka < Ks) && decide (ops.size = Ks + 1)
/-- What stands between: it tells its value in any world. -/
def OpPure (P : Program) (Q : Exit → Act → World → Prop) (Ws : List (Value → World → Prop)) (FF : (Nat → Value) → Act) (i : Nat) (o : Oper) : Prop :=
  ∀ (x : Nat → Value) (w : World), (∀ e ∈ o.after.toList, Region.binds .any e = true → ∃ w, wordOf Ws e.on (x e.on) w) → Oper.wp P o (FF x) w (fun a' w' => ∃ v, a' = (FF x).put o.dst v ∧ w' = w ∧ ∀ w, wordOf Ws i v w) Q
def OpPures (P : Program) (Q : Exit → Act → World → Prop) (Ws : List (Value → World → Prop)) (FF : (Nat → Value) → Act) (skip : Nat → Bool) : Nat → List Oper → Prop
  | _, [] => True
  | i, o :: os => (skip i = false → OpPure P Q Ws FF i o) ∧ OpPures P Q Ws FF skip (i + 1) os
theorem OpPures.get {Ws : List (Value → World → Prop)} {FF : (Nat → Value) → Act} {skip : Nat → Bool} : ∀ {l : List Oper} {k : Nat}, OpPures P Q Ws FF skip k l → ∀ i o, l[i]? = some o → skip (k + i) = false → OpPure P Q Ws FF (k + i) o
  | [], _, _, i, o, h, _ => by simp at h
  | p :: l, k, hs, 0, o, h, hk => by simp at h; subst h; exact hs.1 hk
  | p :: l, k, hs, i + 1, o, h, hk => by
    have := OpPures.get hs.2 i o (by simpa using h) (by rwa [show k + 1 + i = k + (i + 1) by omega])
    rwa [show k + 1 + i = k + (i + 1) by omega] at this
theorem wp_region_app {id : Nat} {base : Act} {w0 : World} (hm : P.follows .mixedOrders = true) {FF : (Nat → Value) → Act} (hFF : ∀ x, putsF x 0 (ops.toList.map (·.dst)) base = FF x) (R : World → Prop) (A : Value → World → Prop) (Ws : List (Value → World → Prop)) (Ka Ks : Nat)
    (hn : noTwice (ops.toList.map (·.dst)) = true) (hg : guardsIn ops base.tmps.size = true) (hwf : wellFormed ops = true) (hlen : Ws.length = ops.size) (hok : appOk ops Ka Ks = true)
    (stays : AllStay Ws) (free : (∀ v w, wordOf Ws Ka v w) ∧ ∀ v w, wordOf Ws Ks v w) (start : R w0.drew)
    (steps : OpStepsL P ops Q Ws R [] FF (fun i => decide (Ka ≤ i)) 0 ops.toList)
    (pures : OpPures P Q Ws FF (fun i => decide (i ≤ Ka) || decide (Ks ≤ i)) 0 ops.toList)
    (app : ∀ (x : Nat → Value) (w : World), R w → AllWordsIf (fun i => decide (i < Ka)) Ws x w 0 Ws → ∀ o, ops[Ka]? = some o → Oper.wp P o (FF x) w (fun a' w' => ∃ v, a' = (FF x).put o.dst v ∧ A v w') Q)
    (fin : ∀ (x : Nat → Value) (w : World), A (x Ka) w → ExWords x 0 Ws → ∀ o, ops[Ks]? = some o → Oper.wp P o (FF x) w (fun a' w' => (∃ v, a' = (FF x).put o.dst v) ∧ Q .normal a' w') Q) :
    (Code.region id ops true).wp P Q base w0 := by
  unfold appOk at hok
  simp only [Bool.and_eq_true, List.all_eq_true, List.mem_range, decide_eq_true_eq] at hok
  obtain ⟨⟨⟨⟨t1, t2⟩, t3⟩, t4⟩, t5⟩ := hok
  have hword : ∀ (i : Nat), ∀ v w w', wordOf Ws i v w → Goes w w' → wordOf Ws i v w' := by
    intro i v w w' hw he
    unfold wordOf at hw ⊢
    cases hp : Ws[i]? with
    | none => trivial
    | some p =>
      rw [hp] at hw
      exact stays.mem p (List.mem_of_getElem? hp) _ _ _ hw he
  refine wp_region_joint hm (fun d x w => ClosedX ops d ∧ ((d Ka = false ∧ d Ks = false ∧ R w ∧ ∀ i, d i = true → wordOf Ws i (x i) w) ∨
    (d Ka = true ∧ d Ks = false ∧ A (x Ka) w ∧ ∀ i, d i = true → ∃ w, wordOf Ws i (x i) w) ∨
    ((∀ i, i < ops.size → d i = true) ∧ Q .normal (FF x) w))) hn hwf ?_ ?_ ?_
  · exact fun x => ⟨fun j o _ h => (by cases h), .inl ⟨rfl, rfl, start, fun i h => (by cases h)⟩⟩
  · rintro i hi d x w ⟨hcl, hJ⟩ hd hdeps
    have hoi : ops[i]? = some ops[i] := Array.getElem?_eq_getElem hi
    have hmem : ops[i] ∈ ops.toList := by simp
    have hsrc : SrcX ops d ops[i] := hdeps
    have hwant : Region.wanted ops[i] (yielded ops (putsF x 0 (ops.toList.map (·.dst)) base).tmps) = wantedX ops[i] x := wanted_eq hn hg ops[i] hmem x
    have hset : (fun j => if j = i then true else d j) = setD d i := rfl
    have hcl2 : ClosedX ops (setD d i) := by
      intro j o hj hdj e he hb
      by_cases hji : j = i
      · subst hji
        rw [hoi] at hj
        obtain rfl := Option.some.inj hj
        exact setD_le d _ _ (hdeps e he hb)
      · rw [setD_ne d hji] at hdj
        exact setD_le d _ _ (hcl j o hj hdj e he hb)
    have hput : ∀ v, FF (fun j => if j = i then v else x j) = (FF x).put (ops[i]).dst v := by
      intro v
      have := putsF_set x (ops.toList.map (·.dst)) 0 i base (ops[i]).dst v hn (by simp [hi])
      rw [Nat.zero_add] at this
      rw [← hFF, ← hFF, this]
    have hgd : Ka ≤ i → Region.wanted ops[i] (yielded ops (putsF x 0 (ops.toList.map (·.dst)) base).tmps) = true := by
      intro hKi
      have hgn : (ops[i]).guard = none := by
        have := t3 ops[i] (by
          rw [List.mem_iff_getElem?]
          exact ⟨i - Ka, by rw [List.getElem?_drop, show Ka + (i - Ka) = i by omega]; simp [hi]⟩)
        simpa using this
      unfold Region.wanted; rw [hgn]
    have hks : Ks < ops.size := by omega
    have hka : Ka < ops.size := by omega
    -- what a pure one does
    have pure : Ka < i → i < Ks → (∀ e ∈ (ops[i]).after.toList, Region.binds .any e = true → ∃ w, wordOf Ws e.on (x e.on) w) →
        Oper.wp P ops[i] (putsF x 0 (ops.toList.map (·.dst)) base) w (fun a' w' => ∃ v, a' = (putsF x 0 (ops.toList.map (·.dst)) base).put (ops[i]).dst v ∧ w' = w ∧ ∀ w, wordOf Ws i v w) Q := by
      intro h1 h2 hD
      have hs := OpPures.get pures i ops[i] (by simp [hi]) (by simp; omega)
      rw [Nat.zero_add] at hs
      rw [hFF x]
      exact hs x w hD
    rcases hJ with ⟨ha0, hs0, hR, hw⟩ | ⟨ha1, hs0, hA, hw⟩ | ⟨hall, hq⟩
    · have hD : Deps (wordOf Ws) x w (ops[i]).after.toList := Deps.of (fun e he hb => hw _ (hdeps e he hb))
      have put : ∀ v w', wordOf Ws i v w' → Goes w w' → ∀ j, setD d i j = true → wordOf Ws j (if j = i then v else x j) w' := by
        intro v w' hv he j hdj
        by_cases hji : j = i
        · subst hji; simpa using hv
        · rw [setD_ne d hji] at hdj
          rw [if_neg hji]
          exact hword j _ _ _ (hw j hdj) he
      rcases Nat.lt_trichotomy i Ka with hlt | heq | hgt
      · have hs := OpStepsL.get steps i ops[i] (by simp [hi]) (by simp; omega)
        rw [Nat.zero_add] at hs
        have := hs x w hR hD
        have e1 : setD d i Ka = false := by rw [setD_ne d (by omega)]; exact ha0
        have e2 : setD d i Ks = false := by rw [setD_ne d (by omega)]; exact hs0
        rw [hwant, hFF x]
        split
        · rename_i hwt
          refine Oper.wp_mono ?_ (this.1 hwt)
          rintro a' w' ⟨v, rfl, hv, hR', he, -⟩
          exact ⟨v, rfl, hcl2, .inl ⟨e1, e2, hR', put v w' hv he⟩⟩
        · rename_i hwt
          obtain ⟨h1, -⟩ := this.2 (by simpa using hwt)
          exact ⟨hcl2, .inl ⟨e1, e2, hR, put undef w h1 (Below.refl _ _)⟩⟩
      · subst heq
        have hdone : ∀ j, j < i → d j = true := fun j hj => hsrc.reach (K := i) hcl hoi 19 j (by omega) (t1 j hj)
        rw [if_pos (hgd (Nat.le_refl _)), hFF x]
        refine Oper.wp_mono ?_ (app x w hR (allWordsIf_of Ws 0 (fun j _ => by simp) (fun j hj hc => hw j (hdone j (by simpa using hc)))) ops[i] hoi)
        rintro a' w' ⟨v, rfl, hv⟩
        refine ⟨v, rfl, hcl2, .inr (.inl ⟨by simp, (setD_ne d (by omega)).trans hs0, by simpa using hv, fun j hdj => ?_⟩)⟩
        by_cases hji : j = i
        · subst hji; exact ⟨w', free.1 _ _⟩
        · simp only [hji, if_false] at hdj ⊢
          exact ⟨w, hw j hdj⟩
      · have hik : i < Ks := by
          rcases Nat.lt_or_ge i Ks with h | h
          · exact h
          · have hiK : i = Ks := by omega
            subst hiK
            have := hsrc.reach (K := i) hcl hoi 19 Ka (by omega) (t2 Ka (by omega))
            rw [ha0] at this; cases this
        rw [if_pos (hgd (by omega))]
        refine Oper.wp_mono ?_ (pure hgt hik (fun e he hb => ⟨w, hw _ (hdeps e he hb)⟩))
        rintro a' w' ⟨v, rfl, rfl, hv⟩
        exact ⟨v, rfl, hcl2, .inl ⟨(setD_ne d (by omega)).trans ha0, (setD_ne d (by omega)).trans hs0, hR, put v w' (hv w') (Below.refl _ _)⟩⟩
    · have hKi : Ka < i := by
        rcases Nat.lt_or_ge Ka i with h | h
        · exact h
        · exfalso
          rcases Nat.eq_or_lt_of_le h with h | h
          · subst h; rw [ha1] at hd; cases hd
          · have := ClosedX.reach hcl 20 i Ka (t1 i h) ha1
            rw [hd] at this; cases this
      rcases Nat.lt_or_ge i Ks with hik | hik
      · rw [if_pos (hgd (by omega))]
        refine Oper.wp_mono ?_ (pure hKi hik (fun e he hb => hw _ (hdeps e he hb)))
        rintro a' w' ⟨v, rfl, rfl, hv⟩
        refine ⟨v, rfl, hcl2, .inr (.inl ⟨(setD_ne d (by omega)).trans ha1, (setD_ne d (by omega)).trans hs0, by show A (if Ka = i then v else x Ka) _; rw [if_neg (by omega)]; exact hA, fun j hdj => ?_⟩)⟩
        by_cases hji : j = i
        · subst hji; exact ⟨w', by simpa using hv w'⟩
        · simp only [hji, if_false] at hdj ⊢
          exact hw j hdj
      · have hiK : i = Ks := by omega
        subst hiK
        have hdone : ∀ j, j < i → d j = true := fun j hj => hsrc.reach (K := i) hcl hoi 19 j (by omega) (t2 j hj)
        rw [if_pos (hgd (by omega)), hFF x]
        refine Oper.wp_mono ?_ (fin x w hA (exWords_of (Ws := Ws) Ws 0 (fun j _ => by simp) (fun j hj => ?_)) ops[i] hoi)
        · rintro a' w' ⟨⟨v, rfl⟩, hq⟩
          refine ⟨v, rfl, hcl2, .inr (.inr ⟨fun j hj => ?_, ?_⟩)⟩
          · by_cases hji : j = i
            · simp [hji]
            · simp only [hji, if_false]; exact hdone j (by omega)
          · rw [hput v]; exact hq
        · by_cases hji : j = i
          · subst hji; exact ⟨w, free.2 _ _⟩
          · exact hw j (hdone j (by omega))
    · rw [hall i hi] at hd; cases hd
  · rintro d x w hall ⟨hcl, hJ⟩
    rw [hFF x]
    rcases hJ with ⟨ha0, -, -⟩ | ⟨-, hs0, -⟩ | ⟨-, hq⟩
    · rw [hall Ka (by omega)] at ha0; cases ha0
    · rw [hall Ks (by omega)] at hs0; cases hs0
    · exact hq
end
end Go.Proofs.YtkdknfedieeenaaDoor
namespace Go.Proofs.YtkdknfedieeenaaDoor
open Go.RowKit
set_option linter.unusedVariables false
set_option linter.unusedSimpArgs false
set_option maxRecDepth 20000
/-- append, by what it does. -/
theorem oper_appF {P : Program} {o : Oper} {a : Act} {Q : Exit → Act → World → Prop} {K : Act → World → Prop} {w : World} (s x : Operand) (t tx : TypeId)
    (ho : o.op = .call { callee := .builtin .append, args := #[s, x], argTypes := #[t, tx] })
    (e : TypeId) (i : TypeInfo) (z : Value) (bytes : Nat) (ht : P.underlying t = some (.slice e)) (hi : P.info? e = some i) (hz : i.zero = some z) (hsize : i.size = 1) (hby : i.bytes = bytes) (hzs : z.cells.size = 1)
    {B : Nat} {v : Value} {n : Nat} {l : List Value} {W : World} (hb : OB B W v n l w) (hs : a.eval s = v) {vx : Value} {m : Nat} {news : List Value} (hx : a.eval x = vx) (hsrc : Src P 1 tx vx m news w)
    (hlen : n + m ≤ maxLen) (hbytes : (n + m) * bytes ≤ 140737488355328)
    (h : ∀ v' w', OB B W v' (n + m) (l ++ news) w' → w.heap.size ≤ w'.heap.size → (∀ k, k < w.heap.size → some k ≠ v.ownBlock → w'.heap[k]? = w.heap[k]?) → (v'.ownBlock = v.ownBlock ∨ v'.ownBlock = some w.heap.size) → K (a.put o.dst v') w') :
    Oper.wp P o a w K Q := by
  obtain ⟨v', w', hr, h1, h2, h3, h4⟩ := run_append_ob (P := P) t tx o.type e i z bytes ht hi hz hsize hby hzs hb vx m news hsrc hlen hbytes
  unfold Oper.wp execOp
  simp only [ho, resolve, invoke, builtin, Sem.run_bind, Sem.run_pure, Result.andThen_ok, List.map_toArray, List.map_cons, List.map_nil, hs, hx, hr]
  exact h v' w' h1 h2 h3 h4
def intsU (l : List UInt8) : List Int := l.map fun b => (b.toNat : Int)
theorem intsU_map (l : List UInt8) : (intsU l).map (Value.int .u8) = l.map bv := by unfold intsU; rw [List.map_map]; rfl
theorem intsU_ok (l : List UInt8) : ∀ z ∈ intsU l, 0 ≤ z ∧ z < 256 := by
  intro z hz
  obtain ⟨b, _, rfl⟩ := List.mem_map.1 hz
  have := b.toNat_lt
  omega
/-- The name that the statements make of bytes. -/
def nameQ (l : List UInt8) : ByteArray := baL (trigD 1 (intsU l) false 0).name
def addrQ (six : Bool) (l : List UInt8) : ByteArray := ⟨(addrD six l).toArray⟩
theorem addrQ_size (six : Bool) (l : List UInt8) : (addrQ six l).size ≤ 16 := by
  have h := addrD_len six l
  have h2 : (addrQ six l).size = (addrD six l).length := by simp [addrQ, ByteArray.size]
  rw [h2, h]; cases six <;> simp [addrN]
/-- Of the first four rows by number. -/
def pickQ (f : Nat → List UInt8 → ByteArray) (rows : List RowT) (k : Nat) : List ByteArray := ((rows.take k).take 4).zipIdx.map fun p => f p.2 p.1.2.2.2
theorem pickQ_zero (f : Nat → List UInt8 → ByteArray) (rows : List RowT) : pickQ f rows 0 = [] := rfl
theorem pickQ_next (f : Nat → List UInt8 → ByteArray) {rows : List RowT} {k : Nat} {r : RowT} (hr : rows[k]? = some r) (hk : k < 4) : pickQ f rows (k + 1) = pickQ f rows k ++ [f k r.2.2.2] := by
  unfold pickQ
  obtain ⟨h, rfl⟩ := List.getElem?_eq_some_iff.1 hr
  have e1 : ((rows.take k).take 4) = rows.take k := List.take_of_length_le (by rw [List.length_take]; omega)
  have e2 : ((rows.take k ++ [rows[k]]).take 4) = rows.take k ++ [rows[k]] := List.take_of_length_le (by rw [List.length_append, List.length_take]; simp; omega)
  rw [List.take_succ_eq_append_getElem h, e1, e2, List.zipIdx_append]
  simp [List.length_take, Nat.min_eq_left (Nat.le_of_lt h)]
theorem pickQ_over (f : Nat → List UInt8 → ByteArray) {rows : List RowT} {k : Nat} (hk : ¬ k < 4) : pickQ f rows (k + 1) = pickQ f rows k := by
  unfold pickQ
  rw [List.take_take, List.take_take, Nat.min_eq_left (by omega), Nat.min_eq_left (by omega)]
theorem pickQ_len (f : Nat → List UInt8 → ByteArray) {rows : List RowT} {k : Nat} (hk : k ≤ rows.length) : (pickQ f rows k).length = min k 4 := by
  unfold pickQ
  simp only [List.length_map, List.length_zipIdx, List.length_take]
  omega
theorem pickQ_small (f : Nat → List UInt8 → ByteArray) {m : Nat} (hf : ∀ k l, (f k l).size ≤ m) (rows : List RowT) (k : Nat) : ∀ s ∈ pickQ f rows k, s.size ≤ m := by
  intro s hs
  unfold pickQ at hs
  obtain ⟨p, _, rfl⟩ := List.mem_map.1 hs
  exact hf _ _
def fAns (six : Bool) : Nat → List UInt8 → ByteArray := fun k l => addrQ (six == (k % 2 == 0)) l
def fSrv : Nat → List UInt8 → ByteArray := fun _ l => nameQ l
def fHst (six : Bool) : Nat → List UInt8 → ByteArray := fun _ l => addrQ six l
/-- The facts' box and the three slices that it holds. -/
structure FS (W : World) (b : Nat) (C N : ByteArray) (v1 v2 v3 : Value) (n1 n2 n3 : Nat) (l1 l2 l3 : List Value) (w : World) : Prop where
  o1 : OB W.heap.size W v1 n1 l1 w
  o2 : OB W.heap.size W v2 n2 l2 w
  o3 : OB W.heap.size W v3 n3 l3 w
  cs : Cs w b [.string C, .string N, v1, v2, v3]
  base : W.heap.size ≤ b
  b1 : v1.ownBlock ≠ some b
  b2 : v2.ownBlock ≠ some b
  b3 : v3.ownBlock ≠ some b
  d12 : ∀ k, v1.ownBlock = some k → v2.ownBlock ≠ some k
  d13 : ∀ k, v1.ownBlock = some k → v3.ownBlock ≠ some k
  d23 : ∀ k, v2.ownBlock = some k → v3.ownBlock ≠ some k
section
variable {W w w' : World} {b : Nat} {C N : ByteArray} {v1 v2 v3 v' : Value} {n1 n2 n3 m : Nat} {l1 l2 l3 l' : List Value}
theorem FS.keep (h : FS W b C N v1 v2 v3 n1 n2 n3 l1 l2 l3 w) (hb : Below w.heap.size w w') : FS W b C N v1 v2 v3 n1 n2 n3 l1 l2 l3 w' :=
  ⟨h.o1.keep hb (Nat.le_refl _), h.o2.keep hb (Nat.le_refl _), h.o3.keep hb (Nat.le_refl _), h.cs.below hb, h.base, h.b1, h.b2, h.b3, h.d12, h.d13, h.d23⟩
theorem FS.start {b : Nat} (hb : Below W.heap.size W w) (hB : W.heap.size ≤ b) (hc : Cs w b [.string C, .string N, .slice none 0 0, .slice none 0 0, .slice none 0 0]) : FS W b C N (.slice none 0 0) (.slice none 0 0) (.slice none 0 0) 0 0 0 [] [] [] w :=
  ⟨OB.nil hb hb.size, OB.nil hb hb.size, OB.nil hb hb.size, hc, hB, by simp [Value.ownBlock], by simp [Value.ownBlock], by simp [Value.ownBlock], by simp [Value.ownBlock], by simp [Value.ownBlock], by simp [Value.ownBlock]⟩

/-- What append has made is put into the box. -/
theorem FS.put1 (h : FS W b C N v1 v2 v3 n1 n2 n3 l1 l2 l3 w) (ho : OB W.heap.size W v' m l' w') (hs : w.heap.size ≤ w'.heap.size) (hk : ∀ k, k < w.heap.size → some k ≠ v1.ownBlock → w'.heap[k]? = w.heap[k]?) (hv : v'.ownBlock = v1.ownBlock ∨ v'.ownBlock = some w.heap.size) :
    FS W b C N v' v2 v3 m n2 n3 l' l2 l3 (w'.setCell ⟨b, 2, none⟩ v') := by
  have hbb := hk b h.cs.lt (fun e => h.b1 e.symm)
  have hset : ∀ k, k ≠ b → (w'.setCell ⟨b, 2, none⟩ v').heap[k]? = w'.heap[k]? := fun k hk => Below.heap_setCell w' ⟨b, 2, none⟩ v' k hk
  have hbel : Below W.heap.size W (w'.setCell ⟨b, 2, none⟩ v') := ho.bel.setCell (p := ⟨b, 2, none⟩) h.base _
  have hvb : v'.ownBlock ≠ some b := by
    rcases hv with e | e
    · rw [e]; exact h.b1
    · rw [e]; intro e2; injection e2 with e2; have := h.cs.lt; omega
  have k2 : ∀ k, v2.ownBlock = some k → w'.heap[k]? = w.heap[k]? := by
    intro k e
    refine hk k (h.o2.lt k e).2 (fun e2 => ?_)
    exact h.d12 k e2.symm e
  have e2 : ∀ k, v'.ownBlock = some k → v2.ownBlock ≠ some k := by
    intro k e e2
    rcases hv with q | q
    · rw [q] at e; exact h.d12 k e e2
    · rw [q] at e; injection e with e; have := (h.o2.lt k e2).2; omega
  have k3 : ∀ k, v3.ownBlock = some k → w'.heap[k]? = w.heap[k]? := by
    intro k e
    refine hk k (h.o3.lt k e).2 (fun e2 => ?_)
    exact h.d13 k e2.symm e
  have e3 : ∀ k, v'.ownBlock = some k → v3.ownBlock ≠ some k := by
    intro k e e2
    rcases hv with q | q
    · rw [q] at e; exact h.d13 k e e2
    · rw [q] at e; injection e with e; have := (h.o3.lt k e2).2; omega
  exact ⟨ho.block hbel (by simp) (fun k e => hset k (fun e2 => hvb (by rw [e, e2]))), h.o2.block hbel (by simpa using hs) (fun k e => (hset k (fun e2 => h.b2 (by rw [e, e2]))).trans (k2 k e)), h.o3.block hbel (by simpa using hs) (fun k e => (hset k (fun e2 => h.b3 (by rw [e, e2]))).trans (k3 k e)), (h.cs.block hbb hs).set' 2 v' (by simp), h.base, hvb, h.b2, h.b3, e2, e3, h.d23⟩
/-- What append has made is put into the box. -/
theorem FS.put2 (h : FS W b C N v1 v2 v3 n1 n2 n3 l1 l2 l3 w) (ho : OB W.heap.size W v' m l' w') (hs : w.heap.size ≤ w'.heap.size) (hk : ∀ k, k < w.heap.size → some k ≠ v2.ownBlock → w'.heap[k]? = w.heap[k]?) (hv : v'.ownBlock = v2.ownBlock ∨ v'.ownBlock = some w.heap.size) :
    FS W b C N v1 v' v3 n1 m n3 l1 l' l3 (w'.setCell ⟨b, 3, none⟩ v') := by
  have hbb := hk b h.cs.lt (fun e => h.b2 e.symm)
  have hset : ∀ k, k ≠ b → (w'.setCell ⟨b, 3, none⟩ v').heap[k]? = w'.heap[k]? := fun k hk => Below.heap_setCell w' ⟨b, 3, none⟩ v' k hk
  have hbel : Below W.heap.size W (w'.setCell ⟨b, 3, none⟩ v') := ho.bel.setCell (p := ⟨b, 3, none⟩) h.base _
  have hvb : v'.ownBlock ≠ some b := by
    rcases hv with e | e
    · rw [e]; exact h.b2
    · rw [e]; intro e2; injection e2 with e2; have := h.cs.lt; omega
  have k1 : ∀ k, v1.ownBlock = some k → w'.heap[k]? = w.heap[k]? := by
    intro k e
    refine hk k (h.o1.lt k e).2 (fun e2 => ?_)
    exact h.d12 k e e2.symm
  have e1 : ∀ k, v'.ownBlock = some k → v1.ownBlock ≠ some k := by
    intro k e e2
    rcases hv with q | q
    · rw [q] at e; exact h.d12 k e2 e
    · rw [q] at e; injection e with e; have := (h.o1.lt k e2).2; omega
  have k3 : ∀ k, v3.ownBlock = some k → w'.heap[k]? = w.heap[k]? := by
    intro k e
    refine hk k (h.o3.lt k e).2 (fun e2 => ?_)
    exact h.d23 k e2.symm e
  have e3 : ∀ k, v'.ownBlock = some k → v3.ownBlock ≠ some k := by
    intro k e e2
    rcases hv with q | q
    · rw [q] at e; exact h.d23 k e e2
    · rw [q] at e; injection e with e; have := (h.o3.lt k e2).2; omega
  exact ⟨h.o1.block hbel (by simpa using hs) (fun k e => (hset k (fun e2 => h.b1 (by rw [e, e2]))).trans (k1 k e)), ho.block hbel (by simp) (fun k e => hset k (fun e2 => hvb (by rw [e, e2]))), h.o3.block hbel (by simpa using hs) (fun k e => (hset k (fun e2 => h.b3 (by rw [e, e2]))).trans (k3 k e)), (h.cs.block hbb hs).set' 3 v' (by simp), h.base, h.b1, hvb, h.b3, fun k y1 y2 => e1 k y2 y1, h.d13, e3⟩
/-- What append has made is put into the box. -/
theorem FS.put3 (h : FS W b C N v1 v2 v3 n1 n2 n3 l1 l2 l3 w) (ho : OB W.heap.size W v' m l' w') (hs : w.heap.size ≤ w'.heap.size) (hk : ∀ k, k < w.heap.size → some k ≠ v3.ownBlock → w'.heap[k]? = w.heap[k]?) (hv : v'.ownBlock = v3.ownBlock ∨ v'.ownBlock = some w.heap.size) :
    FS W b C N v1 v2 v' n1 n2 m l1 l2 l' (w'.setCell ⟨b, 4, none⟩ v') := by
  have hbb := hk b h.cs.lt (fun e => h.b3 e.symm)
  have hset : ∀ k, k ≠ b → (w'.setCell ⟨b, 4, none⟩ v').heap[k]? = w'.heap[k]? := fun k hk => Below.heap_setCell w' ⟨b, 4, none⟩ v' k hk
  have hbel : Below W.heap.size W (w'.setCell ⟨b, 4, none⟩ v') := ho.bel.setCell (p := ⟨b, 4, none⟩) h.base _
  have hvb : v'.ownBlock ≠ some b := by
    rcases hv with e | e
    · rw [e]; exact h.b3
    · rw [e]; intro e2; injection e2 with e2; have := h.cs.lt; omega
  have k1 : ∀ k, v1.ownBlock = some k → w'.heap[k]? = w.heap[k]? := by
    intro k e
    refine hk k (h.o1.lt k e).2 (fun e2 => ?_)
    exact h.d13 k e e2.symm
  have e1 : ∀ k, v'.ownBlock = some k → v1.ownBlock ≠ some k := by
    intro k e e2
    rcases hv with q | q
    · rw [q] at e; exact h.d13 k e2 e
    · rw [q] at e; injection e with e; have := (h.o1.lt k e2).2; omega
  have k2 : ∀ k, v2.ownBlock = some k → w'.heap[k]? = w.heap[k]? := by
    intro k e
    refine hk k (h.o2.lt k e).2 (fun e2 => ?_)
    exact h.d23 k e e2.symm
  have e2 : ∀ k, v'.ownBlock = some k → v2.ownBlock ≠ some k := by
    intro k e e2
    rcases hv with q | q
    · rw [q] at e; exact h.d23 k e2 e
    · rw [q] at e; injection e with e; have := (h.o2.lt k e2).2; omega
  exact ⟨h.o1.block hbel (by simpa using hs) (fun k e => (hset k (fun e2 => h.b1 (by rw [e, e2]))).trans (k1 k e)), h.o2.block hbel (by simpa using hs) (fun k e => (hset k (fun e2 => h.b2 (by rw [e, e2]))).trans (k2 k e)), ho.block hbel (by simp) (fun k e => hset k (fun e2 => hvb (by rw [e, e2]))), (h.cs.block hbb hs).set' 4 v' (by simp), h.base, h.b1, h.b2, hvb, h.d12, fun k y1 y2 => e1 k y2 y1, fun k y1 y2 => e2 k y2 y1⟩
end
end Go.Proofs.YtkdknfedieeenaaDoor
namespace Go.Proofs.YtkdknfedieeenaaDoor
open Go.RowKit
set_option linter.unusedVariables false
set_option linter.unusedSimpArgs false
set_option maxRecDepth 20000
attribute [local simp] putsF isV wordOf Deps Region.binds Region.wanted Act.put wantedX isB
theorem nam_info : (Tryd.prog.info? 29).map (fun i => (i.zero, i.size, i.bytes)) = some (some (.string ⟨#[]⟩), 1, 16) := by kernel_rfl
def boxF (B : Nat) (vs : List Value) : Value → World → Prop := fun v w => ∃ g, v = .pointer (some ⟨g, 0, none⟩) ∧ B ≤ g ∧ Cs w g vs
theorem boxF_stays (B : Nat) (vs : List Value) : ∀ v w w', boxF B vs v w → Goes w w' → boxF B vs v w' := by
  rintro v w w' ⟨g, hx, hB, hc⟩ he
  exact ⟨g, hx, hB, hc.below he⟩
def anyF : Value → World → Prop := fun _ _ => True
theorem anyF_stays : ∀ v w w', anyF v w → Goes w w' → anyF v w' := fun _ _ _ _ _ => trivial
theorem trigQ (l : List UInt8) : ∃ (TK TB : Int) (TA : ByteArray), ∀ (wx : World) (A : Option Addr) (n c : Nat), Sl wx wx.heap.size 1 A n (l.map bv) → n ≤ 140737488355328 →
    Calls Tryd.prog 6 #[.int .u8 1, .slice A n c, .bool false, .int .u8 0] wx fun e w' => e = .returned (.agg #[.int .i64 TK, .string (nameQ l), .string TA, .int .i64 TB]) ∧ Below wx.heap.size wx w' := by
  refine ⟨(trigD 1 (intsU l) false 0).kind, (trigD 1 (intsU l) false 0).bits, baL (trigD 1 (intsU l) false 0).addr, fun wx A n c h hn => ?_⟩
  refine (trigD_any 1 (by omega) A n c (intsU l) false 0 (by omega) wx (by rw [intsU_map]; exact h) (intsU_ok l) hn).mono ?_
  rintro e w' ⟨t, rfl, ht, hb⟩
  rw [ht.eq]
  exact ⟨rfl, hb⟩
theorem set5_size (w : World) (g : Nat) (a b c d e : Value) : (World.setCell (World.setCell (World.setCell (World.setCell (World.setCell w ⟨g, 0, none⟩ a) ⟨g, 1, none⟩ b) ⟨g, 2, none⟩ c) ⟨g, 3, none⟩ d) ⟨g, 4, none⟩ e).heap.size = w.heap.size := by simp
theorem set5_heap (w : World) (g : Nat) (a b c d e : Value) (k : Nat) (hk : k ≠ g) : (World.setCell (World.setCell (World.setCell (World.setCell (World.setCell w ⟨g, 0, none⟩ a) ⟨g, 1, none⟩ b) ⟨g, 2, none⟩ c) ⟨g, 3, none⟩ d) ⟨g, 4, none⟩ e).heap[k]? = w.heap[k]? := by
  rw [Below.heap_setCell _ _ _ k hk, Below.heap_setCell _ _ _ k hk, Below.heap_setCell _ _ _ k hk, Below.heap_setCell _ _ _ k hk, Below.heap_setCell _ _ _ k hk]
theorem set5_below {B g : Nat} {W w : World} (h : Below B W w) (hg : B ≤ g) (a b c d e : Value) : Below B W (World.setCell (World.setCell (World.setCell (World.setCell (World.setCell w ⟨g, 0, none⟩ a) ⟨g, 1, none⟩ b) ⟨g, 2, none⟩ c) ⟨g, 3, none⟩ d) ⟨g, 4, none⟩ e) :=
  ((((h.setCell (p := ⟨g, 0, none⟩) hg a).setCell (p := ⟨g, 1, none⟩) hg b).setCell (p := ⟨g, 2, none⟩) hg c).setCell (p := ⟨g, 3, none⟩) hg d).setCell (p := ⟨g, 4, none⟩) hg e
theorem set5_cs {g : Nat} {w : World} {a' b' c' d' e' : Value} (h : Cs w g [a', b', c', d', e']) (a b c d e : Value) : Cs (World.setCell (World.setCell (World.setCell (World.setCell (World.setCell w ⟨g, 0, none⟩ a) ⟨g, 1, none⟩ b) ⟨g, 2, none⟩ c) ⟨g, 3, none⟩ d) ⟨g, 4, none⟩ e) g [a, b, c, d, e] :=
  ((((h.set' 0 a (by simp)).set' 1 b (by simp)).set' 2 c (by simp)).set' 3 d (by simp)).set' 4 e (by simp)
set_option maxHeartbeats 4000000 in
theorem store5 {Q : Exit → Act → World → Prop} {G : Act → World → Prop} (o : Oper) (i j : Nat) (ho : o.op = .store 37 (.tmp i) (.tmp j)) (hd : o.dst = none) (a : Act) (w : World) (g : Nat) (C N : ByteArray) (A1 A2 A3 : Option Addr) (n1 c1 n2 c2 n3 c3 : Nat)
    (hc : Cs w g [.string ⟨#[]⟩, .string ⟨#[]⟩, .slice none 0 0, .slice none 0 0, .slice none 0 0]) (hp : a.tmps[i]? = some (.pointer (some ⟨g, 0, none⟩))) (hx : a.tmps[j]? = some (.agg #[.string C, .string N, .slice A1 n1 c1, .slice A2 n2 c2, .slice A3 n3 c3]))
    (h : ∀ w6, Cs w6 g [.string C, .string N, .slice A1 n1 c1, .slice A2 n2 c2, .slice A3 n3 c3] → w6.heap.size = w.heap.size → (∀ k, k ≠ g → w6.heap[k]? = w.heap[k]?) → (∀ B W, B ≤ g → Below B W w → Below B W w6) → G a w6) :
    Oper.wp Tryd.prog o a w (fun a' w' => ∃ u, a' = a.put o.dst u ∧ G a' w') Q := by
  have hfin := h _ (set5_cs hc (.string C) (.string N) (.slice A1 n1 c1) (.slice A2 n2 c2) (.slice A3 n3 c3)) (set5_size w g _ _ _ _ _) (fun k hk => set5_heap w g _ _ _ _ _ k hk) (fun B W hB hW => set5_below hW hB _ _ _ _ _)
  have m0 := hc.get 0 (.string ⟨#[]⟩)
  have m1 := hc.get 1 (.string ⟨#[]⟩)
  have m2 := hc.get 2 (.slice none 0 0)
  have m3 := hc.get 3 (.slice none 0 0)
  have m4 := hc.get 4 (.slice none 0 0)
  have f0 := hc.froz 0 (by simp)
  have f1 := hc.froz 1 (by simp)
  have f2 := hc.froz 2 (by simp)
  have f3 := hc.froz 3 (by simp)
  have f4 := hc.froz 4 (by simp)
  obtain ⟨dst, op, ty, pos, after, guard⟩ := o
  simp only at ho hd
  subst ho hd
  have HFIN := Lib.hid hfin
  clear hfin h hc
  go_simp
  exact HFIN.out

/-- What the box's own slices are where only another block has turned. -/
theorem OB.sl_other {B : Nat} {W w w' : World} {A : Option Addr} {n c : Nat} {l : List Value} (h : OB B W (.slice A n c) n l w) (hs : w.heap.size ≤ w'.heap.size) (hk : ∀ k, B ≤ k → w'.heap[k]? = w.heap[k]?) : Sl w' w'.heap.size 1 A n l := by
  have hsl := h.sl
  refine ⟨hsl.1, fun hA => ?_⟩
  rcases h.own with ⟨e, hn⟩ | ⟨g, cap, e, hB, hg, h3, h4, h5, h6⟩
  · injection e with e1 e2 e3
    subst hn
    exact absurd hA (by simp)
  · injection e with e1 e2 e3
    exact ⟨g, 0, e1, Nat.lt_of_lt_of_le hg hs, fun j u hu => by
      rw [Nat.zero_add, World.cell?_of_block (a := ⟨g, j, none⟩) (hk g hB)]
      exact h6 j u hu⟩

set_option maxHeartbeats 64000000 in
theorem facts_any (six : Bool) (cA nA A1 A2 A3 : Option Addr) (cn cc nn nc k1 c1 k2 c2 k3 c3 : Nat) (cl nl : List UInt8) (R1 R2 R3 : List RowT) (w : World)
    (hc : Sl w w.heap.size 1 cA cn (cl.map bv)) (hcn : cn ≤ 140737488355328) (hn : Sl w w.heap.size 1 nA nn (nl.map bv)) (hnn : nn ≤ 140737488355328)
    (h1 : Sl w w.heap.size 1 A1 k1 (R1.map rowV)) (h2 : Sl w w.heap.size 1 A2 k2 (R2.map rowV)) (h3 : Sl w w.heap.size 1 A3 k3 (R3.map rowV)) (m1 : k1 ≤ 1152921504606846976) (m2 : k2 ≤ 1152921504606846976) (m3 : k3 ≤ 1152921504606846976)
    (z1 : ∀ r ∈ R1, Sl w w.heap.size 1 r.1 r.2.1 (r.2.2.2.map bv) ∧ r.2.1 ≤ 140737488355328) (z2 : ∀ r ∈ R2, Sl w w.heap.size 1 r.1 r.2.1 (r.2.2.2.map bv) ∧ r.2.1 ≤ 140737488355328) (z3 : ∀ r ∈ R3, Sl w w.heap.size 1 r.1 r.2.1 (r.2.2.2.map bv) ∧ r.2.1 ≤ 140737488355328) :
    Calls Tryd.prog 8 #[.agg #[.bool six, .slice cA cn cc, .slice nA nn nc, .slice A1 k1 c1, .slice A2 k2 c2, .slice A3 k3 c3]] w fun e w' => ∃ (X1 X2 X3 : Option Addr) (q1 q2 q3 e1 e2 e3 : Nat), e = .returned (.agg #[.string (addrQ six cl), .string (nameQ nl), .slice X1 q1 e1, .slice X2 q2 e2, .slice X3 q3 e3]) ∧ Below w.heap.size w w' ∧
      Sl w' w'.heap.size 1 X1 q1 ((pickQ (fAns six) R1 R1.length).map .string) ∧ Sl w' w'.heap.size 1 X2 q2 ((pickQ fSrv R2 R2.length).map .string) ∧ Sl w' w'.heap.size 1 X3 q3 ((pickQ (fHst six) R3 R3.length).map .string) := by
  obtain ⟨i0, hi, hz0, hz1, hz2⟩ := info_parts str_info
  obtain ⟨i1, gi, gz0, gz1, gz2⟩ := info_parts nam_info
  obtain ⟨TK, TB, TA, hTR⟩ := trigQ nl
  obtain ⟨W1, hW1⟩ : ∃ W1, W1 = w.alloc (.cells #[.bool six, .slice cA cn cc, .slice nA nn nc, .slice A1 k1 c1, .slice A2 k2 c2, .slice A3 k3 c3] 25) := ⟨_, rfl⟩
  obtain ⟨W0, hW0⟩ : ∃ W0, W0 = W1.alloc (.cells #[.string ⟨#[]⟩, .string ⟨#[]⟩, .slice none 0 0, .slice none 0 0, .slice none 0 0] 37) := ⟨_, rfl⟩
  have e1 : W1.heap.size = w.heap.size + 1 := by rw [hW1]; simp
  have e0 : W0.heap.size = w.heap.size + 2 := by rw [hW0]; simp [e1]
  have hq0 : Cs W0 w.heap.size [.bool six, .slice cA cn cc, .slice nA nn nc, .slice A1 k1 c1, .slice A2 k2 c2, .slice A3 k3 c3] := by rw [hW0, hW1]; exact (Cs.new w _ _ _).alloc _
  have hr0 : Cs W0 (w.heap.size + 1) [.string ⟨#[]⟩, .string ⟨#[]⟩, .slice none 0 0, .slice none 0 0, .slice none 0 0] := by rw [hW0]; exact (Cs.new W1 _ _ _).at_ _ e1
  have hbel : Below w.heap.size w W0 := by
    rw [hW0, hW1]
    exact ((Below.refl w.heap.size w).alloc (Nat.le_refl _) _).alloc (by simp) _
  rw [hW1] at hW0
  have had : ∀ wx, Below W0.heap.size W0 wx → Calls Tryd.prog 13 #[.bool six, .slice cA cn cc] wx fun e w' => e = .returned (.string (addrQ six cl)) ∧ Below wx.heap.size wx w' := fun wx hx => addrD_any six cA cn cc cl wx ((((hc.below hbel).more hbel.size).below hx).more hx.size) hcn
  have htr : ∀ wx, Below W0.heap.size W0 wx → Calls Tryd.prog 6 #[.int .u8 1, .slice nA nn nc, .bool false, .int .u8 0] wx fun e w' => e = .returned (.agg #[.int .i64 TK, .string (nameQ nl), .string TA, .int .i64 TB]) ∧ Below wx.heap.size wx w' := fun wx hx => hTR wx nA nn nc ((((hn.below hbel).more hbel.size).below hx).more hx.size) hnn
  have s1 : Sl W0 W0.heap.size 1 A1 k1 (R1.map rowV) := (h1.below hbel).more hbel.size
  have y1 : ∀ r ∈ R1, Sl W0 W0.heap.size 1 r.1 r.2.1 (r.2.2.2.map bv) ∧ r.2.1 ≤ 140737488355328 := fun r hr => ⟨((z1 r hr).1.below hbel).more hbel.size, (z1 r hr).2⟩
  have S1 := Lib.hid s1
  have Y1 := Lib.hid y1
  have s2 : Sl W0 W0.heap.size 1 A2 k2 (R2.map rowV) := (h2.below hbel).more hbel.size
  have y2 : ∀ r ∈ R2, Sl W0 W0.heap.size 1 r.1 r.2.1 (r.2.2.2.map bv) ∧ r.2.1 ≤ 140737488355328 := fun r hr => ⟨((z2 r hr).1.below hbel).more hbel.size, (z2 r hr).2⟩
  have S2 := Lib.hid s2
  have Y2 := Lib.hid y2
  have s3 : Sl W0 W0.heap.size 1 A3 k3 (R3.map rowV) := (h3.below hbel).more hbel.size
  have y3 : ∀ r ∈ R3, Sl W0 W0.heap.size 1 r.1 r.2.1 (r.2.2.2.map bv) ∧ r.2.1 ≤ 140737488355328 := fun r hr => ⟨((z3 r hr).1.below hbel).more hbel.size, (z3 r hr).2⟩
  have S3 := Lib.hid s3
  have Y3 := Lib.hid y3
  obtain ⟨C, hC⟩ : ∃ C, C = addrQ six cl := ⟨_, rfl⟩
  obtain ⟨N, hN⟩ : ∃ N, N = nameQ nl := ⟨_, rfl⟩
  rw [← hC] at had
  rw [← hN] at htr
  rw [← hC, ← hN]
  have HAD := Lib.hid had
  have HTR := Lib.hid htr
  have HQ0 := Lib.hid hq0
  have HR0 := Lib.hid hr0
  have HBEL := Lib.hid hbel
  have HE0 := Lib.hid e0
  clear hc hn h1 h2 h3 z1 z2 z3 s1 s2 s3 y1 y2 y3 had htr hq0 hr0 hbel hW1 e1 hC hN hTR e0
  go_enter Tryd.func8, Tryd.ntmps8
  go_upto_region 1 with fail
  rw [← hW0]
  clear hW0
  refine wp_region_tail ad_follows (fun x => by simp [putsF, Act.put]; rfl) (fun v => Below W0.heap.size W0 v)
    [isV (.pointer (some ⟨w.heap.size, 0, none⟩)), isV (.bool six), isV (.pointer (some ⟨w.heap.size, 1, none⟩)), isV (.slice cA cn cc), isV (.string C), isV (.pointer (some ⟨w.heap.size, 2, none⟩)), isV (.slice nA nn nc), isV (.agg #[.int .i64 TK, .string N, .string TA, .int .i64 TB]), isV (.string N),
     isV (.agg #[.string C, .string N, .slice none 0 0, .slice none 0 0, .slice none 0 0]), boxF W0.heap.size [.string ⟨#[]⟩, .string ⟨#[]⟩, .slice none 0 0, .slice none 0 0, .slice none 0 0]]
    11 [] (by kernel_rfl) (by kernel_rfl) (by kernel_rfl) rfl (by kernel_rfl) (by kernel_rfl) ?_ (Below.refl _ _).drew ?_ ?_
  · repeat (first | exact trivial | refine ⟨by first | exact isV_stays _ | exact boxF_stays _ _, ?_⟩)
  · refine ⟨?_, ?_, ?_, ?_, ?_, ?_, ?_, ?_, ?_, ?_, ?_, skipped rfl, trivial⟩
    all_goals
      intro _ x wx hR hd
      refine ⟨fun _ => ?_, fun hX => by simp at hX⟩
      simp at hd ⊢
    · go_simp; exact nextL _ rfl rfl hR (Below.refl _ _)
    · have q := (HQ0.out.below hR).get 0 (.bool six)
      go_simp; exact nextL _ rfl rfl hR (Below.refl _ _)
    · go_simp; exact nextL _ rfl rfl hR (Below.refl _ _)
    · have q := (HQ0.out.below hR).get 1 (.slice cA cn cc)
      go_simp; exact nextL _ rfl rfl hR (Below.refl _ _)
    · try obtain ⟨hd1, hd2⟩ := hd
      go_simp
      go_at_call 13
      refine (HAD.out wx hR).mono ?_
      rintro e wy ⟨rfl, hby⟩
      exact nextL _ rfl rfl (hR.trans (hby.mono hR.size)) hby
    · go_simp; exact nextL _ rfl rfl hR (Below.refl _ _)
    · have q := (HQ0.out.below hR).get 2 (.slice nA nn nc)
      go_simp; exact nextL _ rfl rfl hR (Below.refl _ _)
    · try obtain ⟨hd1, hd2⟩ := hd
      go_simp
      go_at_call 6
      refine (HTR.out wx hR).mono ?_
      rintro e wy ⟨rfl, hby⟩
      exact nextL _ rfl rfl (hR.trans (hby.mono hR.size)) hby
    · go_simp; exact nextL _ rfl rfl hR (Below.refl _ _)
    · obtain ⟨hd1, hd2⟩ := hd
      go_simp; exact nextL _ rfl rfl hR (Below.refl _ _)
    · go_simp; exact nextL _ rfl ⟨_, rfl, hR.size, Cs.new _ _ _ _⟩ (hR.alloc hR.size _) ((Below.refl _ _).alloc (Nat.le_refl _) _)
  intro x w5 hR5 hx _
  obtain ⟨-, -, -, -, -, -, -, -, -, x9, x10, -⟩ := hx
  have x9 : x 9 = .agg #[.string C, .string N, .slice none 0 0, .slice none 0 0, .slice none 0 0] := x9
  obtain ⟨g, x10, hgB, hcg⟩ : boxF W0.heap.size [.string ⟨#[]⟩, .string ⟨#[]⟩, .slice none 0 0, .slice none 0 0, .slice none 0 0] (x 10) w5 := x10
  change tailWp _ _ [_] _ _
  rw [adtail_cons, x9, x10]
  refine store5 _ 3 19 rfl rfl _ w5 g C N none none none 0 0 0 0 0 0 hcg rfl rfl ?_
  intro w6 hc6 hs6 hh6 hb6
  rw [adtail_nil]
  have HFS6 := Lib.hid (FS.start (hb6 _ _ hgB hR5) hgB hc6)
  clear x9 x10 hcg hc6 hs6 hh6 hb6 hR5

  have d3 := (HQ0.out.below HFS6.out.o1.bel).get 3 (.slice A1 k1 c1)
  go_wp2_with fail
  go_loopw [23] (fun v wr => ∃ j : Nat, j ≤ k1 ∧ v = .int .i64 j ∧ ∃ V m, Hid (FS W0 g C N V (.slice none 0 0) (.slice none 0 0) m 0 0 ((pickQ (fAns six) R1 j).map .string) [] [] wr)) (fun v _ => k1 - (intOf v).toNat)
  case atStart => exact ⟨0, Nat.zero_le _, rfl, _, _, HFS6⟩
  case round =>
    obtain ⟨j, hj, rfl, V, m, HF⟩ := hrel
    have hl : R1.length = k1 := by have := S1.out.1; simpa using this
    have hq := HQ0.out.below HF.out.o1.bel
    have c0 := hq.get 0 (.bool six)
    obtain ⟨AV, cV, rfl, hV1, hV2, hV3⟩ := HF.out.o1.slice3
    have hmj : m = min j 4 := by have := HF.out.o1.len; rw [List.length_map, pickQ_len _ (by omega)] at this; omega
    by_cases hlt : j < k1
    · have hlt' : (j : Int) < k1 := by omega
      obtain ⟨r, hr⟩ : ∃ r, R1[j]? = some r := ⟨_, List.getElem?_eq_getElem (by rw [hl]; omega)⟩
      obtain ⟨bb, off, u, hAe, hbb, hu, hc⟩ := (S1.out.below HF.out.o1.bel).at_ hlt
      have hy := Y1.out r (List.mem_of_getElem? hr)
      obtain ⟨rA, rn, rc, rl⟩ := r
      have hcell : wr.cell? ⟨bb, off + j, none⟩ = some (.slice rA rn rc) := by
        rw [List.getElem?_map, hr] at hu
        simp only [Option.map_some, Option.some.injEq] at hu
        rw [← hu] at hc
        exact hc
      have HY := Lib.hid hy
      have HR := Lib.hid hr
      have HM := Lib.hid hmj
      have HV := Lib.hid (And.intro hV1 (And.intro hV2 hV3))
      have hB := HF.out.base
      clear hr hu hc hbb hy hl hq hV1 hV2 hV3 hmj
      obtain rfl := hAe
      by_cases hj4 : j < 4
      · have hj4' : (j : Int) < 4 := by omega
        have HNX := Lib.hid (pickQ_next (fAns six) HR.out hj4)
        have hm2 : (j : Int).tmod 2 = (j : Int) % 2 := Int.tmod_eq_emod_of_nonneg (by omega)
        have hm3 : ((j : Int) % 2 == 0) = (j % 2 == 0) := by rcases Nat.mod_two_eq_zero_or_one j with h | h <;> (have h2 : (j : Int) % 2 = ((j % 2 : Nat) : Int) := by omega) <;> rw [h2, h] <;> rfl
        have HM3 : Hid ((⟨(addrD (six == ((j : Int) % 2 == 0)) rl).toArray⟩ : ByteArray) = fAns six j rl) := Lib.hid (by rw [hm3]; rfl)
        clear hm3
        go_upto_region 6 with fail
        refine wp_region_app ad_follows (fun x => by simp [putsF, Act.put]; rfl) (fun v => Below wr.heap.size wr v)
          (fun v' w' => ∃ w1, FS W0 g C N  (.slice AV m cV) (.slice none 0 0) (.slice none 0 0)  m 0 0  ((pickQ (fAns six) R1 j).map .string) [] [] w1 ∧ OB W0.heap.size W0 v' (m + 1) (((pickQ (fAns six) R1 j).map .string) ++ [.string (fAns six j rl)]) w' ∧ w1.heap.size ≤ w'.heap.size ∧ (∀ k, k < w1.heap.size → some k ≠ (Value.slice AV m cV).ownBlock → w'.heap[k]? = w1.heap[k]?) ∧ (v'.ownBlock = (Value.slice AV m cV).ownBlock ∨ v'.ownBlock = some w1.heap.size))
          [isV (.pointer (some ⟨g, 2, none⟩)), isV (.slice AV m cV), isV (.pointer (some ⟨w.heap.size, 0, none⟩)), isV (.bool six), isV (.int .i64 j), isV (.int .i64 ((j : Int) % 2)), isV (.bool ((j : Int) % 2 == 0)), isV (.bool (six == ((j : Int) % 2 == 0))), isV (.slice rA rn rc), isV (.string (fAns six j rl)), litD 1 [.string (fAns six j rl)], anyF, isV (.pointer (some ⟨g, 2, none⟩)), anyF]
          11 13 (by kernel_rfl) (by kernel_rfl) (by kernel_rfl) rfl (by kernel_rfl) ?_ ⟨fun _ _ => trivial, fun _ _ => trivial⟩ (Below.refl _ _).drew ?_ ?_ ?_ ?_
        · repeat (first | exact trivial | refine ⟨by first | exact isV_stays _ | exact litD_stays _ _ | exact anyF_stays, ?_⟩)
        · refine ⟨?_, ?_, ?_, ?_, ?_, ?_, ?_, ?_, ?_, ?_, ?_, skipped rfl, skipped rfl, skipped rfl, trivial⟩
          all_goals
            intro _ x wx hR hd
            refine ⟨fun _ => ?_, fun hX => by simp at hX⟩
            simp at hd ⊢
          · go_simp; exact nextL _ rfl rfl hR (Below.refl _ _)
          · have q := (HF.out.keep hR).cs.get 2 (.slice AV m cV)
            go_simp; exact nextL _ rfl rfl hR (Below.refl _ _)
          · go_simp; exact nextL _ rfl rfl hR (Below.refl _ _)
          · have q := (HQ0.out.below (HF.out.keep hR).o1.bel).get 0 (.bool six)
            go_simp; exact nextL _ rfl rfl hR (Below.refl _ _)
          · go_simp; exact nextL _ rfl rfl hR (Below.refl _ _)
          · go_simp; exact nextL _ rfl rfl hR (Below.refl _ _)
          · go_simp; exact nextL _ rfl rfl hR (Below.refl _ _)
          · obtain ⟨hd1, hd2⟩ := hd
            go_simp; exact nextL _ rfl rfl hR (Below.refl _ _)
          · go_simp; exact nextL _ rfl rfl hR (Below.refl _ _)
          · obtain ⟨hd1, hd2⟩ := hd
            go_simp
            go_at_call 13
            have hFR := HF.out.keep hR
            refine (addrD_any (six == ((j : Int) % 2 == 0)) rA rn rc rl wx ((HY.out.1.below hFR.o1.bel).more hFR.o1.bel.size) HY.out.2).mono ?_
            rintro e wy ⟨rfl, hby⟩
            exact nextL _ rfl (congrArg Value.string HM3.out) (hR.trans (hby.mono hR.size)) hby
          · go_simp; exact nextL _ rfl ⟨_, rfl, Cs.new _ _ _ _⟩ (hR.alloc hR.size _) ((Below.refl _ _).alloc (Nat.le_refl _) _)
        · refine ⟨skipped rfl, skipped rfl, skipped rfl, skipped rfl, skipped rfl, skipped rfl, skipped rfl, skipped rfl, skipped rfl, skipped rfl, skipped rfl, skipped rfl, ?_, skipped rfl, trivial⟩
          intro _ x wx hd
          go_simp
          try exact ⟨_, rfl, rfl, fun _ => rfl⟩
        · intro x wx hR hx o ho
          have ho := Option.some.inj ho
          subst ho
          have hx1 : x 1 = .slice AV m cV := hx.2.1 rfl
          obtain ⟨gl, hxl, hcl⟩ : litD 1 [.string (fAns six j rl)] (x 10) wx := hx.2.2.2.2.2.2.2.2.2.2.1 rfl
          have hF := HF.out.keep hR
          refine oper_appF _ _ _ _ rfl 9 i0 _ 16 Tryd.underlying34 hi hz0 hz1 hz2 rfl hF.o1 hx1 hxl (Src.ofSlice _ Tryd.underlying34 ⟨gl, 0, none⟩ 1 1 [.string (fAns six j rl)] rfl (fun j u hu => by rw [Addr.add_lit, Nat.zero_add]; exact hcl.get j u hu) (by intro u hu; simp at hu; subst hu; rfl)) (by have := HM.out; unfold maxLen; omega) (by have := HM.out; omega) ?_
          intro v' w' p1 p2 p3 p4
          exact ⟨v', rfl, wx, hF, p1, p2, p3, p4⟩
        · intro x wx hA hx o ho
          have ho := Option.some.inj ho
          subst ho
          obtain ⟨w1, hF, p1, p2, p3, p4⟩ := hA
          obtain ⟨_, hx12⟩ := hx.2.2.2.2.2.2.2.2.2.2.2.2.1
          have hx12 : x 12 = .pointer (some ⟨g, 2, none⟩) := hx12
          have hput := hF.put1 p1 p2 p3 p4
          have hcs : Cs wx g _ := hF.cs.block (p3 g hF.cs.lt (fun e => hF.b1 e.symm)) p2
          have f0 := hcs.froz 2 (by simp)
          have f1 := hcs.get 2 (.slice AV m cV)
          generalize x 11 = v9 at *
          obtain ⟨A9, c9, rfl, -⟩ := p1.slice3
          have HPUT := Lib.hid hput
          clear hput hcs hF p1 p2 p3 p4 hx
          go_simp
          go_wp2_with fail
          go_roundw
          case rel => exact ⟨j + 1, by omega, by go_num, _, _, Lib.hid (by rw [HNX.out, List.map_append]; exact HPUT.out)⟩
          case measure => simp [intOf]; omega
      · have hj4' : ¬ (j : Int) < 4 := by omega
        have HNX := Lib.hid (pickQ_over (fAns six) (rows := R1) hj4)
        go_wp2_with fail
        go_roundw
        case rel => exact ⟨j + 1, by omega, by go_num, _, _, Lib.hid (by rw [HNX.out]; exact HF.out)⟩
        case measure => simp [intOf]; omega
    · have hlt' : ¬ (j : Int) < k1 := by omega
      have hje : j = R1.length := by omega
      obtain ⟨X1, q1, e1, HFS7⟩ : ∃ X q e, Hid (FS W0 g C N (.slice X q e) (.slice none 0 0) (.slice none 0 0) q 0 0 ((pickQ (fAns six) R1 R1.length).map .string) [] [] wr) := ⟨AV, m, cV, by rw [← hje]; exact HF⟩
      clear HF HFS6 hmj hV1 hV2 hV3 hl hj hlt hq c0 hje
      clear AV m cV
      have d4 := (HQ0.out.below HFS7.out.o1.bel).get 4 (.slice A2 k2 c2)
      go_wp2_with fail
      go_loopw [47] (fun v wr => ∃ j : Nat, j ≤ k2 ∧ v = .int .i64 j ∧ ∃ V m, Hid (FS W0 g C N (.slice X1 q1 e1) V (.slice none 0 0) q1 m 0 ((pickQ (fAns six) R1 R1.length).map .string) ((pickQ fSrv R2 j).map .string) [] wr)) (fun v _ => k2 - (intOf v).toNat)
      case atStart => exact ⟨0, Nat.zero_le _, rfl, _, _, HFS7⟩
      case round =>
        obtain ⟨j, hj, rfl, V, m, HF⟩ := hrel
        have hl : R2.length = k2 := by have := S2.out.1; simpa using this
        have hq := HQ0.out.below HF.out.o1.bel
        have c0 := hq.get 0 (.bool six)
        obtain ⟨AV, cV, rfl, hV1, hV2, hV3⟩ := HF.out.o2.slice3
        have hmj : m = min j 4 := by have := HF.out.o2.len; rw [List.length_map, pickQ_len _ (by omega)] at this; omega
        by_cases hlt : j < k2
        · have hlt' : (j : Int) < k2 := by omega
          obtain ⟨r, hr⟩ : ∃ r, R2[j]? = some r := ⟨_, List.getElem?_eq_getElem (by rw [hl]; omega)⟩
          obtain ⟨bb, off, u, hAe, hbb, hu, hc⟩ := (S2.out.below HF.out.o1.bel).at_ hlt
          have hy := Y2.out r (List.mem_of_getElem? hr)
          obtain ⟨rA, rn, rc, rl⟩ := r
          have hcell : wr.cell? ⟨bb, off + j, none⟩ = some (.slice rA rn rc) := by
            rw [List.getElem?_map, hr] at hu
            simp only [Option.map_some, Option.some.injEq] at hu
            rw [← hu] at hc
            exact hc
          have HY := Lib.hid hy
          have HR := Lib.hid hr
          have HM := Lib.hid hmj
          have HV := Lib.hid (And.intro hV1 (And.intro hV2 hV3))
          have hB := HF.out.base
          clear hr hu hc hbb hy hl hq hV1 hV2 hV3 hmj
          obtain rfl := hAe
          by_cases hj4 : j < 4
          · have hj4' : (j : Int) < 4 := by omega
            have HNX := Lib.hid (pickQ_next fSrv HR.out hj4)
            obtain ⟨TK2, TB2, TA2, htq⟩ := trigQ rl
            have HTQ := Lib.hid htq
            clear htq
            go_upto_region 12 with fail
            refine wp_region_app ad_follows (fun x => by simp [putsF, Act.put]; rfl) (fun v => Below wr.heap.size wr v)
              (fun v' w' => ∃ w1, FS W0 g C N (.slice X1 q1 e1) (.slice AV m cV) (.slice none 0 0) q1 m 0 ((pickQ (fAns six) R1 R1.length).map .string) ((pickQ fSrv R2 j).map .string) [] w1 ∧ OB W0.heap.size W0 v' (m + 1) (((pickQ fSrv R2 j).map .string) ++ [.string (fSrv j rl)]) w' ∧ w1.heap.size ≤ w'.heap.size ∧ (∀ k, k < w1.heap.size → some k ≠ (Value.slice AV m cV).ownBlock → w'.heap[k]? = w1.heap[k]?) ∧ (v'.ownBlock = (Value.slice AV m cV).ownBlock ∨ v'.ownBlock = some w1.heap.size))
              [isV (.pointer (some ⟨g, 3, none⟩)), isV (.slice AV m cV), isV (.slice rA rn rc), isV (.agg #[.int .i64 TK2, .string (fSrv j rl), .string TA2, .int .i64 TB2]), isV (.string (fSrv j rl)), litD 1 [.string (fSrv j rl)], anyF, isV (.pointer (some ⟨g, 3, none⟩)), anyF]
              6 8 (by kernel_rfl) (by kernel_rfl) (by kernel_rfl) rfl (by kernel_rfl) ?_ ⟨fun _ _ => trivial, fun _ _ => trivial⟩ (Below.refl _ _).drew ?_ ?_ ?_ ?_
            · repeat (first | exact trivial | refine ⟨by first | exact isV_stays _ | exact litD_stays _ _ | exact anyF_stays, ?_⟩)
            · refine ⟨?_, ?_, ?_, ?_, ?_, ?_, skipped rfl, skipped rfl, skipped rfl, trivial⟩
              all_goals
                intro _ x wx hR hd
                refine ⟨fun _ => ?_, fun hX => by simp at hX⟩
                simp at hd ⊢
              · go_simp; exact nextL _ rfl rfl hR (Below.refl _ _)
              · have q := (HF.out.keep hR).cs.get 3 (.slice AV m cV)
                go_simp; exact nextL _ rfl rfl hR (Below.refl _ _)
              · go_simp; exact nextL _ rfl rfl hR (Below.refl _ _)
              · try obtain ⟨hd1, hd2⟩ := hd
                go_simp
                go_at_call 6
                have hFR := HF.out.keep hR
                refine (HTQ.out wx rA rn rc ((HY.out.1.below hFR.o1.bel).more hFR.o1.bel.size) HY.out.2).mono ?_
                rintro e wy ⟨rfl, hby⟩
                exact nextL _ rfl rfl (hR.trans (hby.mono hR.size)) hby
              · go_simp; exact nextL _ rfl rfl hR (Below.refl _ _)
              · go_simp; exact nextL _ rfl ⟨_, rfl, Cs.new _ _ _ _⟩ (hR.alloc hR.size _) ((Below.refl _ _).alloc (Nat.le_refl _) _)
            · refine ⟨skipped rfl, skipped rfl, skipped rfl, skipped rfl, skipped rfl, skipped rfl, skipped rfl, ?_, skipped rfl, trivial⟩
              intro _ x wx hd
              go_simp
              try exact ⟨_, rfl, rfl, fun _ => rfl⟩
            · intro x wx hR hx o ho
              have ho := Option.some.inj ho
              subst ho
              have hx1 : x 1 = .slice AV m cV := hx.2.1 rfl
              obtain ⟨gl, hxl, hcl⟩ : litD 1 [.string (fSrv j rl)] (x 5) wx := hx.2.2.2.2.2.1 rfl
              have hF := HF.out.keep hR
              refine oper_appF _ _ _ _ rfl 29 i1 _ 16 Tryd.underlying35 gi gz0 gz1 gz2 rfl hF.o2 hx1 hxl (Src.ofSlice _ Tryd.underlying35 ⟨gl, 0, none⟩ 1 1 [.string (fSrv j rl)] rfl (fun j u hu => by rw [Addr.add_lit, Nat.zero_add]; exact hcl.get j u hu) (by intro u hu; simp at hu; subst hu; rfl)) (by have := HM.out; unfold maxLen; omega) (by have := HM.out; omega) ?_
              intro v' w' p1 p2 p3 p4
              exact ⟨v', rfl, wx, hF, p1, p2, p3, p4⟩
            · intro x wx hA hx o ho
              have ho := Option.some.inj ho
              subst ho
              obtain ⟨w1, hF, p1, p2, p3, p4⟩ := hA
              obtain ⟨_, hx12⟩ := hx.2.2.2.2.2.2.2.1
              have hx12 : x 7 = .pointer (some ⟨g, 3, none⟩) := hx12
              have hput := hF.put2 p1 p2 p3 p4
              have hcs : Cs wx g _ := hF.cs.block (p3 g hF.cs.lt (fun e => hF.b2 e.symm)) p2
              have f0 := hcs.froz 3 (by simp)
              have f1 := hcs.get 3 (.slice AV m cV)
              generalize x 6 = v9 at *
              obtain ⟨A9, c9, rfl, -⟩ := p1.slice3
              have HPUT := Lib.hid hput
              clear hput hcs hF p1 p2 p3 p4 hx
              go_simp
              go_wp2_with fail
              go_roundw
              case rel => exact ⟨j + 1, by omega, by go_num, _, _, Lib.hid (by rw [HNX.out, List.map_append]; exact HPUT.out)⟩
              case measure => simp [intOf]; omega
          · have hj4' : ¬ (j : Int) < 4 := by omega
            have HNX := Lib.hid (pickQ_over fSrv (rows := R2) hj4)
            go_wp2_with fail
            go_roundw
            case rel => exact ⟨j + 1, by omega, by go_num, _, _, Lib.hid (by rw [HNX.out]; exact HF.out)⟩
            case measure => simp [intOf]; omega
        · have hlt' : ¬ (j : Int) < k2 := by omega
          have hje : j = R2.length := by omega
          obtain ⟨X2, q2, e2, HFS8⟩ : ∃ X q e, Hid (FS W0 g C N (.slice X1 q1 e1) (.slice X q e) (.slice none 0 0) q1 q 0 ((pickQ (fAns six) R1 R1.length).map .string) ((pickQ fSrv R2 R2.length).map .string) [] wr) := ⟨AV, m, cV, by rw [← hje]; exact HF⟩
          clear HF HFS7 hmj hV1 hV2 hV3 hl hj hlt hq c0 hje
          clear AV m cV
          have d5 := (HQ0.out.below HFS8.out.o1.bel).get 5 (.slice A3 k3 c3)
          go_wp2_with fail
          go_loopw [66] (fun v wr => ∃ j : Nat, j ≤ k3 ∧ v = .int .i64 j ∧ ∃ V m, Hid (FS W0 g C N (.slice X1 q1 e1) (.slice X2 q2 e2) V q1 q2 m ((pickQ (fAns six) R1 R1.length).map .string) ((pickQ fSrv R2 R2.length).map .string) ((pickQ (fHst six) R3 j).map .string) wr)) (fun v _ => k3 - (intOf v).toNat)
          case atStart => exact ⟨0, Nat.zero_le _, rfl, _, _, HFS8⟩
          case round =>
            obtain ⟨j, hj, rfl, V, m, HF⟩ := hrel
            have hl : R3.length = k3 := by have := S3.out.1; simpa using this
            have hq := HQ0.out.below HF.out.o1.bel
            have c0 := hq.get 0 (.bool six)
            obtain ⟨AV, cV, rfl, hV1, hV2, hV3⟩ := HF.out.o3.slice3
            have hmj : m = min j 4 := by have := HF.out.o3.len; rw [List.length_map, pickQ_len _ (by omega)] at this; omega
            by_cases hlt : j < k3
            · have hlt' : (j : Int) < k3 := by omega
              obtain ⟨r, hr⟩ : ∃ r, R3[j]? = some r := ⟨_, List.getElem?_eq_getElem (by rw [hl]; omega)⟩
              obtain ⟨bb, off, u, hAe, hbb, hu, hc⟩ := (S3.out.below HF.out.o1.bel).at_ hlt
              have hy := Y3.out r (List.mem_of_getElem? hr)
              obtain ⟨rA, rn, rc, rl⟩ := r
              have hcell : wr.cell? ⟨bb, off + j, none⟩ = some (.slice rA rn rc) := by
                rw [List.getElem?_map, hr] at hu
                simp only [Option.map_some, Option.some.injEq] at hu
                rw [← hu] at hc
                exact hc
              have HY := Lib.hid hy
              have HR := Lib.hid hr
              have HM := Lib.hid hmj
              have HV := Lib.hid (And.intro hV1 (And.intro hV2 hV3))
              have hB := HF.out.base
              clear hr hu hc hbb hy hl hq hV1 hV2 hV3 hmj
              obtain rfl := hAe
              by_cases hj4 : j < 4
              · have hj4' : (j : Int) < 4 := by omega
                have HNX := Lib.hid (pickQ_next (fHst six) HR.out hj4)
                go_upto_region 18 with fail
                refine wp_region_app ad_follows (fun x => by simp [putsF, Act.put]; rfl) (fun v => Below wr.heap.size wr v)
                  (fun v' w' => ∃ w1, FS W0 g C N (.slice X1 q1 e1) (.slice X2 q2 e2) (.slice AV m cV)  q1 q2 m  ((pickQ (fAns six) R1 R1.length).map .string) ((pickQ fSrv R2 R2.length).map .string) ((pickQ (fHst six) R3 j).map .string)  w1 ∧ OB W0.heap.size W0 v' (m + 1) (((pickQ (fHst six) R3 j).map .string) ++ [.string (fHst six j rl)]) w' ∧ w1.heap.size ≤ w'.heap.size ∧ (∀ k, k < w1.heap.size → some k ≠ (Value.slice AV m cV).ownBlock → w'.heap[k]? = w1.heap[k]?) ∧ (v'.ownBlock = (Value.slice AV m cV).ownBlock ∨ v'.ownBlock = some w1.heap.size))
                  [isV (.pointer (some ⟨g, 4, none⟩)), isV (.slice AV m cV), isV (.pointer (some ⟨w.heap.size, 0, none⟩)), isV (.bool six), isV (.slice rA rn rc), isV (.string (fHst six j rl)), litD 1 [.string (fHst six j rl)], anyF, isV (.pointer (some ⟨g, 4, none⟩)), anyF]
                  7 9 (by kernel_rfl) (by kernel_rfl) (by kernel_rfl) rfl (by kernel_rfl) ?_ ⟨fun _ _ => trivial, fun _ _ => trivial⟩ (Below.refl _ _).drew ?_ ?_ ?_ ?_
                · repeat (first | exact trivial | refine ⟨by first | exact isV_stays _ | exact litD_stays _ _ | exact anyF_stays, ?_⟩)
                · refine ⟨?_, ?_, ?_, ?_, ?_, ?_, ?_, skipped rfl, skipped rfl, skipped rfl, trivial⟩
                  all_goals
                    intro _ x wx hR hd
                    refine ⟨fun _ => ?_, fun hX => by simp at hX⟩
                    simp at hd ⊢
                  · go_simp; exact nextL _ rfl rfl hR (Below.refl _ _)
                  · have q := (HF.out.keep hR).cs.get 4 (.slice AV m cV)
                    go_simp; exact nextL _ rfl rfl hR (Below.refl _ _)
                  · go_simp; exact nextL _ rfl rfl hR (Below.refl _ _)
                  · have q := (HQ0.out.below (HF.out.keep hR).o1.bel).get 0 (.bool six)
                    go_simp; exact nextL _ rfl rfl hR (Below.refl _ _)
                  · go_simp; exact nextL _ rfl rfl hR (Below.refl _ _)
                  · obtain ⟨hd1, hd2⟩ := hd
                    go_simp
                    go_at_call 13
                    have hFR := HF.out.keep hR
                    refine (addrD_any six rA rn rc rl wx ((HY.out.1.below hFR.o1.bel).more hFR.o1.bel.size) HY.out.2).mono ?_
                    rintro e wy ⟨rfl, hby⟩
                    exact nextL _ rfl rfl (hR.trans (hby.mono hR.size)) hby
                  · go_simp; exact nextL _ rfl ⟨_, rfl, Cs.new _ _ _ _⟩ (hR.alloc hR.size _) ((Below.refl _ _).alloc (Nat.le_refl _) _)
                · refine ⟨skipped rfl, skipped rfl, skipped rfl, skipped rfl, skipped rfl, skipped rfl, skipped rfl, skipped rfl, ?_, skipped rfl, trivial⟩
                  intro _ x wx hd
                  go_simp
                  try exact ⟨_, rfl, rfl, fun _ => rfl⟩
                · intro x wx hR hx o ho
                  have ho := Option.some.inj ho
                  subst ho
                  have hx1 : x 1 = .slice AV m cV := hx.2.1 rfl
                  obtain ⟨gl, hxl, hcl⟩ : litD 1 [.string (fHst six j rl)] (x 6) wx := hx.2.2.2.2.2.2.1 rfl
                  have hF := HF.out.keep hR
                  refine oper_appF _ _ _ _ rfl 9 i0 _ 16 Tryd.underlying34 hi hz0 hz1 hz2 rfl hF.o3 hx1 hxl (Src.ofSlice _ Tryd.underlying34 ⟨gl, 0, none⟩ 1 1 [.string (fHst six j rl)] rfl (fun j u hu => by rw [Addr.add_lit, Nat.zero_add]; exact hcl.get j u hu) (by intro u hu; simp at hu; subst hu; rfl)) (by have := HM.out; unfold maxLen; omega) (by have := HM.out; omega) ?_
                  intro v' w' p1 p2 p3 p4
                  exact ⟨v', rfl, wx, hF, p1, p2, p3, p4⟩
                · intro x wx hA hx o ho
                  have ho := Option.some.inj ho
                  subst ho
                  obtain ⟨w1, hF, p1, p2, p3, p4⟩ := hA
                  obtain ⟨_, hx12⟩ := hx.2.2.2.2.2.2.2.2.1
                  have hx12 : x 8 = .pointer (some ⟨g, 4, none⟩) := hx12
                  have hput := hF.put3 p1 p2 p3 p4
                  have hcs : Cs wx g _ := hF.cs.block (p3 g hF.cs.lt (fun e => hF.b3 e.symm)) p2
                  have f0 := hcs.froz 4 (by simp)
                  have f1 := hcs.get 4 (.slice AV m cV)
                  generalize x 7 = v9 at *
                  obtain ⟨A9, c9, rfl, -⟩ := p1.slice3
                  have HPUT := Lib.hid hput
                  clear hput hcs hF p1 p2 p3 p4 hx
                  go_simp
                  go_wp2_with fail
                  go_roundw
                  case rel => exact ⟨j + 1, by omega, by go_num, _, _, Lib.hid (by rw [HNX.out, List.map_append]; exact HPUT.out)⟩
                  case measure => simp [intOf]; omega
              · have hj4' : ¬ (j : Int) < 4 := by omega
                have HNX := Lib.hid (pickQ_over (fHst six) (rows := R3) hj4)
                go_wp2_with fail
                go_roundw
                case rel => exact ⟨j + 1, by omega, by go_num, _, _, Lib.hid (by rw [HNX.out]; exact HF.out)⟩
                case measure => simp [intOf]; omega
            · have hlt' : ¬ (j : Int) < k3 := by omega
              have hje : j = R3.length := by omega
              obtain ⟨X3, q3, e3, HFS9⟩ : ∃ X q e, Hid (FS W0 g C N (.slice X1 q1 e1) (.slice X2 q2 e2) (.slice X q e) q1 q2 q ((pickQ (fAns six) R1 R1.length).map .string) ((pickQ fSrv R2 R2.length).map .string) ((pickQ (fHst six) R3 R3.length).map .string) wr) := ⟨AV, m, cV, by rw [← hje]; exact HF⟩
              clear HF HFS8 hmj hV1 hV2 hV3 hl hj hlt hq c0 hje
              clear AV m cV
              have hcs := HFS9.out.cs
              have g0 := hcs.get 0 (.string C)
              have g1 := hcs.get 1 (.string N)
              have g2 := hcs.get 2 (.slice X1 q1 e1)
              have g3 := hcs.get 3 (.slice X2 q2 e2)
              have g4 := hcs.get 4 (.slice X3 q3 e3)
              have hrs := HR0.out.below HFS9.out.o1.bel
              have m0 := hrs.get 0 (.string ⟨#[]⟩)
              have m1 := hrs.get 1 (.string ⟨#[]⟩)
              have m2 := hrs.get 2 (.slice none 0 0)
              have m3 := hrs.get 3 (.slice none 0 0)
              have m4 := hrs.get 4 (.slice none 0 0)
              have f0 := hrs.froz 0 (by simp)
              have f1 := hrs.froz 1 (by simp)
              have f2 := hrs.froz 2 (by simp)
              have f3 := hrs.froz 3 (by simp)
              have f4 := hrs.froz 4 (by simp)
              have hge : g ≠ w.heap.size + 1 := by have := HE0.out; omega
              have hge' : w.heap.size + 1 ≠ g := fun e => hge e.symm
              clear hcs hrs d3 d4 d5
              go_wp2_with fail
              have HB9 := Lib.hid (set5_below (HBEL.out.trans (HFS9.out.o1.bel.mono HBEL.out.size)) (g := w.heap.size + 1) (Nat.le_succ _) (.string C) (.string N) (.slice X1 q1 e1) (.slice X2 q2 e2) (.slice X3 q3 e3))
              have hsz := set5_size wr (w.heap.size + 1) (.string C) (.string N) (.slice X1 q1 e1) (.slice X2 q2 e2) (.slice X3 q3 e3)
              have hhp := set5_heap wr (w.heap.size + 1) (.string C) (.string N) (.slice X1 q1 e1) (.slice X2 q2 e2) (.slice X3 q3 e3)
              have hsl1 := HFS9.out.o1.sl_other (Nat.le_of_eq hsz.symm) (fun k hk => hhp k (by have := HE0.out; omega))
              have hsl2 := HFS9.out.o2.sl_other (Nat.le_of_eq hsz.symm) (fun k hk => hhp k (by have := HE0.out; omega))
              have hsl3 := HFS9.out.o3.sl_other (Nat.le_of_eq hsz.symm) (fun k hk => hhp k (by have := HE0.out; omega))
              have HS1 := Lib.hid hsl1
              have HS2 := Lib.hid hsl2
              have HS3 := Lib.hid hsl3
              clear hsz hhp hsl1 hsl2 hsl3
              refine bodyPost_ret (v := .agg #[.string C, .string N, .slice X1 q1 e1, .slice X2 q2 e2, .slice X3 q3 e3]) ?_ rfl ⟨X1, X2, X3, q1, q2, q3, ⟨e1, e2, e3, rfl⟩, HB9.out, HS1.out, HS2.out, HS3.out⟩
              have hfin := set5_cs (HR0.out.below HFS9.out.o1.bel) (.string C) (.string N) (.slice X1 q1 e1) (.slice X2 q2 e2) (.slice X3 q3 e3)
              have t0 := hfin.get 0 (.string C)
              have t1 := hfin.get 1 (.string N)
              have t2 := hfin.get 2 (.slice X1 q1 e1)
              have t3 := hfin.get 3 (.slice X2 q2 e2)
              have t4 := hfin.get 4 (.slice X3 q3 e3)
              clear hfin HB9 HS1 HS2 HS3 g0 g1 g2 g3 g4 m0 m1 m2 m3 m4 f0 f1 f2 f3 f4
              revert t0 t1 t2 t3 t4
              generalize ((((wr.setCell ⟨w.heap.size + 1, 0, none⟩ (.string C)).setCell ⟨w.heap.size + 1, 1, none⟩ (.string N)).setCell ⟨w.heap.size + 1, 2, none⟩ (.slice X1 q1 e1)).setCell ⟨w.heap.size + 1, 3, none⟩ (.slice X2 q2 e2)).setCell ⟨w.heap.size + 1, 4, none⟩ (.slice X3 q3 e3) = W9
              intro t0 t1 t2 t3 t4
              simp [results, Tryd.results8, go_sem, t0, t1, t2, t3, t4]
end Go.Proofs.YtkdknfedieeenaaDoor
namespace Go.Proofs.YtkdknfedieeenaaDoor
open Go.RowKit
set_option linter.unusedVariables false
set_option maxRecDepth 20000
theorem sany_next {X : List ByteArray} {k : Nat} {r : ByteArray} (p : ByteArray → Bool) (hr : X[k]? = some r) : (X.take (k + 1)).any p = ((X.take k).any p || p r) := by rw [List.take_add_one, hr]; simp
theorem sany_stop {X : List ByteArray} {k : Nat} {r : ByteArray} (p : ByteArray → Bool) (hr : X[k]? = some r) (hp : p r = true) : X.any p = true := by
  rw [List.any_eq_true]; exact ⟨r, List.mem_of_getElem? hr, hp⟩
/-- A closure over one box that tells f of strings. -/
def Tells (F g : Nat) (f : ByteArray → Bool) (X : List ByteArray) (w : World) : Prop := ∀ s ∈ X, ∀ wx, Below w.heap.size w wx → Calls Tryd.prog F #[.string s, .pointer (some ⟨g, 0, none⟩)] wx fun e w' => e = .returned (.bool (f s)) ∧ Below wx.heap.size wx w'

set_option maxHeartbeats 1600000 in
theorem indexH_fn (g : Nat) (f : ByteArray → Bool) (A : Option Addr) (n c : Nat) (X : List ByteArray) (w : World) (h : Sl w w.heap.size 1 A n (X.map .string)) (hn : n ≤ 1152921504606846976) (hF : Tells 15 g f X w) :
    Calls Tryd.prog 28 #[.slice A n c, .func (.func 15) #[] #[.pointer (some ⟨g, 0, none⟩)]] w fun e w' => (∃ i : Int, e = .returned (.int .i64 i) ∧ decide (0 ≤ i) = X.any f) ∧ Below w.heap.size w w' := by
  have hl : X.length = n := by simpa using h.1
  have H := Lib.hid h
  have HL := Lib.hid hl
  have HF := Lib.hid hF
  clear h hl hF
  go_enter Tryd.func28, Tryd.ntmps28
  go_wp2_with fail
  go_loopw [8] (fun p wr => ∃ k : Nat, k ≤ n ∧ p = .int .i64 k ∧ Hid ((X.take k).any f = false) ∧ Hid (Below w.heap.size w wr)) (fun p _ => n - (intOf p).toNat)
  case atStart => exact ⟨0, Nat.zero_le _, rfl, Lib.hid (by simp), Lib.hid (Below.refl _ _)⟩
  case round =>
    obtain ⟨k, hk, rfl, HK, HB⟩ := hrel
    by_cases hlt : k < n
    · have hlt' : (k : Int) < n := by omega
      obtain ⟨r, hr⟩ : ∃ r, X[k]? = some r := ⟨_, List.getElem?_eq_getElem (by rw [HL.out]; omega)⟩
      obtain ⟨bb, off, u, rfl, hbb, hu, hc⟩ := (H.out.below HB.out).at_ hlt
      have hcell : wr.cell? ⟨bb, off + k, none⟩ = some (.string r) := by
        rw [List.getElem?_map, hr] at hu
        simp only [Option.map_some, Option.some.injEq] at hu
        rw [← hu] at hc
        exact hc
      have hf := HF.out r (List.mem_of_getElem? hr) 
      have IS := Lib.hid hf
      have HR := Lib.hid hr
      clear hr hu hc hbb hf
      go_wp2_with (go_at_call 15; refine (IS.out _ HB.out).mono ?_; rintro e w6 ⟨rfl, hb6⟩; refine Hid.out ?_)
      refine Lib.hid ?_
      have HB6 := Lib.hid (below_trans HB.out HB.out.size hb6)
      clear hb6 hcell
      cases es : f r with
      | false =>
        have HNO := Lib.hid (sany_next f HR.out)
        have HES := Lib.hid es
        clear es
        go_wp2_with fail
        go_roundw
        case rel => exact ⟨k + 1, by omega, by go_num, Lib.hid (by rw [HNO.out, HK.out, HES.out]; rfl), HB6⟩
        case measure => simp [intOf]; omega
      | true =>
        have HYE := Lib.hid (sany_stop f HR.out es)
        clear es
        go_wp2_with fail
        go_ret
        exact ⟨⟨k, rfl, by rw [HYE.out]; exact decide_eq_true (by omega)⟩, HB6.out⟩
    · have hlt' : ¬ (k : Int) < n := by omega
      have HEN : Hid (X.any f = false) := Lib.hid (by have := HK.out; rwa [List.take_of_length_le (by rw [HL.out]; omega)] at this)
      go_wp2_with fail
      go_ret
      exact ⟨⟨-1, rfl, by rw [HEN.out]; rfl⟩, HB.out⟩
theorem containsH_fn (g : Nat) (f : ByteArray → Bool) (A : Option Addr) (n c : Nat) (X : List ByteArray) (w : World) (h : Sl w w.heap.size 1 A n (X.map .string)) (hn : n ≤ 1152921504606846976) (hF : Tells 15 g f X w) :
    Calls Tryd.prog 20 #[.slice A n c, .func (.func 15) #[] #[.pointer (some ⟨g, 0, none⟩)]] w fun e w' => e = .returned (.bool (X.any f)) ∧ Below w.heap.size w w' := by
  have IX := Lib.hid (indexH_fn g f A n c X w h hn hF)
  clear h hF
  generalize X.any f = q at *
  go_enter Tryd.func20, Tryd.ntmps20
  go_wp2_with fail
  refine IX.out.mono ?_
  rintro e w1 ⟨⟨i, rfl, hi⟩, hb⟩
  have HB := Lib.hid hb
  clear hb
  by_cases h0 : 0 ≤ i
  · rw [decide_eq_true h0] at hi
    subst hi
    go_wp2_with fail
    go_ret
    exact ⟨rfl, HB.out⟩
  · rw [decide_eq_false h0] at hi
    subst hi
    go_wp2_with fail
    go_ret
    refine ⟨?_, HB.out⟩
    show Ending.returned (.bool (decide (0 ≤ i))) = _
    rw [decide_eq_false (by omega)]

set_option maxHeartbeats 1600000 in
theorem indexI_fn (g : Nat) (f : ByteArray → Bool) (A : Option Addr) (n c : Nat) (X : List ByteArray) (w : World) (h : Sl w w.heap.size 1 A n (X.map .string)) (hn : n ≤ 1152921504606846976) (hF : Tells 17 g f X w) :
    Calls Tryd.prog 29 #[.slice A n c, .func (.func 17) #[] #[.pointer (some ⟨g, 0, none⟩)]] w fun e w' => (∃ i : Int, e = .returned (.int .i64 i) ∧ decide (0 ≤ i) = X.any f) ∧ Below w.heap.size w w' := by
  have hl : X.length = n := by simpa using h.1
  have H := Lib.hid h
  have HL := Lib.hid hl
  have HF := Lib.hid hF
  clear h hl hF
  go_enter Tryd.func29, Tryd.ntmps29
  go_wp2_with fail
  go_loopw [8] (fun p wr => ∃ k : Nat, k ≤ n ∧ p = .int .i64 k ∧ Hid ((X.take k).any f = false) ∧ Hid (Below w.heap.size w wr)) (fun p _ => n - (intOf p).toNat)
  case atStart => exact ⟨0, Nat.zero_le _, rfl, Lib.hid (by simp), Lib.hid (Below.refl _ _)⟩
  case round =>
    obtain ⟨k, hk, rfl, HK, HB⟩ := hrel
    by_cases hlt : k < n
    · have hlt' : (k : Int) < n := by omega
      obtain ⟨r, hr⟩ : ∃ r, X[k]? = some r := ⟨_, List.getElem?_eq_getElem (by rw [HL.out]; omega)⟩
      obtain ⟨bb, off, u, rfl, hbb, hu, hc⟩ := (H.out.below HB.out).at_ hlt
      have hcell : wr.cell? ⟨bb, off + k, none⟩ = some (.string r) := by
        rw [List.getElem?_map, hr] at hu
        simp only [Option.map_some, Option.some.injEq] at hu
        rw [← hu] at hc
        exact hc
      have hf := HF.out r (List.mem_of_getElem? hr) 
      have IS := Lib.hid hf
      have HR := Lib.hid hr
      clear hr hu hc hbb hf
      go_wp2_with (go_at_call 17; refine (IS.out _ HB.out).mono ?_; rintro e w6 ⟨rfl, hb6⟩; refine Hid.out ?_)
      refine Lib.hid ?_
      have HB6 := Lib.hid (below_trans HB.out HB.out.size hb6)
      clear hb6 hcell
      cases es : f r with
      | false =>
        have HNO := Lib.hid (sany_next f HR.out)
        have HES := Lib.hid es
        clear es
        go_wp2_with fail
        go_roundw
        case rel => exact ⟨k + 1, by omega, by go_num, Lib.hid (by rw [HNO.out, HK.out, HES.out]; rfl), HB6⟩
        case measure => simp [intOf]; omega
      | true =>
        have HYE := Lib.hid (sany_stop f HR.out es)
        clear es
        go_wp2_with fail
        go_ret
        exact ⟨⟨k, rfl, by rw [HYE.out]; exact decide_eq_true (by omega)⟩, HB6.out⟩
    · have hlt' : ¬ (k : Int) < n := by omega
      have HEN : Hid (X.any f = false) := Lib.hid (by have := HK.out; rwa [List.take_of_length_le (by rw [HL.out]; omega)] at this)
      go_wp2_with fail
      go_ret
      exact ⟨⟨-1, rfl, by rw [HEN.out]; rfl⟩, HB.out⟩
theorem containsI_fn (g : Nat) (f : ByteArray → Bool) (A : Option Addr) (n c : Nat) (X : List ByteArray) (w : World) (h : Sl w w.heap.size 1 A n (X.map .string)) (hn : n ≤ 1152921504606846976) (hF : Tells 17 g f X w) :
    Calls Tryd.prog 21 #[.slice A n c, .func (.func 17) #[] #[.pointer (some ⟨g, 0, none⟩)]] w fun e w' => e = .returned (.bool (X.any f)) ∧ Below w.heap.size w w' := by
  have IX := Lib.hid (indexI_fn g f A n c X w h hn hF)
  clear h hF
  generalize X.any f = q at *
  go_enter Tryd.func21, Tryd.ntmps21
  go_wp2_with fail
  refine IX.out.mono ?_
  rintro e w1 ⟨⟨i, rfl, hi⟩, hb⟩
  have HB := Lib.hid hb
  clear hb
  by_cases h0 : 0 ≤ i
  · rw [decide_eq_true h0] at hi
    subst hi
    go_wp2_with fail
    go_ret
    exact ⟨rfl, HB.out⟩
  · rw [decide_eq_false h0] at hi
    subst hi
    go_wp2_with fail
    go_ret
    refine ⟨?_, HB.out⟩
    show Ending.returned (.bool (decide (0 ≤ i))) = _
    rw [decide_eq_false (by omega)]

set_option maxHeartbeats 1600000 in
theorem indexB_fn (g : Nat) (f : ByteArray → Bool) (A : Option Addr) (n c : Nat) (X : List ByteArray) (w : World) (h : Sl w w.heap.size 1 A n (X.map .string)) (hn : n ≤ 1152921504606846976) (hF : Tells 18 g f X w) :
    Calls Tryd.prog 29 #[.slice A n c, .func (.func 18) #[] #[.pointer (some ⟨g, 0, none⟩)]] w fun e w' => (∃ i : Int, e = .returned (.int .i64 i) ∧ decide (0 ≤ i) = X.any f) ∧ Below w.heap.size w w' := by
  have hl : X.length = n := by simpa using h.1
  have H := Lib.hid h
  have HL := Lib.hid hl
  have HF := Lib.hid hF
  clear h hl hF
  go_enter Tryd.func29, Tryd.ntmps29
  go_wp2_with fail
  go_loopw [8] (fun p wr => ∃ k : Nat, k ≤ n ∧ p = .int .i64 k ∧ Hid ((X.take k).any f = false) ∧ Hid (Below w.heap.size w wr)) (fun p _ => n - (intOf p).toNat)
  case atStart => exact ⟨0, Nat.zero_le _, rfl, Lib.hid (by simp), Lib.hid (Below.refl _ _)⟩
  case round =>
    obtain ⟨k, hk, rfl, HK, HB⟩ := hrel
    by_cases hlt : k < n
    · have hlt' : (k : Int) < n := by omega
      obtain ⟨r, hr⟩ : ∃ r, X[k]? = some r := ⟨_, List.getElem?_eq_getElem (by rw [HL.out]; omega)⟩
      obtain ⟨bb, off, u, rfl, hbb, hu, hc⟩ := (H.out.below HB.out).at_ hlt
      have hcell : wr.cell? ⟨bb, off + k, none⟩ = some (.string r) := by
        rw [List.getElem?_map, hr] at hu
        simp only [Option.map_some, Option.some.injEq] at hu
        rw [← hu] at hc
        exact hc
      have hf := HF.out r (List.mem_of_getElem? hr) 
      have IS := Lib.hid hf
      have HR := Lib.hid hr
      clear hr hu hc hbb hf
      go_wp2_with (go_at_call 18; refine (IS.out _ HB.out).mono ?_; rintro e w6 ⟨rfl, hb6⟩; refine Hid.out ?_)
      refine Lib.hid ?_
      have HB6 := Lib.hid (below_trans HB.out HB.out.size hb6)
      clear hb6 hcell
      cases es : f r with
      | false =>
        have HNO := Lib.hid (sany_next f HR.out)
        have HES := Lib.hid es
        clear es
        go_wp2_with fail
        go_roundw
        case rel => exact ⟨k + 1, by omega, by go_num, Lib.hid (by rw [HNO.out, HK.out, HES.out]; rfl), HB6⟩
        case measure => simp [intOf]; omega
      | true =>
        have HYE := Lib.hid (sany_stop f HR.out es)
        clear es
        go_wp2_with fail
        go_ret
        exact ⟨⟨k, rfl, by rw [HYE.out]; exact decide_eq_true (by omega)⟩, HB6.out⟩
    · have hlt' : ¬ (k : Int) < n := by omega
      have HEN : Hid (X.any f = false) := Lib.hid (by have := HK.out; rwa [List.take_of_length_le (by rw [HL.out]; omega)] at this)
      go_wp2_with fail
      go_ret
      exact ⟨⟨-1, rfl, by rw [HEN.out]; rfl⟩, HB.out⟩
theorem containsB_fn (g : Nat) (f : ByteArray → Bool) (A : Option Addr) (n c : Nat) (X : List ByteArray) (w : World) (h : Sl w w.heap.size 1 A n (X.map .string)) (hn : n ≤ 1152921504606846976) (hF : Tells 18 g f X w) :
    Calls Tryd.prog 21 #[.slice A n c, .func (.func 18) #[] #[.pointer (some ⟨g, 0, none⟩)]] w fun e w' => e = .returned (.bool (X.any f)) ∧ Below w.heap.size w w' := by
  have IX := Lib.hid (indexB_fn g f A n c X w h hn hF)
  clear h hF
  generalize X.any f = q at *
  go_enter Tryd.func21, Tryd.ntmps21
  go_wp2_with fail
  refine IX.out.mono ?_
  rintro e w1 ⟨⟨i, rfl, hi⟩, hb⟩
  have HB := Lib.hid hb
  clear hb
  by_cases h0 : 0 ≤ i
  · rw [decide_eq_true h0] at hi
    subst hi
    go_wp2_with fail
    go_ret
    exact ⟨rfl, HB.out⟩
  · rw [decide_eq_false h0] at hi
    subst hi
    go_wp2_with fail
    go_ret
    refine ⟨?_, HB.out⟩
    show Ending.returned (.bool (decide (0 ≤ i))) = _
    rw [decide_eq_false (by omega)]

end Go.Proofs.YtkdknfedieeenaaDoor
namespace Go.Proofs.YtkdknfedieeenaaDoor
open Go.RowKit
set_option linter.unusedVariables false
set_option linter.unusedSimpArgs false
set_option maxRecDepth 20000
def isV19 (n s : ByteArray) : Bool := s.toList == n.toList
def belV19 (n s : ByteArray) : Bool := !(s.toList == n.toList) && (stripOf s n).isSome
/-- Does a trigger fit facts? -/
def matchV (k : Int) (n a : ByteArray) (x : Int) (C N : ByteArray) (As Ss Hs : List ByteArray) : Bool :=
  if k = 0 then hasB a x C else if k = 1 then isV19 n N else if k = 2 then belV19 n N else if k = 3 then As.any (hasB a x) else if k = 4 then Ss.any (isV19 n) else if k = 5 then Ss.any (belV19 n) else if k = 6 then Hs.any (hasB a x) else false

set_option maxHeartbeats 16000000 in
theorem smatch_any (k : Int) (n a : ByteArray) (x : Int) (C N : ByteArray) (A1 A2 A3 : Option Addr) (n1 c1 n2 c2 n3 c3 : Nat) (As Ss Hs : List ByteArray) (w : World) (hn : n.size ≤ 140737488355328) (hC : C.size ≤ 140737488355328) (hN : N.size ≤ 140737488355328)
    (h1 : Sl w w.heap.size 1 A1 n1 (As.map .string)) (h2 : Sl w w.heap.size 1 A2 n2 (Ss.map .string)) (h3 : Sl w w.heap.size 1 A3 n3 (Hs.map .string)) (m1 : n1 ≤ 1152921504606846976) (m2 : n2 ≤ 1152921504606846976) (m3 : n3 ≤ 1152921504606846976)
    (z1 : ∀ s ∈ As, s.size ≤ 140737488355328) (z2 : ∀ s ∈ Ss, s.size ≤ 140737488355328) (z3 : ∀ s ∈ Hs, s.size ≤ 140737488355328) :
    Calls Tryd.prog 7 #[.agg #[.int .i64 k, .string n, .string a, .int .i64 x], .agg #[.string C, .string N, .slice A1 n1 c1, .slice A2 n2 c2, .slice A3 n3 c3]] w fun e w' => e = .returned (.bool (matchV k n a x C N As Ss Hs)) ∧ Below w.heap.size w w' := by
  obtain ⟨W1, hW1⟩ : ∃ W, W = w.alloc (.cells #[.int .i64 k, .string n, .string a, .int .i64 x] 33) := ⟨_, rfl⟩
  obtain ⟨W0, hW0⟩ : ∃ W, W = W1.alloc (.cells #[.string C, .string N, .slice A1 n1 c1, .slice A2 n2 c2, .slice A3 n3 c3] 37) := ⟨_, rfl⟩
  have e1 : W1.heap.size = w.heap.size + 1 := by rw [hW1]; simp
  have hA : Cs W0 w.heap.size [.int .i64 k, .string n, .string a, .int .i64 x] := by rw [hW0, hW1]; exact (Cs.new w _ _ _).alloc _
  have hB : Cs W0 (w.heap.size + 1) [.string C, .string N, .slice A1 n1 c1, .slice A2 n2 c2, .slice A3 n3 c3] := by rw [hW0]; exact (Cs.new W1 _ _ _).at_ _ e1
  have hbel : Below w.heap.size w W0 := by
    rw [hW0, hW1]
    exact ((Below.refl w.heap.size w).alloc (Nat.le_refl _) _).alloc (by simp) _
  rw [hW1] at hW0
  have H1 := Lib.hid ((h1.below hbel).more hbel.size)
  have H2 := Lib.hid ((h2.below hbel).more hbel.size)
  have H3 := Lib.hid ((h3.below hbel).more hbel.size)
  have TH := fun (X : List ByteArray) (hX : ∀ s ∈ X, s.size ≤ 140737488355328) => (fun s hs wx hb => shas_any s w.heap.size k n a x wx (hX s hs) (hA.below hb) : Tells 15 w.heap.size (hasB a x) X W0)
  have TI := fun (X : List ByteArray) => (fun s hs wx hb => (sis_any s w.heap.size k n a x wx (hA.below hb)).mono (by rintro e w' ⟨rfl, rfl⟩; exact ⟨rfl, Below.refl _ _⟩) : Tells 17 w.heap.size (isV19 n) X W0)
  have TB := fun (X : List ByteArray) (hX : ∀ s ∈ X, s.size ≤ 140737488355328) => (fun s hs wx hb => sbelow_any s w.heap.size k n a x wx (by have := hX s hs; unfold maxLen; omega) (by unfold maxLen; omega) (hA.below hb) : Tells 18 w.heap.size (belV19 n) X W0)
  have K1 := Lib.hid (containsH_fn w.heap.size (hasB a x) A1 n1 c1 As W0 H1.out m1 (TH As z1))
  have K2 := Lib.hid (containsI_fn w.heap.size (isV19 n) A2 n2 c2 Ss W0 H2.out m2 (TI Ss))
  have K3 := Lib.hid (containsB_fn w.heap.size (belV19 n) A2 n2 c2 Ss W0 H2.out m2 (TB Ss z2))
  have K4 := Lib.hid (containsH_fn w.heap.size (hasB a x) A3 n3 c3 Hs W0 H3.out m3 (TH Hs z3))
  have K5 := Lib.hid (shas_any C w.heap.size k n a x W0 hC hA)
  have K6 := Lib.hid (sis_any N w.heap.size k n a x W0 hA)
  have K7 := Lib.hid (sbelow_any N w.heap.size k n a x W0 (by unfold maxLen; omega) (by unfold maxLen; omega) hA)
  have HW0 := Lib.hid hW0
  have HBEL := Lib.hid hbel
  have q0 := hA.get 0 (.int .i64 k)
  have d0 := hB.get 0 (.string C)
  have d1 := hB.get 1 (.string N)
  have d2 := hB.get 2 (.slice A1 n1 c1)
  have d3 := hB.get 3 (.slice A2 n2 c2)
  have d4 := hB.get 4 (.slice A3 n3 c3)
  obtain ⟨R, hR⟩ : ∃ R, R = matchV k n a x C N As Ss Hs := ⟨_, rfl⟩
  rw [← hR]
  have HR := Lib.hid hR
  clear hA hB hW0 hW1 e1 hbel TH TI TB h1 h2 h3 m1 m2 m3 z1 z2 z3 hn hC hN H1 H2 H3 hR
  by_cases e0 : k = 0
  · subst e0
    go_enter Tryd.func7, Tryd.ntmps7
    go_upto_region 1 with fail
    rw [← HW0.out]
    go_wp2_with (go_at_call 15; refine K5.out.mono ?_; rintro e w1 ⟨rfl, b1⟩)
    go_ret
    exact ⟨congrArg (fun q => Ending.returned (Value.bool q)) HR.out.symm, HBEL.out.trans (b1.mono HBEL.out.size)⟩
  have g0 : ((k : Int) == 0) = false := by rw [beq_eq_false_iff_ne]; exact e0
  by_cases e1 : k = 1
  · subst e1
    go_enter Tryd.func7, Tryd.ntmps7
    go_upto_region 1 with fail
    rw [← HW0.out]
    go_wp2_with (go_at_call 17; refine K6.out.mono ?_; rintro e w1 ⟨rfl, rfl⟩)
    go_ret
    exact ⟨congrArg (fun q => Ending.returned (Value.bool q)) HR.out.symm, HBEL.out⟩
  have g1 : ((k : Int) == 1) = false := by rw [beq_eq_false_iff_ne]; exact e1
  by_cases e2 : k = 2
  · subst e2
    go_enter Tryd.func7, Tryd.ntmps7
    go_upto_region 1 with fail
    rw [← HW0.out]
    go_wp2_with (go_at_call 18; refine K7.out.mono ?_; rintro e w1 ⟨rfl, b1⟩)
    go_ret
    exact ⟨congrArg (fun q => Ending.returned (Value.bool q)) HR.out.symm, HBEL.out.trans (b1.mono HBEL.out.size)⟩
  have g2 : ((k : Int) == 2) = false := by rw [beq_eq_false_iff_ne]; exact e2
  by_cases e3 : k = 3
  · subst e3
    go_enter Tryd.func7, Tryd.ntmps7
    go_upto_region 1 with fail
    rw [← HW0.out]
    go_wp2_with (go_at_call 20; refine K1.out.mono ?_; rintro e w1 ⟨rfl, b1⟩)
    go_ret
    exact ⟨congrArg (fun q => Ending.returned (Value.bool q)) HR.out.symm, HBEL.out.trans (b1.mono HBEL.out.size)⟩
  have g3 : ((k : Int) == 3) = false := by rw [beq_eq_false_iff_ne]; exact e3
  by_cases e4 : k = 4
  · subst e4
    go_enter Tryd.func7, Tryd.ntmps7
    go_upto_region 1 with fail
    rw [← HW0.out]
    go_wp2_with (go_at_call 21; refine K2.out.mono ?_; rintro e w1 ⟨rfl, b1⟩)
    go_ret
    exact ⟨congrArg (fun q => Ending.returned (Value.bool q)) HR.out.symm, HBEL.out.trans (b1.mono HBEL.out.size)⟩
  have g4 : ((k : Int) == 4) = false := by rw [beq_eq_false_iff_ne]; exact e4
  by_cases e5 : k = 5
  · subst e5
    go_enter Tryd.func7, Tryd.ntmps7
    go_upto_region 1 with fail
    rw [← HW0.out]
    go_wp2_with (go_at_call 21; refine K3.out.mono ?_; rintro e w1 ⟨rfl, b1⟩)
    go_ret
    exact ⟨congrArg (fun q => Ending.returned (Value.bool q)) HR.out.symm, HBEL.out.trans (b1.mono HBEL.out.size)⟩
  have g5 : ((k : Int) == 5) = false := by rw [beq_eq_false_iff_ne]; exact e5
  by_cases e6 : k = 6
  · subst e6
    go_enter Tryd.func7, Tryd.ntmps7
    go_upto_region 1 with fail
    rw [← HW0.out]
    go_wp2_with (go_at_call 20; refine K4.out.mono ?_; rintro e w1 ⟨rfl, b1⟩)
    go_ret
    exact ⟨congrArg (fun q => Ending.returned (Value.bool q)) HR.out.symm, HBEL.out.trans (b1.mono HBEL.out.size)⟩
  have g6 : ((k : Int) == 6) = false := by rw [beq_eq_false_iff_ne]; exact e6
  have hr : R = false := by rw [HR.out]; unfold matchV; simp [e0, e1, e2, e3, e4, e5, e6]
  go_enter Tryd.func7, Tryd.ntmps7
  go_upto_region 1 with fail
  rw [← HW0.out]
  clear e0 e1 e2 e3 e4 e5 e6
  go_wp2_with fail
  go_ret
  exact ⟨congrArg (fun q => Ending.returned (Value.bool q)) hr.symm, HBEL.out⟩
end Go.Proofs.YtkdknfedieeenaaDoor
namespace Go.Proofs.YtkdknfedieeenaaDoor
open Go.RowKit
set_option linter.unusedVariables false
set_option linter.unusedSimpArgs false
set_option maxRecDepth 20000

set_option maxHeartbeats 16000000 in
theorem lmatch_any (k : Int) (n a : ByteArray) (x : Int) (C N : ByteArray) (A1 A2 A3 : Option Addr) (n1 c1 n2 c2 n3 c3 : Nat) (As Ss Hs : List ByteArray) (w : World) (hn : n.size ≤ 140737488355328) (hC : C.size ≤ 140737488355328) (hN : N.size ≤ 140737488355328)
    (h1 : Sl w w.heap.size 1 A1 n1 (As.map .string)) (h2 : Sl w w.heap.size 1 A2 n2 (Ss.map .string)) (h3 : Sl w w.heap.size 1 A3 n3 (Hs.map .string)) (m1 : n1 ≤ 1152921504606846976) (m2 : n2 ≤ 1152921504606846976) (m3 : n3 ≤ 1152921504606846976)
    (z1 : ∀ s ∈ As, s.size ≤ 140737488355328) (z2 : ∀ s ∈ Ss, s.size ≤ 140737488355328) (z3 : ∀ s ∈ Hs, s.size ≤ 140737488355328) :
    Calls Tryd.prog 9 #[.agg #[.int .i64 k, .string n, .string a, .int .i64 x], .agg #[.string C, .string N, .slice A1 n1 c1, .slice A2 n2 c2, .slice A3 n3 c3]] w fun e w' => e = .returned (.bool (matchV k n a x C N As Ss Hs)) ∧ Below w.heap.size w w' := by
  obtain ⟨W1, hW1⟩ : ∃ W, W = w.alloc (.cells #[.int .i64 k, .string n, .string a, .int .i64 x] 33) := ⟨_, rfl⟩
  obtain ⟨W0, hW0⟩ : ∃ W, W = W1.alloc (.cells #[.string C, .string N, .slice A1 n1 c1, .slice A2 n2 c2, .slice A3 n3 c3] 37) := ⟨_, rfl⟩
  have e1 : W1.heap.size = w.heap.size + 1 := by rw [hW1]; simp
  have hA : Cs W0 w.heap.size [.int .i64 k, .string n, .string a, .int .i64 x] := by rw [hW0, hW1]; exact (Cs.new w _ _ _).alloc _
  have hB : Cs W0 (w.heap.size + 1) [.string C, .string N, .slice A1 n1 c1, .slice A2 n2 c2, .slice A3 n3 c3] := by rw [hW0]; exact (Cs.new W1 _ _ _).at_ _ e1
  have hbel : Below w.heap.size w W0 := by
    rw [hW0, hW1]
    exact ((Below.refl w.heap.size w).alloc (Nat.le_refl _) _).alloc (by simp) _
  rw [hW1] at hW0
  have H1 := Lib.hid ((h1.below hbel).more hbel.size)
  have H2 := Lib.hid ((h2.below hbel).more hbel.size)
  have H3 := Lib.hid ((h3.below hbel).more hbel.size)
  have Z1 := Lib.hid z1
  have Z2 := Lib.hid z2
  have Z3 := Lib.hid z3
  have HW0 := Lib.hid hW0
  have HBEL := Lib.hid hbel
  have HA := Lib.hid hA
  have q0 := hA.get 0 (.int .i64 k)
  have q1 := hA.get 1 (.string n)
  have d0 := hB.get 0 (.string C)
  have d1 := hB.get 1 (.string N)
  have d2 := hB.get 2 (.slice A1 n1 c1)
  have d3 := hB.get 3 (.slice A2 n2 c2)
  have d4 := hB.get 4 (.slice A3 n3 c3)
  have KN := Lib.hid (fun (s : ByteArray) (h : s.size ≤ 140737488355328) w => below_any s n w (by unfold maxLen; omega) (by unfold maxLen; omega))
  have KH := Lib.hid (fun (s : ByteArray) (h : s.size ≤ 140737488355328) w => has_any a x s w h)
  have HCS := Lib.hid hC
  have HNS := Lib.hid hN
  obtain ⟨R, hR⟩ : ∃ R, R = matchV k n a x C N As Ss Hs := ⟨_, rfl⟩
  rw [← hR]
  have HR := Lib.hid hR
  clear hA hB hW0 hW1 e1 hbel h1 h2 h3 z1 z2 z3 hn hC hN hR
  by_cases e1 : k = 1
  · subst e1
    go_enter Tryd.func9, Tryd.ntmps9
    go_upto_region 1 with fail
    rw [← HW0.out]
    go_wp2_with fail
    go_ret
    exact ⟨congrArg (fun q => Ending.returned (Value.bool q)) HR.out.symm, HBEL.out⟩
  have g1 : ((k : Int) == 1) = false := by rw [beq_eq_false_iff_ne]; exact e1
  by_cases e2 : k = 2
  · subst e2
    have hr : R = belV19 n N := HR.out
    unfold belV19 at hr
    cases he : N.toList == n.toList with
    | true =>
      rw [he] at hr
      have HRR := Lib.hid hr
      clear hr
      go_enter Tryd.func9, Tryd.ntmps9
      go_upto_region 1 with fail
      rw [← HW0.out]
      go_wp2_with fail
      go_ret
      exact ⟨congrArg (fun q => Ending.returned (Value.bool q)) (by rw [HRR.out]; rfl), HBEL.out⟩
    | false =>
      rw [he] at hr
      have HRR := Lib.hid hr
      clear hr
      go_enter Tryd.func9, Tryd.ntmps9
      go_upto_region 1 with fail
      rw [← HW0.out]
      go_wp2_with (go_at_call 19; refine (KN.out N HNS.out _).mono ?_; rintro e w1 ⟨rfl, hb1⟩)
      go_ret
      exact ⟨congrArg (fun q => Ending.returned (Value.bool q)) (by rw [HRR.out]; simp), HBEL.out.trans (hb1.mono HBEL.out.size)⟩
  have g2 : ((k : Int) == 2) = false := by rw [beq_eq_false_iff_ne]; exact e2
  by_cases e4 : k = 4
  · subst e4
    go_enter Tryd.func9, Tryd.ntmps9
    go_upto_region 1 with fail
    rw [← HW0.out]
    go_upto_region 10 with fail
    go_loopw [39] (fun v wr => ∃ j : Nat, j ≤ n2 ∧ v = .int .i64 j ∧ Hid ((Ss.take j).any (isV19 n) = false) ∧ Hid (Below W0.heap.size W0 wr)) (fun v _ => n2 - (intOf v).toNat)
    case atStart => exact ⟨0, Nat.zero_le _, rfl, Lib.hid (by simp), Lib.hid (Below.refl _ _)⟩
    case round =>
      obtain ⟨j, hj, rfl, HK, HB⟩ := hrel
      have hl : Ss.length = n2 := by have := H2.out.1; simpa using this
      by_cases hlt : j < n2
      · have hlt' : (j : Int) < n2 := by omega
        obtain ⟨r, hr⟩ : ∃ r, Ss[j]? = some r := ⟨_, List.getElem?_eq_getElem (by rw [hl]; omega)⟩
        obtain ⟨bb, off, u, hAe, hbb, hu, hc⟩ := (H2.out.below HB.out).at_ hlt
        have hcell : wr.cell? ⟨bb, off + j, none⟩ = some (.string r) := by
          rw [List.getElem?_map, hr] at hu
          simp only [Option.map_some, Option.some.injEq] at hu
          rw [← hu] at hc
          exact hc
        have hrs := Z2.out r (List.mem_of_getElem? hr)
        have HRS := Lib.hid hrs
        have HNX := Lib.hid (sany_next (isV19 n) hr)
        have HST := Lib.hid (sany_stop (isV19 n) hr)
        have hq := HA.out.below HB.out
        have r0 := hq.get 0 (.int .i64 4)
        have r1 := hq.get 1 (.string n)
        have r2 := hq.get 2 (.string a)
        have r3 := hq.get 3 (.int .i64 x)
        clear hr hu hc hbb hrs hq hl
        obtain rfl := hAe
        cases he : r.toList == n.toList with
        | true =>
          have HY := Lib.hid (HST.out he)
          go_wp2_with fail
          go_ret
          exact ⟨congrArg (fun q => Ending.returned (Value.bool q)) (by rw [HR.out]; exact HY.out.symm), HBEL.out.trans (HB.out.mono HBEL.out.size)⟩
        | false =>
          have HE := Lib.hid he
          go_wp2_with fail
          go_roundw
          case rel => exact ⟨j + 1, by omega, by go_num, Lib.hid (by rw [HNX.out, HK.out]; exact HE.out), HB⟩
          case measure => simp [intOf]; omega
      · have hlt' : ¬ (j : Int) < n2 := by omega
        have HEN : Hid (Ss.any (isV19 n) = false) := Lib.hid (by have := HK.out; rwa [List.take_of_length_le (by rw [hl]; omega)] at this)
        clear hl
        go_wp2_with fail
        go_ret
        exact ⟨congrArg (fun q => Ending.returned (Value.bool q)) (by rw [HR.out]; exact HEN.out.symm), HBEL.out.trans (HB.out.mono HBEL.out.size)⟩
  have g4 : ((k : Int) == 4) = false := by rw [beq_eq_false_iff_ne]; exact e4
  by_cases e5 : k = 5
  · subst e5
    go_enter Tryd.func9, Tryd.ntmps9
    go_upto_region 1 with fail
    rw [← HW0.out]
    go_upto_region 10 with fail
    go_loopw [39] (fun v wr => ∃ j : Nat, j ≤ n2 ∧ v = .int .i64 j ∧ Hid ((Ss.take j).any (belV19 n) = false) ∧ Hid (Below W0.heap.size W0 wr)) (fun v _ => n2 - (intOf v).toNat)
    case atStart => exact ⟨0, Nat.zero_le _, rfl, Lib.hid (by simp), Lib.hid (Below.refl _ _)⟩
    case round =>
      obtain ⟨j, hj, rfl, HK, HB⟩ := hrel
      have hl : Ss.length = n2 := by have := H2.out.1; simpa using this
      by_cases hlt : j < n2
      · have hlt' : (j : Int) < n2 := by omega
        obtain ⟨r, hr⟩ : ∃ r, Ss[j]? = some r := ⟨_, List.getElem?_eq_getElem (by rw [hl]; omega)⟩
        obtain ⟨bb, off, u, hAe, hbb, hu, hc⟩ := (H2.out.below HB.out).at_ hlt
        have hcell : wr.cell? ⟨bb, off + j, none⟩ = some (.string r) := by
          rw [List.getElem?_map, hr] at hu
          simp only [Option.map_some, Option.some.injEq] at hu
          rw [← hu] at hc
          exact hc
        have hrs := Z2.out r (List.mem_of_getElem? hr)
        have HRS := Lib.hid hrs
        have HNX := Lib.hid (sany_next (belV19 n) hr)
        have HST := Lib.hid (sany_stop (belV19 n) hr)
        have hq := HA.out.below HB.out
        have r0 := hq.get 0 (.int .i64 5)
        have r1 := hq.get 1 (.string n)
        have r2 := hq.get 2 (.string a)
        have r3 := hq.get 3 (.int .i64 x)
        clear hr hu hc hbb hrs hq hl
        obtain rfl := hAe
        cases he : r.toList == n.toList with
        | true =>
          have HE : Hid (belV19 n r = false) := Lib.hid (by unfold belV19; rw [he]; rfl)
          go_wp2_with fail
          go_roundw
          case rel => exact ⟨j + 1, by omega, by go_num, Lib.hid (by rw [HNX.out, HK.out]; exact HE.out), HB⟩
          case measure => simp [intOf]; omega
        | false =>
          have kn := KN.out r HRS.out wr
          cases hs : (stripOf r n).isSome with
          | true =>
            have HY := Lib.hid (HST.out (by unfold belV19; rw [he, hs]; rfl))
            rw [hs] at kn
            have KN2 := Lib.hid kn
            clear kn hs
            go_wp2_with (go_at_call 19; refine KN2.out.mono ?_; rintro e w1 ⟨rfl, hb1⟩)
            go_ret
            exact ⟨congrArg (fun q => Ending.returned (Value.bool q)) (by rw [HR.out]; exact HY.out.symm), HBEL.out.trans ((HB.out.trans (hb1.mono HB.out.size)).mono HBEL.out.size)⟩
          | false =>
            have HE : Hid (belV19 n r = false) := Lib.hid (by unfold belV19; rw [he, hs]; rfl)
            rw [hs] at kn
            have KN2 := Lib.hid kn
            clear kn hs
            go_wp2_with (go_at_call 19; refine KN2.out.mono ?_; rintro e w1 ⟨rfl, hb1⟩)
            go_roundw
            case rel => exact ⟨j + 1, by omega, by go_num, Lib.hid (by rw [HNX.out, HK.out]; exact HE.out), Lib.hid (HB.out.trans (hb1.mono HB.out.size))⟩
            case measure => simp [intOf]; omega
      · have hlt' : ¬ (j : Int) < n2 := by omega
        have HEN : Hid (Ss.any (belV19 n) = false) := Lib.hid (by have := HK.out; rwa [List.take_of_length_le (by rw [hl]; omega)] at this)
        clear hl
        go_wp2_with fail
        go_ret
        exact ⟨congrArg (fun q => Ending.returned (Value.bool q)) (by rw [HR.out]; exact HEN.out.symm), HBEL.out.trans (HB.out.mono HBEL.out.size)⟩
  have g5 : ((k : Int) == 5) = false := by rw [beq_eq_false_iff_ne]; exact e5
  by_cases e3 : k = 3
  · subst e3
    go_enter Tryd.func9, Tryd.ntmps9
    go_upto_region 1 with fail
    rw [← HW0.out]
    go_upto_region 23 with fail
    go_loopw [85] (fun v wr => ∃ j : Nat, j ≤ n1 ∧ v = .int .i64 j ∧ Hid ((As.take j).any (hasB a x) = false) ∧ Hid (Below W0.heap.size W0 wr)) (fun v _ => n1 - (intOf v).toNat)
    case atStart => exact ⟨0, Nat.zero_le _, rfl, Lib.hid (by simp), Lib.hid (Below.refl _ _)⟩
    case round =>
      obtain ⟨j, hj, rfl, HK, HB⟩ := hrel
      have hl : As.length = n1 := by have := H1.out.1; simpa using this
      by_cases hlt : j < n1
      · have hlt' : (j : Int) < n1 := by omega
        obtain ⟨r, hr⟩ : ∃ r, As[j]? = some r := ⟨_, List.getElem?_eq_getElem (by rw [hl]; omega)⟩
        obtain ⟨bb, off, u, hAe, hbb, hu, hc⟩ := (H1.out.below HB.out).at_ hlt
        have hcell : wr.cell? ⟨bb, off + j, none⟩ = some (.string r) := by
          rw [List.getElem?_map, hr] at hu
          simp only [Option.map_some, Option.some.injEq] at hu
          rw [← hu] at hc
          exact hc
        have hrs := Z1.out r (List.mem_of_getElem? hr)
        have HRS := Lib.hid hrs
        have HNX := Lib.hid (sany_next (hasB a x) hr)
        have HST := Lib.hid (sany_stop (hasB a x) hr)
        have hq := HA.out.below HB.out
        have r0 := hq.get 0 (.int .i64 3)
        have r1 := hq.get 1 (.string n)
        have r2 := hq.get 2 (.string a)
        have r3 := hq.get 3 (.int .i64 x)
        clear hr hu hc hbb hrs hq hl
        obtain rfl := hAe
        have kh := KH.out r HRS.out wr
        cases hs : hasB a x r with
        | true =>
          have HY := Lib.hid (HST.out hs)
          rw [hs] at kh
          have KH2 := Lib.hid kh
          clear kh hs
          go_wp2_with (go_at_call 16; refine KH2.out.mono ?_; rintro e w1 ⟨rfl, hb1⟩)
          go_ret
          exact ⟨congrArg (fun q => Ending.returned (Value.bool q)) (by rw [HR.out]; exact HY.out.symm), HBEL.out.trans ((HB.out.trans (hb1.mono HB.out.size)).mono HBEL.out.size)⟩
        | false =>
          have HE := Lib.hid hs
          rw [hs] at kh
          have KH2 := Lib.hid kh
          clear kh hs
          go_wp2_with (go_at_call 16; refine KH2.out.mono ?_; rintro e w1 ⟨rfl, hb1⟩)
          go_roundw
          case rel => exact ⟨j + 1, by omega, by go_num, Lib.hid (by rw [HNX.out, HK.out]; exact HE.out), Lib.hid (HB.out.trans (hb1.mono HB.out.size))⟩
          case measure => simp [intOf]; omega
      · have hlt' : ¬ (j : Int) < n1 := by omega
        have HEN : Hid (As.any (hasB a x) = false) := Lib.hid (by have := HK.out; rwa [List.take_of_length_le (by rw [hl]; omega)] at this)
        clear hl
        go_wp2_with fail
        go_ret
        exact ⟨congrArg (fun q => Ending.returned (Value.bool q)) (by rw [HR.out]; exact HEN.out.symm), HBEL.out.trans (HB.out.mono HBEL.out.size)⟩
  have g3 : ((k : Int) == 3) = false := by rw [beq_eq_false_iff_ne]; exact e3
  by_cases e6 : k = 6
  · subst e6
    go_enter Tryd.func9, Tryd.ntmps9
    go_upto_region 1 with fail
    rw [← HW0.out]
    go_upto_region 23 with fail
    go_loopw [85] (fun v wr => ∃ j : Nat, j ≤ n3 ∧ v = .int .i64 j ∧ Hid ((Hs.take j).any (hasB a x) = false) ∧ Hid (Below W0.heap.size W0 wr)) (fun v _ => n3 - (intOf v).toNat)
    case atStart => exact ⟨0, Nat.zero_le _, rfl, Lib.hid (by simp), Lib.hid (Below.refl _ _)⟩
    case round =>
      obtain ⟨j, hj, rfl, HK, HB⟩ := hrel
      have hl : Hs.length = n3 := by have := H3.out.1; simpa using this
      by_cases hlt : j < n3
      · have hlt' : (j : Int) < n3 := by omega
        obtain ⟨r, hr⟩ : ∃ r, Hs[j]? = some r := ⟨_, List.getElem?_eq_getElem (by rw [hl]; omega)⟩
        obtain ⟨bb, off, u, hAe, hbb, hu, hc⟩ := (H3.out.below HB.out).at_ hlt
        have hcell : wr.cell? ⟨bb, off + j, none⟩ = some (.string r) := by
          rw [List.getElem?_map, hr] at hu
          simp only [Option.map_some, Option.some.injEq] at hu
          rw [← hu] at hc
          exact hc
        have hrs := Z3.out r (List.mem_of_getElem? hr)
        have HRS := Lib.hid hrs
        have HNX := Lib.hid (sany_next (hasB a x) hr)
        have HST := Lib.hid (sany_stop (hasB a x) hr)
        have hq := HA.out.below HB.out
        have r0 := hq.get 0 (.int .i64 6)
        have r1 := hq.get 1 (.string n)
        have r2 := hq.get 2 (.string a)
        have r3 := hq.get 3 (.int .i64 x)
        clear hr hu hc hbb hrs hq hl
        obtain rfl := hAe
        have kh := KH.out r HRS.out wr
        cases hs : hasB a x r with
        | true =>
          have HY := Lib.hid (HST.out hs)
          rw [hs] at kh
          have KH2 := Lib.hid kh
          clear kh hs
          go_wp2_with (go_at_call 16; refine KH2.out.mono ?_; rintro e w1 ⟨rfl, hb1⟩)
          go_ret
          exact ⟨congrArg (fun q => Ending.returned (Value.bool q)) (by rw [HR.out]; exact HY.out.symm), HBEL.out.trans ((HB.out.trans (hb1.mono HB.out.size)).mono HBEL.out.size)⟩
        | false =>
          have HE := Lib.hid hs
          rw [hs] at kh
          have KH2 := Lib.hid kh
          clear kh hs
          go_wp2_with (go_at_call 16; refine KH2.out.mono ?_; rintro e w1 ⟨rfl, hb1⟩)
          go_roundw
          case rel => exact ⟨j + 1, by omega, by go_num, Lib.hid (by rw [HNX.out, HK.out]; exact HE.out), Lib.hid (HB.out.trans (hb1.mono HB.out.size))⟩
          case measure => simp [intOf]; omega
      · have hlt' : ¬ (j : Int) < n3 := by omega
        have HEN : Hid (Hs.any (hasB a x) = false) := Lib.hid (by have := HK.out; rwa [List.take_of_length_le (by rw [hl]; omega)] at this)
        clear hl
        go_wp2_with fail
        go_ret
        exact ⟨congrArg (fun q => Ending.returned (Value.bool q)) (by rw [HR.out]; exact HEN.out.symm), HBEL.out.trans (HB.out.mono HBEL.out.size)⟩
  have g6 : ((k : Int) == 6) = false := by rw [beq_eq_false_iff_ne]; exact e6
  by_cases e0 : k = 0
  · subst e0
    have hal := (Below.refl W0.heap.size W0).alloc (Nat.le_refl _) (.cells #[.string C] 9)
    have H9 := Lib.hid (show Sl (W0.alloc (.cells #[.string C] 9)) (W0.alloc (.cells #[.string C] 9)).heap.size 1 (some ⟨W0.heap.size, 0, none⟩) 1 (([C] : List ByteArray).map .string) from Sl.fresh W0 _ _ 1 _ rfl rfl)
    have HA9 := Lib.hid (HA.out.below hal)
    have HBEL9 := Lib.hid (HBEL.out.trans (hal.mono HBEL.out.size))
    have Z9 : Hid (∀ s ∈ [C], s.size ≤ 140737488355328) := Lib.hid (by intro s hs; simp at hs; subst hs; exact HCS.out)
    have hr0 : matchV 0 n a x C N As Ss Hs = [C].any (hasB a x) := by show hasB a x C = _; simp
    rw [hr0] at HR
    clear hal hr0
    go_enter Tryd.func9, Tryd.ntmps9
    go_upto_region 1 with fail
    rw [← HW0.out]
    go_upto_region 23 with fail
    generalize W0.alloc (.cells #[.string C] 9) = W9 at H9 HA9 HBEL9 ⊢
    go_loopw [85] (fun v wr => ∃ j : Nat, j ≤ 1 ∧ v = .int .i64 j ∧ Hid (([C].take j).any (hasB a x) = false) ∧ Hid (Below W9.heap.size W9 wr)) (fun v _ => 1 - (intOf v).toNat)
    case atStart => exact ⟨0, Nat.zero_le _, rfl, Lib.hid (by simp), Lib.hid (Below.refl _ _)⟩
    case round =>
      obtain ⟨j, hj, rfl, HK, HB⟩ := hrel
      have hl : [C].length = 1 := rfl
      by_cases hlt : j < 1
      · have hlt' : (j : Int) < 1 := by omega
        obtain ⟨r, hr⟩ : ∃ r, [C][j]? = some r := ⟨_, List.getElem?_eq_getElem (by rw [hl]; omega)⟩
        obtain ⟨bb, off, u, hAe, hbb, hu, hc⟩ := (H9.out.below HB.out).at_ hlt
        have hcell : wr.cell? ⟨bb, off + j, none⟩ = some (.string r) := by
          rw [List.getElem?_map, hr] at hu
          simp only [Option.map_some, Option.some.injEq] at hu
          rw [← hu] at hc
          exact hc
        have hrs := Z9.out r (List.mem_of_getElem? hr)
        have HRS := Lib.hid hrs
        have HNX := Lib.hid (sany_next (hasB a x) hr)
        have HST := Lib.hid (sany_stop (hasB a x) hr)
        have hq := HA9.out.below HB.out
        have r0 := hq.get 0 (.int .i64 0)
        have r1 := hq.get 1 (.string n)
        have r2 := hq.get 2 (.string a)
        have r3 := hq.get 3 (.int .i64 x)
        clear hr hu hc hbb hrs hq hl
        injection hAe with hAe
        injection hAe with hb0 ho0
        subst hb0 ho0
        have hcell := Lib.hid (by rw [Nat.zero_add] at hcell; exact hcell)
        have hcell := hcell.out
        have kh := KH.out r HRS.out wr
        cases hs : hasB a x r with
        | true =>
          have HY := Lib.hid (HST.out hs)
          rw [hs] at kh
          have KH2 := Lib.hid kh
          clear kh hs
          go_wp2_with (go_at_call 16; refine KH2.out.mono ?_; rintro e w1 ⟨rfl, hb1⟩)
          go_ret
          exact ⟨congrArg (fun q => Ending.returned (Value.bool q)) (by rw [HR.out]; exact HY.out.symm), HBEL9.out.trans ((HB.out.trans (hb1.mono HB.out.size)).mono HBEL9.out.size)⟩
        | false =>
          have HE := Lib.hid hs
          rw [hs] at kh
          have KH2 := Lib.hid kh
          clear kh hs
          go_wp2_with (go_at_call 16; refine KH2.out.mono ?_; rintro e w1 ⟨rfl, hb1⟩)
          go_roundw
          case rel => exact ⟨j + 1, by omega, by go_num, Lib.hid (by rw [HNX.out, HK.out]; exact HE.out), Lib.hid (HB.out.trans (hb1.mono HB.out.size))⟩
          case measure => simp [intOf]; omega
      · have hlt' : ¬ (j : Int) < 1 := by omega
        have HEN : Hid ([C].any (hasB a x) = false) := Lib.hid (by have := HK.out; rwa [List.take_of_length_le (by rw [hl]; omega)] at this)
        clear hl
        go_wp2_with fail
        go_ret
        exact ⟨congrArg (fun q => Ending.returned (Value.bool q)) (by rw [HR.out]; exact HEN.out.symm), HBEL9.out.trans (HB.out.mono HBEL9.out.size)⟩
  have g0 : ((k : Int) == 0) = false := by rw [beq_eq_false_iff_ne]; exact e0
  have hr : R = false := by rw [HR.out]; unfold matchV; simp [e0, e1, e2, e3, e4, e5, e6]
  go_enter Tryd.func9, Tryd.ntmps9
  go_upto_region 1 with fail
  rw [← HW0.out]
  clear e0 e1 e2 e3 e4 e5 e6
  go_upto_region 23 with fail
  refine wp_loop_rounds 1 ?_
  rw [rounds_succ]
  go_wp2_with fail
  go_ret
  exact ⟨congrArg (fun q => Ending.returned (Value.bool q)) hr.symm, HBEL.out⟩
end Go.Proofs.YtkdknfedieeenaaDoor
namespace Go.Proofs.YtkdknfedieeenaaDoor
open Go.RowKit
set_option linter.unusedVariables false
set_option linter.unusedSimpArgs false
set_option maxRecDepth 20000
attribute [local simp] putsF isV wordOf Deps Region.binds Region.wanted Act.put wantedX isB
/-- Facts of which the slices may lie anywhere. -/
def factW (C N : ByteArray) (l1 l2 l3 : List ByteArray) : Value → World → Prop := fun v w => ∃ (X1 X2 X3 : Option Addr) (q1 q2 q3 e1 e2 e3 : Nat), v = .agg #[.string C, .string N, .slice X1 q1 e1, .slice X2 q2 e2, .slice X3 q3 e3] ∧
  Sl w w.heap.size 1 X1 q1 (l1.map .string) ∧ Sl w w.heap.size 1 X2 q2 (l2.map .string) ∧ Sl w w.heap.size 1 X3 q3 (l3.map .string)
theorem factW_stays (C N : ByteArray) (l1 l2 l3 : List ByteArray) : ∀ v w w', factW C N l1 l2 l3 v w → Goes w w' → factW C N l1 l2 l3 v w' := by
  rintro v w w' ⟨X1, X2, X3, q1, q2, q3, e1, e2, e3, rfl, h1, h2, h3⟩ hg
  exact ⟨X1, X2, X3, q1, q2, q3, e1, e2, e3, rfl, (h1.below hg).more hg.size, (h2.below hg).more hg.size, (h3.below hg).more hg.size⟩
theorem pickQ_four (f : Nat → List UInt8 → ByteArray) (rows : List RowT) : (pickQ f rows rows.length).length ≤ 4 := by rw [pickQ_len _ (Nat.le_refl _)]; omega
theorem baL_sz19 (l : List UInt8) : (baL l).size = l.length := by simp [baL, ByteArray.size]
theorem makeL_le (ls : List (List UInt8)) : ((makeL ls).getD []).length ≤ 254 := by
  unfold makeL
  split
  · rename_i h; exact h.2
  · simp
theorem nameQ_size (l : List UInt8) : (nameQ l).size ≤ 140737488355328 := by
  unfold nameQ trigD
  rw [if_neg (by omega), baL_sz19]
  have := makeL_le (namD (1 % 7) (intsU l))
  show ((makeL (namD (1 % 7) (intsU l))).getD []).length ≤ _
  omega
set_option maxHeartbeats 64000000 in
theorem searchMatches_walk (w : World) (hL : LaidT w) (six : Bool) (cA : Option Addr) (cn cc : Nat) (zc : List Int) (S01 : SlView w cA cn cc (zc.map (Value.int .u8))) (hl01 : zc.length = cn) (hz01 : ∀ z ∈ zc, (Lit.int .u8 z).wf = true) (hc01 : cc ≤ 140737488351232)
    (nA : Option Addr) (nn nc : Nat) (zn : List Int) (S02 : SlView w nA nn nc (zn.map (Value.int .u8))) (hl02 : zn.length = nn) (hz02 : ∀ z ∈ zn, (Lit.int .u8 z).wf = true) (hc02 : nc ≤ 140737488351232)
    (A1 : Option Addr) (k1 c1 : Nat) (R1 : List RowT) (S03 : SlView w A1 k1 c1 (R1.map rowV)) (hl03 : R1.length = k1) (hr03 : ∀ r ∈ R1, RowOk w r ∧ r.2.2.1 ≤ 140737488351232) (hc03 : c1 ≤ 5864062014634)
    (A2 : Option Addr) (k2 c2 : Nat) (R2 : List RowT) (S04 : SlView w A2 k2 c2 (R2.map rowV)) (hl04 : R2.length = k2) (hr04 : ∀ r ∈ R2, RowOk w r ∧ r.2.2.1 ≤ 140737488351232) (hc04 : c2 ≤ 5864062014634)
    (A3 : Option Addr) (k3 c3 : Nat) (R3 : List RowT) (S05 : SlView w A3 k3 c3 (R3.map rowV)) (hl05 : R3.length = k3) (hr05 : ∀ r ∈ R3, RowOk w r ∧ r.2.2.1 ≤ 140737488351232) (hc05 : c3 ≤ 5864062014634)
    (kd : Int) (hkd : (Lit.int .u8 kd).wf = true) (rA : Option Addr) (rn rc : Nat) (zr : List Int) (S11 : SlView w rA rn rc (zr.map (Value.int .u8))) (hl11 : zr.length = rn) (hz11 : ∀ z ∈ zr, (Lit.int .u8 z).wf = true) (hc11 : rc ≤ 140737488351232) (rs : Bool) (rb : Int) (hrb : (Lit.int .u8 rb).wf = true) (ro : Int) (hro : (Lit.int .u8 ro).wf = true)
    (tk : Int) (htk : (Lit.int .i64 tk).wf = true) (tn : ByteArray) (htn : tn.size ≤ 140737488351232) (ta : ByteArray) (hta : ta.size ≤ 140737488351232) (tx : Int) (htx : (Lit.int .i64 tx).wf = true)
    (C : ByteArray) (hC : C.size ≤ 140737488351232) (N : ByteArray) (hN : N.size ≤ 140737488351232)
    (B1 : Option Addr) (q1 e1 : Nat) (l1 : List ByteArray) (S32 : SlView w B1 q1 e1 (l1.map Value.string)) (hl32 : l1.length = q1) (hc32 : e1 ≤ 8796093021952) (hs32 : ∀ s ∈ l1, s.size ≤ 140737488351232)
    (B2 : Option Addr) (q2 e2 : Nat) (l2 : List ByteArray) (S33 : SlView w B2 q2 e2 (l2.map Value.string)) (hl33 : l2.length = q2) (hc33 : e2 ≤ 8796093021952) (hs33 : ∀ s ∈ l2, s.size ≤ 140737488351232)
    (B3 : Option Addr) (q3 e3 : Nat) (l3 : List ByteArray) (S34 : SlView w B3 q3 e3 (l3.map Value.string)) (hl34 : l3.length = q3) (hc34 : e3 ≤ 8796093021952) (hs34 : ∀ s ∈ l3, s.size ≤ 140737488351232) :
    Calls Tryd.prog 3 #[.agg #[.bool six, .slice cA cn cc, .slice nA nn nc, .slice A1 k1 c1, .slice A2 k2 c2, .slice A3 k3 c3], .agg #[.int .u8 kd, .slice rA rn rc, .bool rs, .int .u8 rb, .int .u8 ro], .agg #[.int .i64 tk, .string tn, .string ta, .int .i64 tx], .agg #[.string C, .string N, .slice B1 q1 e1, .slice B2 q2 e2, .slice B3 q3 e3]] w fun e w' => e = .returned (.bool true) ∧ Below w.heap.size w w' := by
  obtain ⟨cl, hcl⟩ : ∃ l : List UInt8, zc.map (Value.int .u8) = l.map bv := bytes_of zc hz01
  obtain ⟨nl, hnl⟩ : ∃ l : List UInt8, zn.map (Value.int .u8) = l.map bv := bytes_of zn hz02
  have hkd2 := bounds_u8 hkd
  have hrb2 := bounds_u8 hrb
  have hfa : ∀ wx, Below w.heap.size w wx → Calls Tryd.prog 8 #[.agg #[.bool six, .slice cA cn cc, .slice nA nn nc, .slice A1 k1 c1, .slice A2 k2 c2, .slice A3 k3 c3]] wx fun e w' => ∃ v, e = .returned v ∧ factW (addrQ six cl) (nameQ nl) (pickQ (fAns six) R1 R1.length) (pickQ fSrv R2 R2.length) (pickQ (fHst six) R3 R3.length) v w' ∧ Below wx.heap.size wx w' := by
    intro wx hb
    have g1 := (S01.sl.below hb).more hb.size
    have g2 := (S02.sl.below hb).more hb.size
    rw [hcl] at g1
    rw [hnl] at g2
    refine (facts_any six cA nA A1 A2 A3 cn cc nn nc k1 c1 k2 c2 k3 c3 cl nl R1 R2 R3 wx g1 (by have := S01.le; omega) g2 (by have := S02.le; omega) ((S03.sl.below hb).more hb.size) ((S04.sl.below hb).more hb.size) ((S05.sl.below hb).more hb.size) (by have := S03.le; omega) (by have := S04.le; omega) (by have := S05.le; omega)
      (fun r h => ⟨((hr03 r h).1.1.sl.below hb).more hb.size, by have := (hr03 r h).1.1.le; have := (hr03 r h).2; omega⟩) (fun r h => ⟨((hr04 r h).1.1.sl.below hb).more hb.size, by have := (hr04 r h).1.1.le; have := (hr04 r h).2; omega⟩) (fun r h => ⟨((hr05 r h).1.1.sl.below hb).more hb.size, by have := (hr05 r h).1.1.le; have := (hr05 r h).2; omega⟩)).mono ?_
    rintro e w' ⟨X1, X2, X3, p1, p2, p3, d1, d2, d3, rfl, h1, h2, h3, h4⟩
    exact ⟨_, rfl, ⟨X1, X2, X3, p1, p2, p3, d1, d2, d3, rfl, h2, h3, h4⟩, h1⟩
  have htr : ∀ wx, Below w.heap.size w wx → Calls Tryd.prog 6 #[.int .u8 kd, .slice rA rn rc, .bool rs, .int .u8 rb] wx fun e w' => ∃ (xk : Int) (xn xa : ByteArray) (xb : Int), e = .returned (.agg #[.int .i64 xk, .string xn, .string xa, .int .i64 xb]) ∧ xn.size ≤ 140737488355328 ∧ Below wx.heap.size wx w' := by
    intro wx hb
    refine (trigD_any kd (by omega) rA rn rc zr rs rb (by omega) wx ((S11.sl.below hb).more hb.size) (fun z h => by have := bounds_u8 (hz11 z h); omega) (by have := S11.le; omega)).mono ?_
    rintro e w' ⟨t, rfl, ht, hb'⟩
    exact ⟨t.kind, baL t.name, baL t.addr, t.bits, rfl, by rw [baL_sz19]; have := ht.ok.small.1; omega, hb'⟩
  obtain ⟨fC, hfC⟩ : ∃ x, x = addrQ six cl := ⟨_, rfl⟩
  obtain ⟨fN, hfN⟩ : ∃ x, x = nameQ nl := ⟨_, rfl⟩
  obtain ⟨m1, hm1⟩ : ∃ x, x = pickQ (fAns six) R1 R1.length := ⟨_, rfl⟩
  obtain ⟨m2, hm2⟩ : ∃ x, x = pickQ fSrv R2 R2.length := ⟨_, rfl⟩
  obtain ⟨m3, hm3⟩ : ∃ x, x = pickQ (fHst six) R3 R3.length := ⟨_, rfl⟩
  rw [← hfC, ← hfN, ← hm1, ← hm2, ← hm3] at hfa
  have zC : fC.size ≤ 140737488355328 := by have := addrQ_size six cl; rw [hfC]; omega
  have zN : fN.size ≤ 140737488355328 := by rw [hfN]; exact nameQ_size nl
  have zm : m1.length ≤ 4 ∧ m2.length ≤ 4 ∧ m3.length ≤ 4 := ⟨by rw [hm1]; exact pickQ_four _ _, by rw [hm2]; exact pickQ_four _ _, by rw [hm3]; exact pickQ_four _ _⟩
  have zs1 : ∀ s ∈ m1, s.size ≤ 140737488355328 := by rw [hm1]; exact pickQ_small _ (fun k l => by have := addrQ_size (six == (k % 2 == 0)) l; show (addrQ _ _).size ≤ _; omega) _ _
  have zs2 : ∀ s ∈ m2, s.size ≤ 140737488355328 := by rw [hm2]; exact pickQ_small _ (fun k l => nameQ_size l) _ _
  have zs3 : ∀ s ∈ m3, s.size ≤ 140737488355328 := by rw [hm3]; exact pickQ_small _ (fun k l => by have := addrQ_size six l; show (addrQ _ _).size ≤ _; omega) _ _
  have hsm : ∀ (k : Int) (n a : ByteArray) (x : Int) (v : Value) (wx : World), n.size ≤ 140737488355328 → factW fC fN m1 m2 m3 v wx → Calls Tryd.prog 7 #[.agg #[.int .i64 k, .string n, .string a, .int .i64 x], v] wx fun e w' => e = .returned (.bool (matchV k n a x fC fN m1 m2 m3)) ∧ Below wx.heap.size wx w' := by
    rintro k n a x v wx hn ⟨X1, X2, X3, p1, p2, p3, d1, d2, d3, rfl, h1, h2, h3⟩
    have y1 := h1.1
    have y2 := h2.1
    have y3 := h3.1
    rw [List.length_map] at y1 y2 y3
    exact smatch_any k n a x fC fN X1 X2 X3 p1 d1 p2 d2 p3 d3 m1 m2 m3 wx hn zC zN h1 h2 h3 (by omega) (by omega) (by omega) zs1 zs2 zs3
  have hlm : ∀ (k : Int) (n a : ByteArray) (x : Int) (v : Value) (wx : World), n.size ≤ 140737488355328 → factW fC fN m1 m2 m3 v wx → Calls Tryd.prog 9 #[.agg #[.int .i64 k, .string n, .string a, .int .i64 x], v] wx fun e w' => e = .returned (.bool (matchV k n a x fC fN m1 m2 m3)) ∧ Below wx.heap.size wx w' := by
    rintro k n a x v wx hn ⟨X1, X2, X3, p1, p2, p3, d1, d2, d3, rfl, h1, h2, h3⟩
    have y1 := h1.1
    have y2 := h2.1
    have y3 := h3.1
    rw [List.length_map] at y1 y2 y3
    exact lmatch_any k n a x fC fN X1 X2 X3 p1 d1 p2 d2 p3 d3 m1 m2 m3 wx hn zC zN h1 h2 h3 (by omega) (by omega) (by omega) zs1 zs2 zs3
  have hsf : ∀ (k : Int) (n a : ByteArray) (x : Int) (wx : World), n.size ≤ 140737488355328 → Below w.heap.size w wx → Calls Tryd.prog 7 #[.agg #[.int .i64 k, .string n, .string a, .int .i64 x], .agg #[.string C, .string N, .slice B1 q1 e1, .slice B2 q2 e2, .slice B3 q3 e3]] wx fun e w' => e = .returned (.bool (matchV k n a x C N l1 l2 l3)) ∧ Below wx.heap.size wx w' := by
    intro k n a x wx hn hb
    exact smatch_any k n a x C N B1 B2 B3 q1 e1 q2 e2 q3 e3 l1 l2 l3 wx hn (by omega) (by omega) ((S32.sl.below hb).more hb.size) ((S33.sl.below hb).more hb.size) ((S34.sl.below hb).more hb.size) (by have := S32.le; omega) (by have := S33.le; omega) (by have := S34.le; omega) (fun s h => by have := hs32 s h; omega) (fun s h => by have := hs33 s h; omega) (fun s h => by have := hs34 s h; omega)
  have hlf : ∀ (k : Int) (n a : ByteArray) (x : Int) (wx : World), n.size ≤ 140737488355328 → Below w.heap.size w wx → Calls Tryd.prog 9 #[.agg #[.int .i64 k, .string n, .string a, .int .i64 x], .agg #[.string C, .string N, .slice B1 q1 e1, .slice B2 q2 e2, .slice B3 q3 e3]] wx fun e w' => e = .returned (.bool (matchV k n a x C N l1 l2 l3)) ∧ Below wx.heap.size wx w' := by
    intro k n a x wx hn hb
    exact lmatch_any k n a x C N B1 B2 B3 q1 e1 q2 e2 q3 e3 l1 l2 l3 wx hn (by omega) (by omega) ((S32.sl.below hb).more hb.size) ((S33.sl.below hb).more hb.size) ((S34.sl.below hb).more hb.size) (by have := S32.le; omega) (by have := S33.le; omega) (by have := S34.le; omega) (fun s h => by have := hs32 s h; omega) (fun s h => by have := hs33 s h; omega) (fun s h => by have := hs34 s h; omega)
  obtain ⟨W1, hW1⟩ : ∃ W1, W1 = w.alloc (.cells #[.bool six, .slice cA cn cc, .slice nA nn nc, .slice A1 k1 c1, .slice A2 k2 c2, .slice A3 k3 c3] 25) := ⟨_, rfl⟩
  obtain ⟨W2, hW2⟩ : ∃ W2, W2 = W1.alloc (.cells #[.int .u8 kd, .slice rA rn rc, .bool rs, .int .u8 rb, .int .u8 ro] 27) := ⟨_, rfl⟩
  obtain ⟨W3, hW3⟩ : ∃ W3, W3 = W2.alloc (.cells #[.int .i64 tk, .string tn, .string ta, .int .i64 tx] 33) := ⟨_, rfl⟩
  obtain ⟨W0, hW0⟩ : ∃ W0, W0 = W3.alloc (.cells #[.string C, .string N, .slice B1 q1 e1, .slice B2 q2 e2, .slice B3 q3 e3] 37) := ⟨_, rfl⟩
  have s1 : W1.heap.size = w.heap.size + 1 := by rw [hW1]; simp
  have s2 : W2.heap.size = w.heap.size + 2 := by rw [hW2]; simp [s1]
  have s3 : W3.heap.size = w.heap.size + 3 := by rw [hW3]; simp [s2]
  have hq0 : Cs W0 w.heap.size [.bool six, .slice cA cn cc, .slice nA nn nc, .slice A1 k1 c1, .slice A2 k2 c2, .slice A3 k3 c3] := by rw [hW0, hW3, hW2, hW1]; exact (((Cs.new w _ _ _).alloc _).alloc _).alloc _
  have hr0 : Cs W0 (w.heap.size + 1) [.int .u8 kd, .slice rA rn rc, .bool rs, .int .u8 rb, .int .u8 ro] := by rw [hW0, hW3, hW2]; exact (((Cs.new W1 _ _ _).alloc _).alloc _).at_ _ s1
  have ht0 : Cs W0 (w.heap.size + 1 + 1) [.int .i64 tk, .string tn, .string ta, .int .i64 tx] := by rw [hW0, hW3]; exact ((Cs.new W2 _ _ _).alloc _).at_ _ s2
  have hf0 : Cs W0 (w.heap.size + 1 + 1 + 1) [.string C, .string N, .slice B1 q1 e1, .slice B2 q2 e2, .slice B3 q3 e3] := by rw [hW0]; exact (Cs.new W3 _ _ _).at_ _ s3
  have hB0 : Below w.heap.size w W0 := by
    rw [hW0, hW3, hW2, hW1]
    exact ((((Below.refl w.heap.size w).alloc (Nat.le_refl _) _).alloc (by simp) _).alloc (by simp; omega) _).alloc (by simp; omega) _
  have haw := awake19_any W0 (hL.below hB0 (Nat.le_refl _))
  rw [hW3, hW2, hW1] at hW0
  have HFA := Lib.hid hfa
  have HTR := Lib.hid htr
  have HSM := Lib.hid hsm
  have HLM := Lib.hid hlm
  have HSF := Lib.hid hsf
  have HLF := Lib.hid hlf
  have HQ0 := Lib.hid hq0
  have HR0 := Lib.hid hr0
  have HT0 := Lib.hid ht0
  have HF0 := Lib.hid hf0
  have HB0 := Lib.hid hB0
  have HAW := Lib.hid haw
  have HWE := Lib.hid hW0
  have htn' : tn.size ≤ 140737488355328 := by omega
  clear hfa htr hsm hlm hsf hlf hq0 hr0 ht0 hf0 hB0 haw hW0 hW1 hW2 hW3 s1 s2 s3 hL S01 S02 S03 S04 S05 S11 S32 S33 S34 hl01 hl02 hl03 hl04 hl05 hl11 hl32 hl33 hl34 hz01 hz02 hr03 hr04 hr05 hz11 hc01 hc02 hc03 hc04 hc05 hc11 hc32 hc33 hc34 hs32 hs33 hs34
  clear hfC hfN hm1 hm2 hm3 zC zN zm zs1 zs2 zs3 hkd hrb hro hkd2 hrb2 htk htn hta htx hC hN hcl hnl
  go_enter Tryd.func3, Tryd.ntmps3
  go_wp2_with (go_at_call 5; rw [← HWE.out]; refine HAW.out.mono ?_; rintro e w1 ⟨rfl, hb1⟩; refine Hid.out ?_)
  refine Lib.hid ?_
  have HB1 := Lib.hid (HB0.out.trans (hb1.mono HB0.out.size))
  have HQ1 := Lib.hid (HQ0.out.below hb1)
  have HR1 := Lib.hid (HR0.out.below hb1)
  have HT1 := Lib.hid (HT0.out.below hb1)
  have HF1 := Lib.hid (HF0.out.below hb1)
  clear hb1 HQ0 HR0 HT0 HF0 HB0 HAW HWE
  have y0 := HR1.out.get 0 (.int .u8 kd)
  have y1 := HR1.out.get 1 (.slice rA rn rc)
  have y2 := HR1.out.get 2 (.bool rs)
  have y3 := HR1.out.get 3 (.int .u8 rb)
  go_wp2_with (go_at_call 6; refine (HTR.out _ HB1.out).mono ?_; rintro e w2 ⟨xk, xn, xa, xb, rfl, hxn, hb2⟩; refine Hid.out ?_)
  refine Lib.hid ?_
  clear y0 y1 y2 y3 HR1 HTR
  have HB2 := Lib.hid (HB1.out.trans (hb2.mono HB1.out.size))
  have HQ2 := Lib.hid (HQ1.out.below hb2)
  have HT2 := Lib.hid (HT1.out.below hb2)
  have HF2 := Lib.hid (HF1.out.below hb2)
  clear hb2 HQ1 HT1 HF1 HB1
  go_upto_region 4 with fail
  obtain ⟨P9, hP9⟩ : ∃ P9, P9 = w2.heap.size := ⟨_, rfl⟩
  obtain ⟨W5, hW5⟩ : ∃ W5, W5 = w2.alloc (.cells #[.int .i64 xk, .string xn, .string xa, .int .i64 xb] 33) := ⟨_, rfl⟩
  have hal : Below w2.heap.size w2 W5 := by rw [hW5]; exact (Below.refl _ _).alloc (Nat.le_refl _) _
  have HX5 : Hid (Cs W5 P9 [.int .i64 xk, .string xn, .string xa, .int .i64 xb]) := Lib.hid (by rw [hW5]; exact (Cs.new w2 _ _ _).at_ _ hP9.symm)
  have HB5 := Lib.hid (HB2.out.trans (hal.mono HB2.out.size))
  have HQ5 := Lib.hid (HQ2.out.below hal)
  have HT5 := Lib.hid (HT2.out.below hal)
  have HF5 := Lib.hid (HF2.out.below hal)
  rw [← hP9, ← hW5]
  clear hal HQ2 HT2 HF2 HB2 hP9 hW5 w2
  obtain ⟨v1, hv1⟩ : ∃ b, b = matchV xk xn xa xb fC fN m1 m2 m3 := ⟨_, rfl⟩
  obtain ⟨v2, hv2⟩ : ∃ b, b = matchV tk tn ta tx C N l1 l2 l3 := ⟨_, rfl⟩
  obtain ⟨v3, hv3⟩ : ∃ b, b = matchV xk xn xa xb C N l1 l2 l3 := ⟨_, rfl⟩
  have ha1 := fun v wx h => HSM.out xk xn xa xb v wx hxn h
  have ha2 := fun v wx h => HLM.out xk xn xa xb v wx hxn h
  have ha3 := fun wx h => HSF.out tk tn ta tx wx htn' h
  have ha4 := fun wx h => HLF.out tk tn ta tx wx htn' h
  have ha5 := fun wx h => HSF.out xk xn xa xb wx hxn h
  have ha6 := fun wx h => HLF.out xk xn xa xb wx hxn h
  rw [← hv1] at ha1 ha2
  rw [← hv2] at ha3 ha4
  rw [← hv3] at ha5 ha6
  have HA1 := Lib.hid ha1
  have HA2 := Lib.hid ha2
  have HA3 := Lib.hid ha3
  have HA4 := Lib.hid ha4
  have HA5 := Lib.hid ha5
  have HA6 := Lib.hid ha6
  clear hv1 hv2 hv3 ha1 ha2 ha3 ha4 ha5 ha6 HSM HLM HSF HLF hxn htn'

  refine wp_region_goesG sr_follows (fun x => by simp [putsF, Act.put]; rfl) W5.heap.size W5
    [isV (.agg #[.int .i64 xk, .string xn, .string xa, .int .i64 xb]), isV (.agg #[.bool six, .slice cA cn cc, .slice nA nn nc, .slice A1 k1 c1, .slice A2 k2 c2, .slice A3 k3 c3]), factW fC fN m1 m2 m3, isV (.bool v1), isV (.agg #[.int .i64 xk, .string xn, .string xa, .int .i64 xb]), isV (.agg #[.bool six, .slice cA cn cc, .slice nA nn nc, .slice A1 k1 c1, .slice A2 k2 c2, .slice A3 k3 c3]), factW fC fN m1 m2 m3, isV (.bool v1), isV (.bool true), isV (.bool true), isV (.agg #[.int .i64 tk, .string tn, .string ta, .int .i64 tx]), isV (.agg #[.string C, .string N, .slice B1 q1 e1, .slice B2 q2 e2, .slice B3 q3 e3]), isV (.bool v2), isV (.agg #[.int .i64 tk, .string tn, .string ta, .int .i64 tx]), isV (.agg #[.string C, .string N, .slice B1 q1 e1, .slice B2 q2 e2, .slice B3 q3 e3]), isV (.bool v2), isV (.bool true), isV (.bool true), isV (.bool true), isV (.agg #[.int .i64 xk, .string xn, .string xa, .int .i64 xb]), isV (.agg #[.string C, .string N, .slice B1 q1 e1, .slice B2 q2 e2, .slice B3 q3 e3]), isV (.bool v3), isV (.agg #[.int .i64 xk, .string xn, .string xa, .int .i64 xb]), isV (.agg #[.string C, .string N, .slice B1 q1 e1, .slice B2 q2 e2, .slice B3 q3 e3]), isV (.bool v3), isV (.bool true), isV (.bool true), isV (.bool true)]
    (by kernel_rfl) (by kernel_rfl) (by kernel_rfl) rfl ?_ (Below.refl _ _) ?_ ?_
  · repeat (first | exact trivial | refine ⟨by first | exact isV_stays _ | exact factW_stays _ _ _ _ _, ?_⟩)
  · refine ⟨?_, ?_, ?_, ?_, ?_, ?_, ?_, ?_, ?_, ?_, ?_, ?_, ?_, ?_, ?_, ?_, ?_, ?_, ?_, ?_, ?_, ?_, ?_, ?_, ?_, ?_, ?_, ?_, trivial⟩
    all_goals
      intro x wx hR hd
      simp at hd ⊢
      try simp [hd]
    all_goals try exact fun hX => absurd (show (false : Bool) = true from hX) (by decide)
    · have hq := HX5.out.below hR
      have lq0 := hq.get 0 (.int .i64 xk)
      have lq1 := hq.get 1 (.string xn)
      have lq2 := hq.get 2 (.string xa)
      have lq3 := hq.get 3 (.int .i64 xb)
      clear hq
      go_simp
      exact next_same _ rfl rfl hR
    · have hq := HQ5.out.below hR
      have lq0 := hq.get 0 (.bool six)
      have lq1 := hq.get 1 (.slice cA cn cc)
      have lq2 := hq.get 2 (.slice nA nn nc)
      have lq3 := hq.get 3 (.slice A1 k1 c1)
      have lq4 := hq.get 4 (.slice A2 k2 c2)
      have lq5 := hq.get 5 (.slice A3 k3 c3)
      clear hq
      go_simp
      exact next_same _ rfl rfl hR
    · go_simp
      go_at_call 8
      refine (HFA.out wx (HB5.out.trans (hR.mono HB5.out.size))).mono ?_
      rintro e wy ⟨v, rfl, hfv, hby⟩
      exact next_call _ rfl hfv hR hR.size hby
    · obtain ⟨hd1, hd2⟩ := hd
      go_simp
      go_at_call 7
      refine (HA1.out _ wx hd2).mono ?_
      rintro e wy ⟨rfl, hby⟩
      exact next_call _ rfl rfl hR hR.size hby
    · have hq := HX5.out.below hR
      have lq0 := hq.get 0 (.int .i64 xk)
      have lq1 := hq.get 1 (.string xn)
      have lq2 := hq.get 2 (.string xa)
      have lq3 := hq.get 3 (.int .i64 xb)
      clear hq
      go_simp
      exact next_same _ rfl rfl hR
    · have hq := HQ5.out.below hR
      have lq0 := hq.get 0 (.bool six)
      have lq1 := hq.get 1 (.slice cA cn cc)
      have lq2 := hq.get 2 (.slice nA nn nc)
      have lq3 := hq.get 3 (.slice A1 k1 c1)
      have lq4 := hq.get 4 (.slice A2 k2 c2)
      have lq5 := hq.get 5 (.slice A3 k3 c3)
      clear hq
      go_simp
      exact next_same _ rfl rfl hR
    · go_simp
      go_at_call 8
      refine (HFA.out wx (HB5.out.trans (hR.mono HB5.out.size))).mono ?_
      rintro e wy ⟨v, rfl, hfv, hby⟩
      exact next_call _ rfl hfv hR hR.size hby
    · obtain ⟨hd1, hd2⟩ := hd
      go_simp
      go_at_call 9
      refine (HA2.out _ wx hd2).mono ?_
      rintro e wy ⟨rfl, hby⟩
      exact next_call _ rfl rfl hR hR.size hby
    · go_simp
      exact next_same _ rfl rfl hR
    · go_simp
      exact next_same _ rfl rfl hR
    · have hq := HT5.out.below hR
      have lq0 := hq.get 0 (.int .i64 tk)
      have lq1 := hq.get 1 (.string tn)
      have lq2 := hq.get 2 (.string ta)
      have lq3 := hq.get 3 (.int .i64 tx)
      clear hq
      go_simp
      exact next_same _ rfl rfl hR
    · have hq := HF5.out.below hR
      have lq0 := hq.get 0 (.string C)
      have lq1 := hq.get 1 (.string N)
      have lq2 := hq.get 2 (.slice B1 q1 e1)
      have lq3 := hq.get 3 (.slice B2 q2 e2)
      have lq4 := hq.get 4 (.slice B3 q3 e3)
      clear hq
      go_simp
      exact next_same _ rfl rfl hR
    · go_simp
      go_at_call 7
      refine (HA3.out wx (HB5.out.trans (hR.mono HB5.out.size))).mono ?_
      rintro e wy ⟨rfl, hby⟩
      exact next_call _ rfl rfl hR hR.size hby
    · have hq := HT5.out.below hR
      have lq0 := hq.get 0 (.int .i64 tk)
      have lq1 := hq.get 1 (.string tn)
      have lq2 := hq.get 2 (.string ta)
      have lq3 := hq.get 3 (.int .i64 tx)
      clear hq
      go_simp
      exact next_same _ rfl rfl hR
    · have hq := HF5.out.below hR
      have lq0 := hq.get 0 (.string C)
      have lq1 := hq.get 1 (.string N)
      have lq2 := hq.get 2 (.slice B1 q1 e1)
      have lq3 := hq.get 3 (.slice B2 q2 e2)
      have lq4 := hq.get 4 (.slice B3 q3 e3)
      clear hq
      go_simp
      exact next_same _ rfl rfl hR
    · go_simp
      go_at_call 9
      refine (HA4.out wx (HB5.out.trans (hR.mono HB5.out.size))).mono ?_
      rintro e wy ⟨rfl, hby⟩
      exact next_call _ rfl rfl hR hR.size hby
    · go_simp
      exact next_same _ rfl rfl hR
    · go_simp
      exact next_same _ rfl rfl hR
    · go_simp
      exact next_same _ rfl rfl hR
    · have hq := HX5.out.below hR
      have lq0 := hq.get 0 (.int .i64 xk)
      have lq1 := hq.get 1 (.string xn)
      have lq2 := hq.get 2 (.string xa)
      have lq3 := hq.get 3 (.int .i64 xb)
      clear hq
      go_simp
      exact next_same _ rfl rfl hR
    · have hq := HF5.out.below hR
      have lq0 := hq.get 0 (.string C)
      have lq1 := hq.get 1 (.string N)
      have lq2 := hq.get 2 (.slice B1 q1 e1)
      have lq3 := hq.get 3 (.slice B2 q2 e2)
      have lq4 := hq.get 4 (.slice B3 q3 e3)
      clear hq
      go_simp
      exact next_same _ rfl rfl hR
    · go_simp
      go_at_call 7
      refine (HA5.out wx (HB5.out.trans (hR.mono HB5.out.size))).mono ?_
      rintro e wy ⟨rfl, hby⟩
      exact next_call _ rfl rfl hR hR.size hby
    · have hq := HX5.out.below hR
      have lq0 := hq.get 0 (.int .i64 xk)
      have lq1 := hq.get 1 (.string xn)
      have lq2 := hq.get 2 (.string xa)
      have lq3 := hq.get 3 (.int .i64 xb)
      clear hq
      go_simp
      exact next_same _ rfl rfl hR
    · have hq := HF5.out.below hR
      have lq0 := hq.get 0 (.string C)
      have lq1 := hq.get 1 (.string N)
      have lq2 := hq.get 2 (.slice B1 q1 e1)
      have lq3 := hq.get 3 (.slice B2 q2 e2)
      have lq4 := hq.get 4 (.slice B3 q3 e3)
      clear hq
      go_simp
      exact next_same _ rfl rfl hR
    · go_simp
      go_at_call 9
      refine (HA6.out wx (HB5.out.trans (hR.mono HB5.out.size))).mono ?_
      rintro e wy ⟨rfl, hby⟩
      exact next_call _ rfl rfl hR hR.size hby
    · go_simp
      exact next_same _ rfl rfl hR
    · go_simp
      exact next_same _ rfl rfl hR
    · go_simp
      exact next_same _ rfl rfl hR
  intro x w7 hR hx
  simp [AllWords] at hx
  have hx27 : x 27 = .bool true := by simp [hx]
  clear hx
  rw [hx27]
  have HB7 := Lib.hid (HB5.out.trans (hR.mono HB5.out.size))
  clear hx27 hR
  go_wp2_with fail
  go_ret
  exact ⟨rfl, HB7.out⟩
end Go.Proofs.YtkdknfedieeenaaDoor
namespace Go.Proofs.YtkdknfedieeenaaDoor
open Go.RowKit Go.ChangeShapes Go.WideShapes Go.ChangeAt Go.Joins Go.Deep
variable {H : Type} {enc : TypeId × Value → H} {P : Program} {w : World} {base : Nat} {spare : Nat → Bool} {held : Bool}
theorem array6 {α : Type} {cs : Array α} (h : cs.size = 6) : ∃ c0 c1 c2 c3 c4 c5, cs = #[c0, c1, c2, c3, c4, c5] := by
  obtain ⟨l⟩ := cs
  match l, h with
  | [c0, c1, c2, c3, c4, c5], _ => exact ⟨c0, c1, c2, c3, c4, c5, rfl⟩
theorem open_agg6 {r : Reach} {b0 : Nat} {t : TypeId} {f0 f1 f2 f3 f4 f5 : Field} {v : Value} {d : DataW H} {p : List MemPlace} (hs : P.underlying t = some (.struct #[f0, f1, f2, f3, f4, f5])) (hone : oneCellFields P #[f0, f1, f2, f3, f4, f5] = true) (hC : P.cellsOf t = 6)
    (hv : Value.okWide P w r b0 t v) (h : DataW.Trod enc P w base spare held t v d p) :
    ∃ (v0 v1 v2 v3 v4 v5 : Value) (y0 y1 y2 y3 y4 y5 : DataW H × List MemPlace) (n : Nat), v = .agg #[v0, v1, v2, v3, v4, v5] ∧ d = .agg [y0.1, y1.1, y2.1, y3.1, y4.1, y5.1] ∧ p = y0.2 ++ (y1.2 ++ (y2.2 ++ (y3.2 ++ (y4.2 ++ y5.2)))) ∧
      DataW.trod enc P w base spare held n f0.type [v0] = some y0 ∧ DataW.trod enc P w base spare held n f1.type [v1] = some y1 ∧ DataW.trod enc P w base spare held n f2.type [v2] = some y2 ∧ DataW.trod enc P w base spare held n f3.type [v3] = some y3 ∧ DataW.trod enc P w base spare held n f4.type [v4] = some y4 ∧ DataW.trod enc P w base spare held n f5.type [v5] = some y5 := by
  obtain ⟨cs, rfl, hsz⟩ := okWide_struct hs hv
  obtain ⟨c0, c1, c2, c3, c4, c5, rfl⟩ := array6 (hsz.trans hC)
  obtain ⟨fuel, hf⟩ := h
  obtain ⟨xs, n, _, hx, _, hlen, hff⟩ := DataW.trod_struct hs hf
  obtain ⟨o0, k0⟩ := hone_of hone 0 f0 rfl
  obtain ⟨o1, k1⟩ := hone_of hone 1 f1 rfl
  obtain ⟨o2, k2⟩ := hone_of hone 2 f2 rfl
  obtain ⟨o3, k3⟩ := hone_of hone 3 f3 rfl
  obtain ⟨o4, k4⟩ := hone_of hone 4 f4 rfl
  obtain ⟨o5, k5⟩ := hone_of hone 5 f5 rfl
  match xs, hlen with
  | [y0, y1, y2, y3, y4, y5], _ =>
    simp only [Prod.mk.injEq] at hx
    exact ⟨c0, c1, c2, c3, c4, c5, y0, y1, y2, y3, y4, y5, n, rfl, by simpa using hx.1, by simpa using hx.2, by simpa [Value.cells, o0, k0] using hff 0 f0 rfl, by simpa [Value.cells, o1, k1] using hff 1 f1 rfl, by simpa [Value.cells, o2, k2] using hff 2 f2 rfl, by simpa [Value.cells, o3, k3] using hff 3 f3 rfl, by simpa [Value.cells, o4, k4] using hff 4 f4 rfl, by simpa [Value.cells, o5, k5] using hff 5 f5 rfl⟩
theorem field_mem {t f : TypeId} {fs : Array Field} {l : List (DataW H)} {D : DataW H} {i n : Nat} (hs : P.underlying t = some (.struct fs)) (hf : (fs.toList.map (·.type))[i]? = some f) (hD : l[i]? = some D) (hn : n ∈ D.weights P f) : n ∈ (DataW.agg l).weights P t := by
  simp only [DataW.weights, hs]
  exact DataW.weights_mem_each hf hD n hn
theorem slice_mem {t e : TypeId} {el sp : List (DataW H)} (ht : P.underlying t = some (.slice e)) : (el.length + sp.length) * P.bytesOf e ∈ (DataW.slice el sp).weights P t := by
  simp only [DataW.weights, ht]
  exact List.mem_cons_self
theorem elem_mem {t e : TypeId} {el sp : List (DataW H)} {D : DataW H} {n : Nat} (ht : P.underlying t = some (.slice e)) (hD : D ∈ el) (hn : n ∈ D.weights P e) : n ∈ (DataW.slice el sp).weights P t := by
  simp only [DataW.weights, ht, List.mem_cons, List.mem_append]
  exact .inr (.inl (weightsAll_mem hD hn))
theorem string_mem {e : TypeId} (s : ByteArray) : s.data.toList.length ∈ (DataW.lit (H := H) (.string s.data.toList)).weights P e := by simp [DataW.weights]
end Go.Proofs.YtkdknfedieeenaaDoor
