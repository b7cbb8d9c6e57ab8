/- Texts that walks stand on, one behind the other. -/
import Derived.Test.YtpbbnpglcadimaaDoorZonH
import Derived.Test.YtpbbnpglcadimaaDoorNameB
import Derived.Test.YtpbbnpglcadimaaDoorRows
import Derived.Test.YtpbbnpglcadimaaDoorBase
import Derived.IntWalk
import Derived.Deep.DeepCutAuto
import Derived.Laws.BitsAllLaws
import Derived.Outline
import Derived.BigQuiet
import Derived.OwnWalk
import Derived.Test.YtpbbnpglcadimaaDoorNameW
import Derived.Test.YtpbbnpglcadimaaDoorReg6
import Derived.Test.YtpbbnpglcadimaaDoorCs
import Derived.Test.YtpbbnpglcadimaaDoorOb
import Derived.Deep.MidRow
import Derived.Test.YtpbbnpglcadimaaDoorZonB
import Derived.Test.YtpbbnpglcadimaaDoorRecC
import Derived.Test.YtpbbnpglcadimaaDoorRecA
import Derived.Test.YtpbbnpglcadimaaDoorRecB
namespace Go.Proofs.YtpbbnpglcadimaaDoor
open Go.RowKit
set_option linter.unusedVariables false
set_option linter.unusedSimpArgs false
set_option maxRecDepth 20000
attribute [local simp] putsF isV wordOf Deps Region.binds Region.wanted Act.put wantedX isB
/-- An error of this number. -/
def errV (k : Int) : Value := .iface 36 (.int .i64 k)
set_option maxHeartbeats 1600000 in
theorem insert_old (A : Option Addr) (n c : Nat) (rs : List RecT) (r : RecT) (w : World) (h : Recs w A rs) (hl : rs.length = n) (hn : n ≤ maxLen) (hr : r ∈ rs) :
    Calls Tryd.prog 54 #[.slice A n c, recV r] w fun e w' => e = .returned (.tuple #[.slice none 0 0, errV 7]) ∧ Below w.heap.size w w' := by
  have HAS := Lib.hid (fun w h => has_any A n c rs r w h hl hn)
  rw [(hasB_iff _ _).2 hr] at HAS
  have HH := Lib.hid h
  unfold recV errV at *
  clear h hl hn hr
  go_enter Tryd.func54, Tryd.ntmps54
  go_wp2_with fail
  refine (HAS.out _ (HH.out.below ((Below.refl _ _).alloc (Nat.le_refl _) _))).mono ?_
  rintro e w1 ⟨rfl, hb⟩
  have HB := Lib.hid (below_alloc _ (Below.refl _ _) (Nat.le_refl _) hb)
  clear hb
  go_wp2_with fail
  exact bodyPost_ret (v := .tuple #[.slice none 0 0, .iface 36 (.int .i64 7)]) (by simp [results, Tryd.results54, go_sem]) rfl ⟨rfl, HB.out⟩
/-- So many rows that are some records, one behind the other. -/
def joinN (m : Nat) (L : List RecT) : Value → World → Prop := fun v w => ∃ g, v = .slice (some ⟨g, 0, none⟩) m m ∧ ∃ rows : List RowR, Sl w w.heap.size 1 (some ⟨g, 0, none⟩) m (rows.map rowRV) ∧ (∀ r ∈ rows, RowROk w r) ∧ allR rows = L
theorem joinN_stays (m : Nat) (L : List RecT) : ∀ v w w', joinN m L v w → Goes w w' → joinN m L v w' := by
  rintro v w w' ⟨g, rfl, rows, hS, hok, hL⟩ hb
  exact ⟨g, rfl, rows, (hS.below hb).more hb.size, fun r hr => (hok r hr).below hb, hL⟩
set_option maxHeartbeats 3200000 in
theorem delete_none (A : Option Addr) (n c : Nat) (rs : List RecT) (r : RecT) (w : World) (h : Recs w A rs) (hl : rs.length = n) (hn : n ≤ maxLen) (hr : r ∉ rs) :
    Calls Tryd.prog 53 #[.slice A n c, recV r] w fun e w' => e = .returned (.tuple #[.slice none 0 0, errV 6]) ∧ Below w.heap.size w w' := by
  have IX := Lib.hid (fun w h => index_any A n c rs r w h hl hn)
  have HH := Lib.hid h
  unfold recV errV at *
  clear h hl hn
  go_enter Tryd.func53, Tryd.ntmps53
  go_wp2_with fail
  refine (IX.out _ (HH.out.below ((Below.refl _ _).alloc (Nat.le_refl _) _))).mono ?_
  rintro e w1 ⟨i, rfl, hi, hb⟩
  rcases hi with ⟨rfl, -⟩ | ⟨k, rfl, hk, -⟩
  · have HB := Lib.hid (below_alloc _ (Below.refl _ _) (Nat.le_refl _) hb)
    clear hb hr
    go_wp2_with fail
    exact bodyPost_ret (v := .tuple #[.slice none 0 0, .iface 36 (.int .i64 6)]) (by simp [results, Tryd.results53, go_sem]) rfl ⟨rfl, HB.out⟩
  · exact absurd (List.mem_of_getElem? hk) hr
set_option maxHeartbeats 3200000 in
theorem delete_some (A : Option Addr) (n c : Nat) (rs : List RecT) (r : RecT) (w : World) (h : RowROk w (A, n, c, rs)) (hnc : n ≤ c) (hn : n ≤ 100000) (hr : r ∈ rs) (hri : Rising rs) :
    Calls Tryd.prog 53 #[.slice A n c, recV r] w fun e w' => ∃ v, e = .returned (.tuple #[v, .nilIface]) ∧ OBM 4 w.heap.size w v (lessR rs r).length (flatR (lessR rs r)) w' := by
  have hl : rs.length = n := h.len
  obtain ⟨NL, hNL⟩ : ∃ NL, (lessR rs r).length = NL := ⟨_, rfl⟩
  rw [hNL]
  have HNL := Lib.hid hNL
  clear hNL
  have IX := Lib.hid (fun w h => index_any A n c rs r w h hl (by unfold maxLen; omega))
  have HH := Lib.hid h
  have HRI := Lib.hid hri
  have HRR := Lib.hid hr
  have HL := Lib.hid hl
  unfold recV at IX ⊢
  clear h hri hr hl
  go_enter Tryd.func53, Tryd.ntmps53
  go_wp2_with fail
  refine (IX.out _ ((HH.out.sl.recs (Nat.le_refl _) HL.out).below ((Below.refl _ _).alloc (Nat.le_refl _) _))).mono ?_
  rintro e w1 ⟨i, rfl, hi, hb⟩
  rcases hi with ⟨rfl, hno⟩ | ⟨k, rfl, hk, hkn⟩
  · exact absurd HRR.out hno
  · have hkl : k < n := by have := (List.getElem?_eq_some_iff.1 hk).1; have := HL.out; omega
    have hb' := below_alloc _ (Below.refl _ _) (Nat.le_refl _) hb
    have HB := Lib.hid hb'
    have HRX := Lib.hid (HH.out.below hb')
    have HI := Lib.hid (lessR_at HRI.out hk hkn)
    have hlen : (lessR rs r).length ≤ 100000 := by
      unfold lessR
      have := List.length_filter_le (fun x => !eqB x r) rs
      have := HL.out
      omega
    have HLE := Lib.hid hlen
    obtain ⟨b, off, he, -, -⟩ := HRX.out.sl.2 (by dsimp only; omega)
    dsimp only at he
    subst he
    obtain ⟨A7, hA7⟩ : ∃ A7 : Option Addr, (if c = k + 1 then some ⟨b, off, none⟩ else some ⟨b, off + (k + 1) * 4, none⟩) = A7 := ⟨_, rfl⟩
    have HR7 : Hid (∀ wy, Below w1.heap.size w1 wy → RowROk wy (A7, n - (k + 1), c - (k + 1), rs.drop (k + 1))) := Lib.hid (fun wy hb => by
      rw [← hA7]
      by_cases hck : c = k + 1
      · rw [if_pos hck, List.drop_eq_nil_of_le (by have := HL.out; omega), show n - (k + 1) = 0 by omega]
        exact RowROk.nothing _ _ _
      · rw [if_neg hck]
        exact (HRX.out.below hb).drop (k + 1) (by omega) _)
    have hkc : k ≤ c := by omega
    have hkci : (k : Int) ≤ c := by omega
    have hk1c : k + 1 ≤ c := by omega
    have hk1ci : (k : Int) + 1 ≤ c := by omega
    have hk1n : (k : Int) + 1 ≤ n := by omega
    have hnci : (n : Int) ≤ c := by omega
    have hkneg : ¬ (k : Int) < 0 := by omega
    have htn : ((k : Int) + 1).toNat = k + 1 := by omega
    have hk0 : (0 : Int) ≤ (k : Int) + 1 := by omega
    clear hb hb' hk hkn hlen
    go_upto_region 4 with fail
    refine wp_region_goesG data_follows (fun x => by simp [putsF, Act.put]; rfl) w1.heap.size w1
      [isV (.slice (some ⟨b, off, none⟩) n c), isV (.int .i64 (k : Nat)), isV (.slice (some ⟨b, off, none⟩) k c), isV (.slice (some ⟨b, off, none⟩) n c), isV (.int .i64 (k : Nat)), isV (.int .i64 ((k : Int) + 1)), isV (.slice A7 (n - (k + 1)) (c - (k + 1))), joinN 2 (lessR rs r), ownW 4 w1.heap.size w1 NL (flatR (lessR rs r)), ownW 4 w1.heap.size w1 NL (flatR (lessR rs r)), isV .nilIface]
      (by kernel_rfl) (by kernel_rfl) (by kernel_rfl) rfl ?_ (Below.refl _ _) ?_ ?_
    · repeat (first | exact trivial | refine ⟨by first | exact isV_stays _ | exact joinN_stays _ _ | exact ownW_stays _ _ _ _ _, ?_⟩)
    · refine ⟨?_, ?_, ?_, ?_, ?_, ?_, ?_, ?_, ?_, ?_, ?_, trivial⟩
      all_goals
        intro y wy hR hd
        refine ⟨fun _ => ?_, fun hX => by simp at hX⟩
        simp at hd ⊢
      · go_simp; exact next_same _ rfl rfl hR
      · go_simp; exact next_same _ rfl rfl hR
      · obtain ⟨hd0, hd1⟩ := hd; go_simp; exact next_same _ rfl rfl hR
      · go_simp; exact next_same _ rfl rfl hR
      · go_simp; exact next_same _ rfl rfl hR
      · have hwr : IntKind.i64.wrap ((k : Int) + 1) = (k : Int) + 1 := by rw [IntKind.wrap_i64]; omega
        go_simp; exact next_same _ rfl rfl hR
      · obtain ⟨hd0, hd1⟩ := hd; go_simp; exact next_same _ rfl rfl hR
      · obtain ⟨hd0, hd1⟩ := hd
        go_simp
        refine next_alloc _ _ rfl ⟨_, rfl, [(some ⟨b, off, none⟩, k, c, rs.take k), (A7, n - (k + 1), c - (k + 1), rs.drop (k + 1))], Sl.fresh _ _ _ 2 _ rfl rfl, ?_, ?_⟩ hR hR.size
        · intro p hp
          simp at hp
          have hb' : Below wy.heap.size wy (wy.alloc (.cells #[.slice (some ⟨b, off, none⟩) k c, .slice A7 (n - (k + 1)) (c - (k + 1))] 49)) := (Below.refl _ _).alloc (Nat.le_refl _) _
          rcases hp with rfl | rfl
          · exact (((HRX.out.below hR).take k (by omega) c).below hb')
          · exact (HR7.out _ hR).below hb'
        · show rs.take k ++ (rs.drop (k + 1) ++ []) = lessR rs r
          rw [← HI.out]; simp
      · obtain ⟨g8, hx8, rows, hS, hok, hall⟩ := hd
        rw [hx8]
        go_simp
        go_at_call 71
        refine (concat_any _ 2 2 rows wy hS (by decide) hok (by rw [hall]; have := HLE.out; omega)).mono ?_
        rintro e w2 ⟨v, rfl, ho⟩
        rw [hall, HNL.out] at ho
        exact next_call _ rfl (ho.out hR.size hR) hR hR.size ho.bel
      · have hd9 : ownW 4 w1.heap.size w1 NL (flatR (lessR rs r)) (y 8) wy := by first | exact hd | exact hd.1
        go_simp; exact next_same _ rfl hd9 hR
      · go_simp; exact next_same _ rfl rfl hR
    · intro y wy hR hy
      obtain ⟨-, -, -, -, -, -, -, -, -, ho, h11, -⟩ := hy
      have h11 : y 10 = .nilIface := h11
      unfold ownW at ho
      obtain ⟨AF, cF, hF, -, -, -⟩ := ho.slice
      have HF := Lib.hid (ho.out HB.out.size HB.out)
      rw [hF] at HF
      rw [hF, h11]
      clear ho hF h11 hR
      go_wp2_with fail
      refine bodyPost_ret (v := .tuple #[.slice AF NL cF, .nilIface]) (by simp [results, Tryd.results53, go_sem]) rfl ⟨_, rfl, HF.out⟩
end Go.Proofs.YtpbbnpglcadimaaDoor
namespace Go.Proofs.YtpbbnpglcadimaaDoor
open Go.RowKit
set_option linter.unusedVariables false

/-- The bytes are a name's. -/
def mayL (l : List UInt8) : Prop := (nameLabels l).isSome = true
/-- A name, a byte 0, and what stands behind it. -/
def IsCut (l n t : List UInt8) : Prop := mayL n ∧ l = n ++ 0 :: t
theorem mayL_wire {n : List UInt8} (h : mayL n) : ∃ ls, n = wire ls ∧ (∀ x ∈ ls, okLabel x = true) ∧ n.length ≤ 254 := by
  unfold mayL at h
  obtain ⟨ls, hl⟩ := Option.isSome_iff_exists.1 h
  have := (nameLabels_iff _ _).1 hl
  exact ⟨ls, this.2.1, this.2.2, this.1⟩
/-- A place at which labels begin, or the name ends, if the bytes begin with one. -/
def At (l : List UInt8) (p : Nat) : Prop := ∀ ls t, (∀ x ∈ ls, okLabel x = true) → l = wire ls ++ 0 :: t → ∃ k, k ≤ ls.length ∧ p = (wire (ls.take k)).length
theorem At.start (l : List UInt8) : At l 0 := fun ls t _ _ => ⟨0, Nat.zero_le _, by simp [wire]⟩
theorem at_head {l : List UInt8} {ls : List (List UInt8)} {t : List UInt8} (hl : l = wire ls ++ 0 :: t) (k : Nat) (hk : k ≤ ls.length) {p : Nat} (hp : p = (wire (ls.take k)).length) :
    l[p]? = (wire (ls.drop k) ++ 0 :: t)[0]? := by
  have h1 : l = wire (ls.take k) ++ (wire (ls.drop k) ++ 0 :: t) := by
    rw [← List.append_assoc, ← wire_append, List.take_append_drop]; exact hl
  rw [h1, hp, List.getElem?_append_right (Nat.le_refl _), Nat.sub_self]
theorem okLabel_len {x : List UInt8} (h : okLabel x = true) : 1 ≤ x.length ∧ x.length ≤ 63 := by
  simp only [okLabel, Bool.and_eq_true, decide_eq_true_eq] at h
  exact h.1
theorem ofNat_small (n : Nat) (h : n < 256) : (UInt8.ofNat n).toNat = n := by simp; omega
theorem at_more {l : List UInt8} {ls : List (List UInt8)} {t : List UInt8} (hok : ∀ x ∈ ls, okLabel x = true) (hl : l = wire ls ++ 0 :: t) (k : Nat) (hk : k ≤ ls.length) {p : Nat} (hp : p = (wire (ls.take k)).length) (c : UInt8) (hc : l[p]? = some c) :
    (k = ls.length ∧ c = 0) ∨ ∃ x, ls[k]? = some x ∧ c.toNat = x.length ∧ 1 ≤ x.length := by
  rw [at_head hl k hk hp] at hc
  rcases Nat.lt_or_ge k ls.length with h | h
  · right
    refine ⟨ls[k], List.getElem?_eq_getElem h, ?_⟩
    rw [List.drop_eq_getElem_cons h, wire_cons] at hc
    simp only [List.cons_append, List.getElem?_cons_zero, Option.some.injEq] at hc
    have h2 := okLabel_len (hok _ (List.getElem_mem h))
    rw [← hc, ofNat_small _ (by omega)]
    exact ⟨rfl, h2.1⟩
  · left
    rw [List.drop_eq_nil_of_le h] at hc
    simp [wire] at hc
    exact ⟨by omega, hc.symm⟩
theorem At.next {l : List UInt8} {p : Nat} (h : At l p) (c : UInt8) (hc : l[p]? = some c) (h0 : c ≠ 0) : At l (p + 1 + c.toNat) := by
  intro ls t hok hl
  obtain ⟨k, hk, hp⟩ := h ls t hok hl
  rcases at_more hok hl k hk hp c hc with ⟨_, h1⟩ | ⟨x, hx, hcx, _⟩
  · exact absurd h1 h0
  · have hlt := (List.getElem?_eq_some_iff.1 hx).1
    refine ⟨k + 1, by omega, ?_⟩
    have hx2 : ls[k] = x := (List.getElem?_eq_some_iff.1 hx).2
    rw [List.take_succ_eq_append_getElem hlt, wire_append, hx2, List.length_append, ← hp, hcx]
    simp [wire]; omega
theorem At.stop {l : List UInt8} {p : Nat} (h : At l p) (hc : l[p]? = some 0) (n t : List UInt8) (hn : IsCut l n t) : n = l.take p ∧ t = l.drop (p + 1) := by
  obtain ⟨ls, rfl, hok, _⟩ := mayL_wire hn.1
  obtain ⟨k, hk, hp⟩ := h ls t hok hn.2
  rcases at_more hok hn.2 k hk hp 0 hc with ⟨h1, _⟩ | ⟨x, hx, hcx, h1⟩
  · have h2 : ls.take k = ls := by rw [h1, List.take_length]
    rw [h2] at hp
    rw [hn.2, hp]
    constructor
    · simp
    · rw [List.drop_append, List.drop_eq_nil_of_le (by omega)]; simp
  · simp at hcx; omega
theorem At.over {l : List UInt8} {p : Nat} (h : At l p) (hp : l.length ≤ p) (n t : List UInt8) (hn : IsCut l n t) : False := by
  obtain ⟨ls, rfl, hok, _⟩ := mayL_wire hn.1
  obtain ⟨k, hk, hpk⟩ := h ls t hok hn.2
  have h1 : (wire ls).length = (wire (ls.take k)).length + (wire (ls.drop k)).length := by rw [← List.length_append, ← wire_append, List.take_append_drop]
  have h2 : l.length = (wire ls).length + (t.length + 1) := by rw [hn.2]; simp
  omega
theorem cut_here {l : List UInt8} {p : Nat} (hc : l[p]? = some 0) (hm : mayL (l.take p)) : IsCut l (l.take p) (l.drop (p + 1)) := by
  refine ⟨hm, ?_⟩
  obtain ⟨hp, hz⟩ := List.getElem?_eq_some_iff.1 hc
  conv => lhs; rw [← List.take_append_drop p l, List.drop_eq_getElem_cons hp, hz]
theorem At.one {l n t n' t' : List UInt8} (h : IsCut l n t) (h' : IsCut l n' t') : n = n' ∧ t = t' := by
  obtain ⟨ls, rfl, hok, _⟩ := mayL_wire h.1
  obtain ⟨ls', rfl, hok', _⟩ := mayL_wire h'.1
  suffices ∀ (a b : List (List UInt8)), (∀ x ∈ a, okLabel x = true) → (∀ x ∈ b, okLabel x = true) → wire a ++ 0 :: t = wire b ++ 0 :: t' → wire a = wire b ∧ t = t' from this _ _ hok hok' (h.2.symm.trans h'.2)
  intro a
  induction a with
  | nil =>
    intro b _ hb he
    cases b with
    | nil => simp [wire] at he; exact ⟨rfl, he⟩
    | cons y b =>
      have h1 := okLabel_len (hb y (by simp))
      rw [wire_cons] at he
      simp [wire] at he
      have h2 := congrArg UInt8.toNat he.1
      simp at h2; omega
  | cons x a ih =>
    intro b ha hb he
    have h1 := okLabel_len (ha x (by simp))
    cases b with
    | nil =>
      rw [wire_cons] at he
      simp [wire] at he
      have h2 := congrArg UInt8.toNat he.1
      simp at h2; omega
    | cons y b =>
      have h2 := okLabel_len (hb y (by simp))
      rw [wire_cons, wire_cons] at he
      simp only [List.cons_append, List.cons.injEq, List.append_assoc] at he
      have h3 := congrArg UInt8.toNat he.1
      rw [ofNat_small _ (by omega), ofNat_small _ (by omega)] at h3
      have h4 := List.append_inj he.2 h3
      obtain ⟨h5, h6⟩ := ih b (fun z hz => ha z (by simp [hz])) (fun z hz => hb z (by simp [hz])) h4.2
      rw [wire_cons, wire_cons, h5, h4.1]
      exact ⟨rfl, h6⟩
/-- The data of an SOA: two names, and twenty bytes. -/
def IsSoa (l a b t : List UInt8) : Prop := IsCut l a (b ++ 0 :: t) ∧ mayL b ∧ t.length = 20
theorem IsSoa.one {l a b t a' b' t' : List UInt8} (h : IsSoa l a b t) (h' : IsSoa l a' b' t') : a = a' ∧ b = b' ∧ t = t' := by
  obtain ⟨h1, h2⟩ := At.one h.1 h'.1
  obtain ⟨h3, h4⟩ := At.one (l := b ++ 0 :: t) ⟨h.2.1, rfl⟩ ⟨h'.2.1, h2⟩
  exact ⟨h1, h3, h4⟩
end Go.Proofs.YtpbbnpglcadimaaDoor
namespace Go.Proofs.YtpbbnpglcadimaaDoor
open Go.RowKit
set_option linter.unusedVariables false

/-- A number of two bytes as bytes, the high one first. -/
def b16 (n : Nat) : List UInt8 := [UInt8.ofNat (n / 256), UInt8.ofNat (n % 256)]
def b32 (n : Nat) : List UInt8 := [UInt8.ofNat (n / 16777216), UInt8.ofNat (n / 65536 % 256), UInt8.ofNat (n / 256 % 256), UInt8.ofNat (n % 256)]
def v16 (n : Nat) : Value := .int .u16 (n : Int)
def v32 (n : Nat) : Value := .int .u32 (n : Int)

theorem bv_ofNat (n : Nat) (h : n < 256) : bv (UInt8.ofNat n) = .int .u8 (n : Int) := by
  unfold bv
  rw [UInt8.toNat_ofNat_of_lt' (by simpa using h)]
theorem b16_vals (n : Nat) (h : n < 65536) : (b16 n).map bv = [.int .u8 ((n : Int) / 256), .int .u8 ((n : Int) % 256)] := by
  simp only [b16, List.map_cons, List.map_nil]
  rw [bv_ofNat _ (by omega), bv_ofNat _ (by omega)]
  simp
theorem b32_vals (n : Nat) (h : n < 4294967296) : (b32 n).map bv = [.int .u8 ((n : Int) / 16777216), .int .u8 ((n : Int) / 65536 % 256), .int .u8 ((n : Int) / 256 % 256), .int .u8 ((n : Int) % 256)] := by
  simp only [b32, List.map_cons, List.map_nil]
  rw [bv_ofNat _ (by omega), bv_ofNat _ (by omega), bv_ofNat _ (by omega), bv_ofNat _ (by omega)]
  simp

theorem num_info : (Tryd.prog.info? 5).map (fun i => (i.zero, i.size, i.bytes)) = some (some (.int .u8 0), 1, 1) := by kernel_rfl

set_option maxHeartbeats 400000 in
theorem put32_any (A : Option Addr) (n c : Nat) (l : List UInt8) (D : Option Addr) (m d : Nat) (ns : List Nat) (w : World) (hA : Sl w w.heap.size 1 A n (l.map bv)) (hA0 : A = none → n = 0 ∧ c = 0)
    (hD : Sl w w.heap.size 1 D m (ns.map v32)) (hns : ∀ x ∈ ns, x < 4294967296) (hsz : n + 4 * m ≤ 281474976710656) :
    Calls Tryd.prog 35 #[.slice A n c, .slice D m d] w fun e w' => ∃ g, e = .returned (.slice (some ⟨g, 0, none⟩) (n + 4 * m) (n + 4 * m)) ∧
      w'.ownsRow w.heap.size 5 1 (.slice (some ⟨g, 0, none⟩) (n + 4 * m) (n + 4 * m)) (n + 4 * m) ((l ++ ns.flatMap b32).map bv) ∧ Below w.heap.size w w' := by
  obtain ⟨i0, hi, hz0, hz1, hz2⟩ := info_parts num_info
  have hm : (m : Int) ≤ 281474976710656 := by omega
  have hn : (n : Int) ≤ 281474976710656 := by omega
  go_enter Tryd.func35, Tryd.ntmps35
  go_wp2_with (first
    | (at_make; refine wpList_make_own _ rfl _ _ 64 rfl w.heap.size 5 i0 (.int .u8 0) 1 Tryd.underlying64 hi hz0 hz1 _ _ _ (n + 4 * m) rfl rfl (by omega) (by rw [hz2]; omega) (by unfold maxLen; omega) (by simp) ?_; intro w1 hown1 hg1)
    | (at_builtin; refine wpList_append_fits_any _ rfl (.tmp 15) (.tmp 16) 64 rfl w.heap.size 5 i0 1 Tryd.underlying64 hi hz1 _ 0 (n + 4 * m) [] rfl hown1 A n c (l.map bv) rfl (by simpa using hA.1) hA0 ?hc (one_bytes l) (by omega) ?_; rotate_right; intro w2 hown2 hg2; simp only [Nat.zero_add, List.nil_append] at hown2))
  case hc => exact (hA.below (below_grown_none (Below.refl _ _) hg1 (Nat.le_refl _))).cells_at
  have hb2 : Below w.heap.size w w2 := below_grown (below_grown_none (Below.refl _ _) hg1 (Nat.le_refl _)) hg2 hg1.size (Nat.le_refl _)
  clear hown1 hg1 hg2
  go_loopw [5, 20] (fun v i wr => ∃ k : Nat, k ≤ m ∧ i = .int .i64 k ∧ v = .slice (some ⟨w.heap.size, 0, none⟩) (n + 4 * k) (n + 4 * m) ∧
      wr.ownsRow w.heap.size 5 1 (.slice (some ⟨w.heap.size, 0, none⟩) (n + 4 * k) (n + 4 * m)) (n + 4 * k) ((l ++ (ns.take k).flatMap b32).map bv) ∧ Below w.heap.size w wr)
    (fun _ i _ => m - (intOf i).toNat)
  case atStart => exact ⟨0, Nat.zero_le _, rfl, rfl, by simpa using hown2, hb2⟩
  case round =>
    obtain ⟨k, hk, rfl, rfl, hown, hbel⟩ := hrel
    by_cases hlt : k < m
    · obtain ⟨b, off, u, rfl, hb, hu, hc⟩ := hD.at_ hlt
      have hkl : k < ns.length := by have := hD.1; simp at this; omega
      obtain ⟨y, hy⟩ : ∃ y, y = ns[k] := ⟨_, rfl⟩
      have hyb : y < 4294967296 := by rw [hy]; exact hns _ (List.getElem_mem hkl)
      have hcell : wr.cell? ⟨b, off + k, none⟩ = some (.int .u32 (y : Int)) := by
        rw [hbel.cell hb, hc]
        simp only [List.getElem?_map, List.getElem?_eq_getElem hkl, Option.map_some, Option.some.injEq] at hu
        rw [← hu, hy]; rfl
      have htake : (ns.take (k + 1)).flatMap b32 = (ns.take k).flatMap b32 ++ b32 y := by
        rw [List.take_succ_eq_append_getElem hkl, List.flatMap_append, hy]; simp
      have hv := b32_vals y hyb
      have HT := Lib.hid htake
      have HV := Lib.hid hv
      clear hc hu hy htake hv
      have hy0 : (y : Int) < 4294967296 := by omega
      go_wp2_with (first
        | (at_builtin; refine wpList_append_fits _ rfl (.tmp 24) (.tmp 36) 64 rfl w.heap.size 5 i0 1 Tryd.underlying64 hi hz1 _ (n + 4 * k) (n + 4 * m) _ rfl (hown.alloc _) _ 4 4 ((b32 y).map bv) rfl rfl ?c1 (one_bytes _) (by omega) ?_))
      case c1 => rw [HV.out]; exact news_at _ _ _
      intro w3 hown3 hg3
      have hb3 : Below w.heap.size w w3 := below_grown (hbel.alloc hbel.size _) hg3 (by have := hbel.size; simp; omega) (Nat.le_refl _)
      have hown4 : w3.ownsRow w.heap.size 5 1 (.slice (some ⟨w.heap.size, 0, none⟩) (n + 4 * (k + 1)) (n + 4 * m)) (n + 4 * (k + 1)) ((l ++ (ns.take (k + 1)).flatMap b32).map bv) := by
        rw [HT.out]
        simpa [Nat.mul_add, Nat.add_assoc] using hown3
      clear hown3 hg3 hown hbel hcell
      go_wp2
      go_roundw
      case rel => exact ⟨k + 1, by omega, by go_num, rfl, hown4, hb3⟩
      case measure => simp [intOf]; omega
    · obtain rfl : k = m := by omega
      have hl : ns.length = k := by simpa using hD.1
      go_wp2
      go_ret
      exact ⟨_, rfl, by rw [← hl, List.take_length] at hown; rw [← hl]; exact hown, hbel⟩
theorem within_yes (s : ByteArray) (a k : Int) (w : World) (hs : s.size ≤ maxLen) (h0 : 0 ≤ a) (hk : 0 ≤ k) (hk8 : k ≤ 8) (h1 : a + k ≤ s.size) :
    Calls Tryd.prog 92 #[.string s, .int .i64 a, .int .i64 k] w fun e w' => e = .returned (.bool true) ∧ w = w' := by
  unfold maxLen at hs
  have h2 : a ≤ (s.size : Int) - k := by omega
  go_enter Tryd.func92, Tryd.ntmps92
  go_wp2
  go_ret
  exact ⟨rfl, rfl⟩
theorem within_no (s : ByteArray) (a k : Int) (w : World) (hs : s.size ≤ maxLen) (hk : 0 ≤ k) (hk8 : k ≤ 8) (h1 : a < 0 ∨ (s.size : Int) - k < a) :
    Calls Tryd.prog 92 #[.string s, .int .i64 a, .int .i64 k] w fun e w' => e = .returned (.bool false) ∧ w = w' := by
  unfold maxLen at hs
  by_cases h : a < 0
  · have h' : ¬ 0 ≤ a := by omega
    clear h1
    go_enter Tryd.func92, Tryd.ntmps92
    go_wp2
    go_ret
    exact ⟨rfl, rfl⟩
  · have h2 : ¬ a ≤ (s.size : Int) - k := by omega
    have h3 : 0 ≤ a := by omega
    clear h1 h
    go_enter Tryd.func92, Tryd.ntmps92
    go_wp2
    go_ret
    exact ⟨rfl, rfl⟩
/-- The number of two, of four bytes at a place. -/
def at8 (s : ByteArray) (a : Nat) : Nat := (s.data.toList.getD a 0).toNat
def n16 (s : ByteArray) (a : Nat) : Nat := at8 s a * 256 + at8 s (a + 1)
def n32 (s : ByteArray) (a : Nat) : Nat := at8 s a * 16777216 + at8 s (a + 1) * 65536 + at8 s (a + 2) * 256 + at8 s (a + 3)
theorem at8_eq (s : ByteArray) (a : Nat) (h : a < s.size) : at8 s a = s[a].toNat := by
  unfold at8
  have : a < s.data.toList.length := by simpa using h
  rw [List.getD_eq_getElem?_getD, List.getElem?_eq_getElem this]
  rfl
theorem at8_lt (s : ByteArray) (a : Nat) : at8 s a < 256 := UInt8.toNat_lt _
theorem or16 (x y : Nat) (hx : x < 256) (hy : y < 256) : bits .or .u16 (IntKind.u16.wrap (IntKind.u16.wrap (x : Int) * 256)) (IntKind.u16.wrap (y : Int)) = ((x * 256 + y : Nat) : Int) := by
  rw [IntKind.wrap_u16, IntKind.wrap_u16, IntKind.wrap_u16]
  rw [show (x : Int) % 65536 * 256 % 65536 = ((x * 256 : Nat) : Int) by omega, show (y : Int) % 65536 = (y : Int) by omega, u16_or_nat _ _ (by omega) (by omega), nat_join 8 _ _ (by omega) hy]
theorem or32 (x y z u : Nat) (hx : x < 256) (hy : y < 256) (hz : z < 256) (hu : u < 256) :
    bits .or .u32 (bits .or .u32 (bits .or .u32 (IntKind.u32.wrap (IntKind.u32.wrap (x : Int) * 16777216)) (IntKind.u32.wrap (IntKind.u32.wrap (y : Int) * 65536))) (IntKind.u32.wrap (IntKind.u32.wrap (z : Int) * 256))) (IntKind.u32.wrap (u : Int)) = ((x * 16777216 + y * 65536 + z * 256 + u : Nat) : Int) := by
  simp only [IntKind.wrap_u32']
  rw [show (x : Int) % 4294967296 * 16777216 % 4294967296 = ((x * 16777216 : Nat) : Int) by omega, show (y : Int) % 4294967296 * 65536 % 4294967296 = ((y * 65536 : Nat) : Int) by omega,
    show (z : Int) % 4294967296 * 256 % 4294967296 = ((z * 256 : Nat) : Int) by omega, show (u : Int) % 4294967296 = (u : Int) by omega,
    u32_or_nat _ _ (by omega) (by omega), nat_join 24 _ _ (by omega) (by omega), u32_or_nat _ _ (by omega) (by omega), nat_join 16 _ _ (by omega) (by omega), u32_or_nat _ _ (by omega) (by omega), nat_join 8 _ _ (by omega) (by omega)]
theorem get32_yes (s : ByteArray) (a : Nat) (w : World) (hs : s.size ≤ maxLen) (h1 : a + 4 ≤ s.size) :
    Calls Tryd.prog 87 #[.string s, .int .i64 a] w fun e w' => e = .returned (.tuple #[.int .u32 (n32 s a), .bool true]) ∧ ∃ n, w.drewN n = w' := by
  have hs' := hs
  unfold maxLen at hs
  have ha : (a : Int) < s.size := by omega
  have ha1 : (a : Int) + 1 < s.size := by omega
  have ha2 : (a : Int) + 2 < s.size := by omega
  have ha3 : (a : Int) + 3 < s.size := by omega
  have hn : ((n32 s a : Nat) : Int) = bits .or .u32 (bits .or .u32 (bits .or .u32 (IntKind.u32.wrap (IntKind.u32.wrap (s[a].toNat : Int) * 16777216)) (IntKind.u32.wrap (IntKind.u32.wrap (s[a + 1].toNat : Int) * 65536))) (IntKind.u32.wrap (IntKind.u32.wrap (s[a + 2].toNat : Int) * 256))) (IntKind.u32.wrap (s[a + 3].toNat : Int)) := by
    rw [n32, at8_eq s a (by omega), at8_eq s (a + 1) (by omega), at8_eq s (a + 2) (by omega), at8_eq s (a + 3) (by omega), or32 _ _ _ _ (UInt8.toNat_lt _) (UInt8.toNat_lt _) (UInt8.toNat_lt _) (UInt8.toNat_lt _)]
  rw [hn]
  have e1 : IntKind.i64.wrap ((a : Int) + 1) = (a : Int) + 1 := IntWalk.i64_in _ (by omega)
  have e2 : ((a : Int) + 1).toNat = a + 1 := by omega
  have e3 : (0 : Int) ≤ (a : Int) + 1 := by omega
  have e4 : IntKind.i64.wrap ((a : Int) + 2) = (a : Int) + 2 := IntWalk.i64_in _ (by omega)
  have e5 : ((a : Int) + 2).toNat = a + 2 := by omega
  have e6 : (0 : Int) ≤ (a : Int) + 2 := by omega
  have e7 : IntKind.i64.wrap ((a : Int) + 3) = (a : Int) + 3 := IntWalk.i64_in _ (by omega)
  have e8 : ((a : Int) + 3).toNat = a + 3 := by omega
  have e9 : (0 : Int) ≤ (a : Int) + 3 := by omega
  clear hn
  go_enter Tryd.func87, Tryd.ntmps87
  go_wp2_with (go_at_call 92; refine (within_yes _ _ _ _ hs' (by omega) (by omega) (by omega) (by omega)).mono ?_; rintro e w' ⟨rfl, rfl⟩)
  go_quiet (fail)
  go_wp2
  go_ret2
  exact ⟨rfl, _, rfl⟩
theorem get32_no (s : ByteArray) (a : Int) (w : World) (hs : s.size ≤ maxLen) (h1 : a < 0 ∨ (s.size : Int) < a + 4) :
    Calls Tryd.prog 87 #[.string s, .int .i64 a] w fun e w' => e = .returned (.tuple #[.int .u32 0, .bool false]) ∧ w = w' := by
  go_enter Tryd.func87, Tryd.ntmps87
  go_wp2_with (go_at_call 92; refine (within_no _ _ _ _ hs (by omega) (by omega) (by omega)).mono ?_; rintro e w' ⟨rfl, rfl⟩)
  go_ret2
  exact ⟨rfl, rfl⟩
end Go.Proofs.YtpbbnpglcadimaaDoor
namespace Go.Proofs.YtpbbnpglcadimaaDoor
open Go.RowKit
set_option linter.unusedVariables false
set_option maxRecDepth 20000

theorem sv_append (s t : ByteArray) : Value.string (s ++ t) = sv (s.data.toList ++ t.data.toList) := by
  unfold sv; congr 1
theorem mk_toList (l : List UInt8) : (ByteArray.mk l.toArray).data.toList = l := by simp
theorem may_mayL (s : ByteArray) : (labelsOf s).isSome = true ↔ mayL s.data.toList := Iff.rfl
theorem get_q (s : ByteArray) (i : Nat) (h : i < s.size) : s.data.toList[i]? = some s[i] := by
  rw [List.getElem?_eq_getElem (by simpa using h)]; rfl
theorem below_drew {B : Nat} {w w' : World} (h : Below B w w') (k : Nat) : Below B w (w'.drewN k) := ⟨h.os, h.tape, h.output, h.size, h.block⟩
theorem plain_any (s : ByteArray) (w : World) (hs : s.size ≤ 140737488355328) :
    Calls Tryd.prog 36 #[.string s] w fun e w' => e = .returned (sv (s.data.toList ++ [0])) ∧ w = w' := by
  have h1 : ¬ 9223372036854775807 < s.size + 1 := by omega
  go_enter Tryd.func36, Tryd.ntmps36
  go_wp2_with fail
  go_ret
  exact ⟨by rw [sv_append]; rfl, rfl⟩
set_option maxHeartbeats 1600000 in
theorem cutp_any (s : ByteArray) (w : World) (hs : s.size ≤ 140737488355328) :
    Calls Tryd.prog 79 #[.string s] w fun e w' => Below w.heap.size w w' ∧ ((∃ n t, IsCut s.data.toList n t ∧ e = .returned (.tuple #[sv n, sv t, .bool true])) ∨ ((∀ n t, ¬ IsCut s.data.toList n t) ∧ e = .returned (.tuple #[.string ⟨#[]⟩, .string ⟨#[]⟩, .bool false]))) := by
  have hlen : s.data.toList.length = s.size := by simp
  go_enter Tryd.func79, Tryd.ntmps79
  go_wp2_with fail
  go_loop [5] (fun i => ∃ p : Nat, p ≤ s.size + 256 ∧ i = .int .i64 p ∧ Hid (At s.data.toList p)) (fun i => s.size + 256 - (intOf i).toNat)
  case atStart => exact ⟨0, Nat.zero_le _, rfl, Lib.hid (At.start _)⟩
  case round =>
    obtain ⟨p, hp, rfl, hat⟩ := hrel
    by_cases hlt : p < s.size
    · have hlt' : (p : Int) < s.size := by omega
      have hq := get_q s p hlt
      obtain ⟨x, hx⟩ : ∃ x, s[p] = x := ⟨_, rfl⟩
      obtain ⟨q, hxq⟩ : ∃ q, x.toNat = q := ⟨_, rfl⟩
      have hq256 : q < 256 := by rw [← hxq]; exact UInt8.toNat_lt _
      rw [hx] at hq
      by_cases h0 : q = 0
      · have hx0 : x = 0 := UInt8.toNat_inj.1 (by rw [hxq, h0]; rfl)
        subst hx0
        have hne : ((q : Int) != 0) = false := by simp; omega
        have hge : ¬ (s.size : Int) ≤ p := by omega
        have hq2 := hq
        have hst := hat.out.stop hq
        have HST := Lib.hid hst
        have HQ := Lib.hid hq2
        have hm := fun w => may_any (s.extract 0 p) w (by simp [ByteArray.size_extract]; unfold maxLen; omega)
        have hE : (s.extract 0 p).data.toList = s.data.toList.take p := by simp [List.extract_eq_take_drop]
        have hE1 : Value.string (s.extract 0 p) = sv (s.data.toList.take p) := by rw [ba_extract]; simp [List.extract_eq_take_drop]
        have hE2 : Value.string (s.extract (p + 1) s.size) = sv (s.data.toList.drop (p + 1)) := by
          rw [ba_extract, ← hlen, List.extract_eq_take_drop, List.take_of_length_le (by simp)]
        have HE1 := Lib.hid hE1
        have HE2 := Lib.hid hE2
        have hML : (labelsOf (s.extract 0 p)).isSome = true ↔ mayL (s.data.toList.take p) := by rw [may_mayL, hE]
        have HML := Lib.hid hML
        clear hst hq hq2 hE hE1 hE2 hML hat
        cases hmay : (labelsOf (s.extract 0 p)).isSome with
        | true =>
          rw [hmay] at hm
          have HM := Lib.hid hm
          have hfin : Hid (IsCut s.data.toList (s.data.toList.take p) (s.data.toList.drop (p + 1))) := Lib.hid (cut_here HQ.out (HML.out.1 hmay))
          clear hm hmay HML HST HQ hlen hxq
          go_wp2_with fail
          refine (HM.out _).mono ?_
          rintro e w1 ⟨rfl, hb1⟩
          have hi4 : IntKind.i64.wrap ((p : Int) + 1) = (p : Int) + 1 := IntWalk.i64_in _ (by omega)
          have hp0 : (0 : Int) ≤ (p : Int) + 1 := by omega
          have hp1 : (p : Int) + 1 ≤ s.size := by omega
          have hp2 : ((p : Int) + 1).toNat = p + 1 := by omega
          have hp3 : (p : Int) ≤ s.size := by omega
          go_wp2_with fail
          go_quiet (fail)
          go_wp2_with fail
          go_ret3
          exact ⟨below_drew hb1 _, .inl ⟨_, _, hfin.out, by rw [← HE1.out, ← HE2.out]; rfl⟩⟩
        | false =>
          rw [hmay] at hm
          have HM := Lib.hid hm
          have hfin : Hid (∀ n t, ¬ IsCut s.data.toList n t) := Lib.hid (fun n t hc => by
            obtain ⟨rfl, _⟩ := HST.out n t hc
            have := HML.out.2 hc.1
            rw [hmay] at this; cases this)
          clear hm hmay HML HST HQ hlen hxq
          go_wp2_with fail
          refine (HM.out _).mono ?_
          rintro e w1 ⟨rfl, hb1⟩
          go_wp2_with fail
          go_ret3
          exact ⟨hb1, .inr ⟨hfin.out, rfl⟩⟩
      · have hne : ((q : Int) != 0) = true := by simp; omega
        have hnx := hat.out.next x hq (by rintro rfl; simp at hxq; omega)
        rw [hxq] at hnx
        have HN := Lib.hid hnx
        have hi1 : IntKind.i64.wrap (q : Int) = q := IntWalk.i64_in _ (by omega)
        have hi2 : IntKind.i64.wrap (1 + (q : Int)) = 1 + (q : Int) := IntWalk.i64_in _ (by omega)
        have hi3 : IntKind.i64.wrap ((p : Int) + (1 + (q : Int))) = (p : Int) + (1 + (q : Int)) := IntWalk.i64_in _ (by omega)
        clear hnx hq hat hlen
        go_wp2_with fail
        go_round
        case rel => exact ⟨p + 1 + q, by omega, by go_num, HN⟩
        case measure => simp [intOf]; omega
    · have hge : (s.size : Int) ≤ p := by omega
      have hlt' : ¬ (p : Int) < s.size := by omega
      have hfin : Hid (∀ n t, ¬ IsCut s.data.toList n t) := Lib.hid (fun n t hc => hat.out.over (by omega) n t hc)
      clear hat hlen hlt
      go_wp2_with fail
      go_ret3
      exact ⟨Below.refl _ _, .inr ⟨hfin.out, rfl⟩⟩
end Go.Proofs.YtpbbnpglcadimaaDoor
namespace Go.Proofs.YtpbbnpglcadimaaDoor
open Go.RowKit
set_option linter.unusedVariables false
set_option maxRecDepth 20000

theorem isSoa_no1 {l : List UInt8} (h : ∀ n t, ¬ IsCut l n t) (a b t : List UInt8) : ¬ IsSoa l a b t := fun hs => h _ _ hs.1
theorem isSoa_no2 {l a r : List UInt8} (h1 : IsCut l a r) (h : ∀ n t, ¬ IsCut r n t) (a' b t : List UInt8) : ¬ IsSoa l a' b t := fun hs => by
  obtain ⟨-, h2⟩ := At.one h1 hs.1
  exact h b t ⟨hs.2.1, h2⟩
theorem isSoa_no3 {l a r b t : List UInt8} (h1 : IsCut l a r) (h2 : IsCut r b t) (h : t.length ≠ 20) (a' b' t' : List UInt8) : ¬ IsSoa l a' b' t' := fun hs => by
  obtain ⟨-, h3⟩ := At.one h1 hs.1
  obtain ⟨-, h4⟩ := At.one h2 ⟨hs.2.1, h3⟩
  rw [h4] at h; exact h hs.2.2
theorem isSoa_yes {l a r b t : List UInt8} (h1 : IsCut l a r) (h2 : IsCut r b t) (h : t.length = 20) : IsSoa l a b t := by
  refine ⟨⟨h1.1, ?_⟩, h2.1, h⟩
  rw [← h2.2]; exact h1.2
theorem IsCut.len {l n t : List UInt8} (h : IsCut l n t) : n.length + t.length + 1 = l.length := by rw [h.2]; simp; omega
/-- The value of an SOA. -/
def soaV (a b t : List UInt8) : Value := .agg #[sv a, sv b, .int .u32 (n32 ⟨t.toArray⟩ 0), .int .u32 (n32 ⟨t.toArray⟩ 4), .int .u32 (n32 ⟨t.toArray⟩ 8), .int .u32 (n32 ⟨t.toArray⟩ 12), .int .u32 (n32 ⟨t.toArray⟩ 16)]
def soa0 : Value := .agg #[.string ⟨#[]⟩, .string ⟨#[]⟩, .int .u32 0, .int .u32 0, .int .u32 0, .int .u32 0, .int .u32 0]
theorem number_any (s : ByteArray) (k : Nat) (j : Int) (w : World) (hs : s.size = 20) (hk : k < 5) (hj : j = k) :
    Calls Tryd.prog 80 #[.string s, .int .i64 j] w fun e w' => e = .returned (.int .u32 (n32 s (4 * k))) ∧ ∃ n, w.drewN n = w' := by
  subst hj
  have HG := Lib.hid (fun w => get32_yes s (4 * k) w (by unfold maxLen; omega) (by omega))
  have hi : IntKind.i64.wrap (4 * (k : Int)) = ((4 * k : Nat) : Int) := by rw [IntWalk.i64_in _ (by omega)]; omega
  clear hs hk
  go_enter Tryd.func80, Tryd.ntmps80
  go_wp2_with fail
  refine (HG.out _).mono ?_
  rintro e w1 ⟨rfl, n, rfl⟩
  go_wp2_with fail
  go_ret
  exact ⟨rfl, n, rfl⟩
set_option maxHeartbeats 1600000 in
theorem parse_any (s : ByteArray) (w : World) (hs : s.size ≤ 140737488355328) :
    Calls Tryd.prog 63 #[.string s] w fun e w' => Below w.heap.size w w' ∧ ((∃ a b t, IsSoa s.data.toList a b t ∧ e = .returned (.tuple #[soaV a b t, .bool true])) ∨ ((∀ a b t, ¬ IsSoa s.data.toList a b t) ∧ e = .returned (.tuple #[soa0, .bool false]))) := by
  have hlen : s.data.toList.length = s.size := by simp
  obtain ⟨L, hL⟩ : ∃ L, s.data.toList = L := ⟨_, rfl⟩
  have HC := Lib.hid (fun w => cutp_any s w hs)
  rw [hL] at HC hlen
  rw [hL]
  clear hL
  go_enter Tryd.func63, Tryd.ntmps63
  go_wp2_with fail
  refine (HC.out _).mono ?_
  rintro e w1 ⟨hb1', ⟨a, r, hc1, rfl⟩ | ⟨hno, rfl⟩⟩
  all_goals
    obtain ⟨W, hW⟩ : ∃ W, W = w.alloc (.cells #[.string ⟨#[]⟩, .string ⟨#[]⟩, .int .u32 0, .int .u32 0, .int .u32 0, .int .u32 0, .int .u32 0] 60) := ⟨_, rfl⟩
    rw [← hW] at hb1'
    have hzW : W.heap.size = w.heap.size + 1 := by rw [hW]; simp
    have hBW : Below w.heap.size w W := by rw [hW]; exact (Below.refl _ _).alloc (Nat.le_refl _) _
    have c0 : W.cell? ⟨w.heap.size, 0, none⟩ = some (.string ⟨#[]⟩) := by rw [hW]; simp
    have c1 : W.cell? ⟨w.heap.size, 1, none⟩ = some (.string ⟨#[]⟩) := by rw [hW]; simp
    have c2 : W.cell? ⟨w.heap.size, 2, none⟩ = some (.int .u32 0) := by rw [hW]; simp
    have c3 : W.cell? ⟨w.heap.size, 3, none⟩ = some (.int .u32 0) := by rw [hW]; simp
    have c4 : W.cell? ⟨w.heap.size, 4, none⟩ = some (.int .u32 0) := by rw [hW]; simp
    have c5 : W.cell? ⟨w.heap.size, 5, none⟩ = some (.int .u32 0) := by rw [hW]; simp
    have c6 : W.cell? ⟨w.heap.size, 6, none⟩ = some (.int .u32 0) := by rw [hW]; simp
    have fz : ∀ i, W.frozen? ⟨w.heap.size, i, none⟩ = false := by intro i; rw [hW, World.frozen?_alloc_at _ _ _ _ rfl]
    clear hW
  · have HC1 := Lib.hid hc1
    have hl1 := hc1.len
    have HC2 := Lib.hid (fun w => cutp_any ⟨r.toArray⟩ w (by rw [mk_size]; omega))
    rw [mk_toList] at HC2
    clear hc1
    unfold sv
    go_wp2_with fail
    refine (HC2.out _).mono ?_
    rintro e w2 ⟨hb2', ⟨b, t, hc2, rfl⟩ | ⟨hno, rfl⟩⟩
    all_goals
      have hb2 := below_trans hb1' hb1'.size hb2'
      have d0 := (hb2.cell (p := ⟨w.heap.size, 0, none⟩) (by show w.heap.size < W.heap.size; omega)).trans c0
      have d1 := (hb2.cell (p := ⟨w.heap.size, 1, none⟩) (by show w.heap.size < W.heap.size; omega)).trans c1
      have d2 := (hb2.cell (p := ⟨w.heap.size, 2, none⟩) (by show w.heap.size < W.heap.size; omega)).trans c2
      have d3 := (hb2.cell (p := ⟨w.heap.size, 3, none⟩) (by show w.heap.size < W.heap.size; omega)).trans c3
      have d4 := (hb2.cell (p := ⟨w.heap.size, 4, none⟩) (by show w.heap.size < W.heap.size; omega)).trans c4
      have d5 := (hb2.cell (p := ⟨w.heap.size, 5, none⟩) (by show w.heap.size < W.heap.size; omega)).trans c5
      have d6 := (hb2.cell (p := ⟨w.heap.size, 6, none⟩) (by show w.heap.size < W.heap.size; omega)).trans c6
      have fd : ∀ i, w2.frozen? ⟨w.heap.size, i, none⟩ = false := fun i => (hb2.frozen (p := ⟨w.heap.size, i, none⟩) (by show w.heap.size < W.heap.size; omega)).trans (fz i)
      have hB2 := hBW.trans (hb2.mono hBW.size)
      clear hb2 hb2' hb1' c0 c1 c2 c3 c4 c5 c6 fz hBW
    · unfold sv
      by_cases h20 : t.length = 20
      · have hsz : (ByteArray.mk t.toArray).size = 20 := by rw [mk_size]; exact h20
        have HY := Lib.hid (isSoa_yes HC1.out hc2 h20)
        have N0 := Lib.hid (fun w => number_any ⟨t.toArray⟩ 0 0 w hsz (by omega) rfl)
        have N1 := Lib.hid (fun w => number_any ⟨t.toArray⟩ 1 1 w hsz (by omega) rfl)
        have N2 := Lib.hid (fun w => number_any ⟨t.toArray⟩ 2 2 w hsz (by omega) rfl)
        have N3 := Lib.hid (fun w => number_any ⟨t.toArray⟩ 3 3 w hsz (by omega) rfl)
        have N4 := Lib.hid (fun w => number_any ⟨t.toArray⟩ 4 4 w hsz (by omega) rfl)
        have hne : (((ByteArray.mk t.toArray).size : Int) != 20) = false := by rw [hsz]; decide
        obtain ⟨T, hT⟩ : ∃ T, T = ByteArray.mk t.toArray := ⟨_, rfl⟩
        rw [← hT] at hsz N0 N1 N2 N3 N4 hne ⊢
        have HT := Lib.hid hT
        clear hc2 HC1 HC2 HC h20 hT
        go_wp2_with fail
        refine (N0.out _).mono ?_
        rintro e w3 ⟨rfl, k0, rfl⟩
        go_wp2_with fail
        refine (N1.out _).mono ?_
        rintro e w3 ⟨rfl, k1, rfl⟩
        go_wp2_with fail
        refine (N2.out _).mono ?_
        rintro e w3 ⟨rfl, k2, rfl⟩
        go_wp2_with fail
        refine (N3.out _).mono ?_
        rintro e w3 ⟨rfl, k3, rfl⟩
        go_wp2_with fail
        refine (N4.out _).mono ?_
        rintro e w3 ⟨rfl, k4, rfl⟩
        have hB5 := below_drew hB2 (k0 + k1 + k2 + k3 + k4)
        clear hB2
        go_wp2_with fail
        refine bodyPost_ret (v := .tuple #[.agg #[.string ⟨a.toArray⟩, .string ⟨b.toArray⟩, .int .u32 (n32 T 0), .int .u32 (n32 T 4), .int .u32 (n32 T 8), .int .u32 (n32 T 12), .int .u32 (n32 T 16)], .bool true]) (by simp [results, Tryd.results63, go_sem, d0, d1, d2, d3, d4, d5, d6]) rfl ⟨?_, .inl ⟨a, b, t, HY.out, ?_⟩⟩
        · iterate 7 (refine Below.setCell ?_ (by simp) _)
          exact hB5
        · unfold soaV sv; rw [← HT.out]
      · have hne : (((ByteArray.mk t.toArray).size : Int) != 20) = true := by rw [mk_size]; simp; omega
        have HN := Lib.hid (isSoa_no3 HC1.out hc2 h20)
        generalize ByteArray.mk t.toArray = T at *
        clear hc2 HC1 HC2 HC h20
        go_wp2_with fail
        refine bodyPost_ret (v := .tuple #[soa0, .bool false]) (by simp [soa0, results, Tryd.results63, go_sem, d0, d1, d2, d3, d4, d5, d6]) rfl ⟨?_, .inr ⟨HN.out, rfl⟩⟩
        iterate 7 (refine Below.setCell ?_ (by simp) _)
        exact hB2
    · have HN := Lib.hid (isSoa_no2 HC1.out hno)
      clear HC1 HC2 HC hno
      go_wp2_with fail
      refine bodyPost_ret (v := .tuple #[soa0, .bool false]) (by simp [soa0, results, Tryd.results63, go_sem, d0, d1, d2, d3, d4, d5, d6]) rfl ⟨?_, .inr ⟨HN.out, rfl⟩⟩
      iterate 7 (refine Below.setCell ?_ (by simp) _)
      exact hB2
  · have HN := Lib.hid (isSoa_no1 hno)
    have hb2 := hb1'
    have d0 := (hb2.cell (p := ⟨w.heap.size, 0, none⟩) (by show w.heap.size < W.heap.size; omega)).trans c0
    have d1 := (hb2.cell (p := ⟨w.heap.size, 1, none⟩) (by show w.heap.size < W.heap.size; omega)).trans c1
    have d2 := (hb2.cell (p := ⟨w.heap.size, 2, none⟩) (by show w.heap.size < W.heap.size; omega)).trans c2
    have d3 := (hb2.cell (p := ⟨w.heap.size, 3, none⟩) (by show w.heap.size < W.heap.size; omega)).trans c3
    have d4 := (hb2.cell (p := ⟨w.heap.size, 4, none⟩) (by show w.heap.size < W.heap.size; omega)).trans c4
    have d5 := (hb2.cell (p := ⟨w.heap.size, 5, none⟩) (by show w.heap.size < W.heap.size; omega)).trans c5
    have d6 := (hb2.cell (p := ⟨w.heap.size, 6, none⟩) (by show w.heap.size < W.heap.size; omega)).trans c6
    have fd : ∀ i, w1.frozen? ⟨w.heap.size, i, none⟩ = false := fun i => (hb2.frozen (p := ⟨w.heap.size, i, none⟩) (by show w.heap.size < W.heap.size; omega)).trans (fz i)
    have hB2 := hBW.trans (hb2.mono hBW.size)
    clear hb2 hb1' c0 c1 c2 c3 c4 c5 c6 fz hBW HC hno
    go_wp2_with fail
    refine bodyPost_ret (v := .tuple #[soa0, .bool false]) (by simp [soa0, results, Tryd.results63, go_sem, d0, d1, d2, d3, d4, d5, d6]) rfl ⟨?_, .inr ⟨HN.out, rfl⟩⟩
    iterate 7 (refine Below.setCell ?_ (by simp) _)
    exact hB2
end Go.Proofs.YtpbbnpglcadimaaDoor
namespace Go.Proofs.YtpbbnpglcadimaaDoor
open Go.RowKit
set_option linter.unusedVariables false
set_option maxRecDepth 20000

/-- The data of an SOA of two names and numbers. -/
def dataL (a b : List UInt8) (ns : List Nat) : List UInt8 := a ++ 0 :: (b ++ 0 :: ns.flatMap b32)
theorem b32_len (ns : List Nat) : (ns.flatMap b32).length = 4 * ns.length := by
  induction ns with
  | nil => rfl
  | cons x l ih => simp only [List.flatMap_cons, List.length_append, ih, List.length_cons]; simp [b32]; omega
set_option maxHeartbeats 3200000 in
theorem sdata_any (a b : ByteArray) (n1 n2 n3 n4 n5 : Nat) (w : World) (ha : a.size ≤ 140737488355328) (hb : b.size ≤ 140737488355328) (h1 : n1 < 4294967296) (h2 : n2 < 4294967296) (h3 : n3 < 4294967296) (h4 : n4 < 4294967296) (h5 : n5 < 4294967296) :
    Calls Tryd.prog 18 #[.agg #[.string a, .string b, .int .u32 n1, .int .u32 n2, .int .u32 n3, .int .u32 n4, .int .u32 n5]] w fun e w' => Below w.heap.size w w' ∧
      (((mayL a.data.toList ∧ mayL b.data.toList) ∧ e = .returned (.tuple #[sv (dataL a.data.toList b.data.toList [n1, n2, n3, n4, n5]), .bool true])) ∨ (¬ (mayL a.data.toList ∧ mayL b.data.toList) ∧ e = .returned (.tuple #[.string ⟨#[]⟩, .bool false]))) := by
  have ma := fun w => may_any a w (by unfold maxLen; omega)
  have mb := fun w => may_any b w (by unfold maxLen; omega)
  have ea := may_mayL a
  have eb := may_mayL b
  have EA := Lib.hid ea
  have EB := Lib.hid eb
  clear ea eb
  cases hma : (labelsOf a).isSome with
  | false =>
    rw [hma] at ma EA
    have MA := Lib.hid ma
    clear ma mb hma
    go_enter Tryd.func18, Tryd.ntmps18
    go_wp2_with fail
    refine (MA.out _).mono ?_
    rintro e w1 ⟨rfl, hb1⟩
    have hB1 := below_alloc _ (Below.refl _ _) (Nat.le_refl _) hb1
    go_wp2_with fail
    go_ret2
    exact ⟨hB1, .inr ⟨(fun h => by have := EA.out.2 h.1; cases this), rfl⟩⟩
  | true =>
  cases hmb : (labelsOf b).isSome with
  | false =>
    rw [hma] at ma EA
    rw [hmb] at mb EB
    have MA := Lib.hid ma
    have MB := Lib.hid mb
    clear ma mb hma hmb
    go_enter Tryd.func18, Tryd.ntmps18
    go_wp2_with fail
    refine (MA.out _).mono ?_
    rintro e w1 ⟨rfl, hb1⟩
    have c1 := (hb1.cell (p := ⟨w.heap.size, 1, none⟩) (by simp)).trans (show _ = some (.string b) by simp)
    have hB1 := below_alloc _ (Below.refl _ _) (Nat.le_refl _) hb1
    clear hb1
    go_wp2_with fail
    refine (MB.out _).mono ?_
    rintro e w2 ⟨rfl, hb2⟩
    have hB2 := below_trans hB1 hB1.size hb2
    go_wp2_with fail
    go_ret2
    exact ⟨hB2, .inr ⟨(fun h => by have := EB.out.2 h.2; cases this), rfl⟩⟩
  | true =>
    have HH := Lib.hid (And.intro (EA.out.1 hma) (EB.out.1 hmb))
    rw [hma] at ma
    rw [hmb] at mb
    have sa : a.size ≤ 254 := by have := mayL_wire HH.out.1; obtain ⟨_, _, _, h⟩ := this; simpa using h
    have sb : b.size ≤ 254 := by have := mayL_wire HH.out.2; obtain ⟨_, _, _, h⟩ := this; simpa using h
    have MA := Lib.hid ma
    have MB := Lib.hid mb
    clear ma mb hma hmb EA EB
    go_enter Tryd.func18, Tryd.ntmps18
    go_wp2_with fail
    refine (MA.out _).mono ?_
    rintro e w1 ⟨rfl, hb1⟩
    obtain ⟨W, hW⟩ : ∃ W, W = w.alloc (.cells #[.string a, .string b, .int .u32 n1, .int .u32 n2, .int .u32 n3, .int .u32 n4, .int .u32 n5] 60) := ⟨_, rfl⟩
    rw [← hW] at hb1
    have hzW : W.heap.size = w.heap.size + 1 := by rw [hW]; simp
    have hBW : Below w.heap.size w W := by rw [hW]; exact (Below.refl _ _).alloc (Nat.le_refl _) _
    have c0 : W.cell? ⟨w.heap.size, 0, none⟩ = some (.string a) := by rw [hW]; simp
    have c1 : W.cell? ⟨w.heap.size, 1, none⟩ = some (.string b) := by rw [hW]; simp
    have c2 : W.cell? ⟨w.heap.size, 2, none⟩ = some (.int .u32 n1) := by rw [hW]; simp
    have c3 : W.cell? ⟨w.heap.size, 3, none⟩ = some (.int .u32 n2) := by rw [hW]; simp
    have c4 : W.cell? ⟨w.heap.size, 4, none⟩ = some (.int .u32 n3) := by rw [hW]; simp
    have c5 : W.cell? ⟨w.heap.size, 5, none⟩ = some (.int .u32 n4) := by rw [hW]; simp
    have c6 : W.cell? ⟨w.heap.size, 6, none⟩ = some (.int .u32 n5) := by rw [hW]; simp
    clear hW
    have d1 := (hb1.cell (p := ⟨w.heap.size, 1, none⟩) (by show w.heap.size < W.heap.size; omega)).trans c1
    go_wp2_with fail
    clear d1
    refine (MB.out _).mono ?_
    rintro e w2 ⟨rfl, hb2⟩
    have hb := below_trans hb1 hb1.size hb2
    have d0 := (hb.cell (p := ⟨w.heap.size, 0, none⟩) (by show w.heap.size < W.heap.size; omega)).trans c0
    have d1 := (hb.cell (p := ⟨w.heap.size, 1, none⟩) (by show w.heap.size < W.heap.size; omega)).trans c1
    have d2 := (hb.cell (p := ⟨w.heap.size, 2, none⟩) (by show w.heap.size < W.heap.size; omega)).trans c2
    have d3 := (hb.cell (p := ⟨w.heap.size, 3, none⟩) (by show w.heap.size < W.heap.size; omega)).trans c3
    have d4 := (hb.cell (p := ⟨w.heap.size, 4, none⟩) (by show w.heap.size < W.heap.size; omega)).trans c4
    have d5 := (hb.cell (p := ⟨w.heap.size, 5, none⟩) (by show w.heap.size < W.heap.size; omega)).trans c5
    have d6 := (hb.cell (p := ⟨w.heap.size, 6, none⟩) (by show w.heap.size < W.heap.size; omega)).trans c6
    have hB2 := hBW.trans (hb.mono hBW.size)
    have hz2 := hb.size
    clear hb1 hb2 hb hBW c0 c1 c2 c3 c4 c5 c6
    go_wp2_with fail
    refine (put32_any none 0 0 [] _ 5 5 [n1, n2, n3, n4, n5] _ (Sl.nil _ _ _ _) (fun _ => ⟨rfl, rfl⟩) (Sl.fresh _ _ _ _ _ rfl rfl) (by simp; omega) (by omega)).mono ?_
    rintro e w3 ⟨g, rfl, hown, hb3⟩
    have hz2' := hB2.size
    have e0 := (hb3.cell (p := ⟨w.heap.size, 0, none⟩) (by simp; omega)).trans ((World.cell?_alloc_lt w2 _ _ (by show w.heap.size < w2.heap.size; omega)).trans d0)
    have e1 := (hb3.cell (p := ⟨w.heap.size, 1, none⟩) (by simp; omega)).trans ((World.cell?_alloc_lt w2 _ _ (by show w.heap.size < w2.heap.size; omega)).trans d1)
    have hB3 := below_alloc _ hB2 hz2' hb3
    clear d0 d1 d2 d3 d4 d5 d6 hb3 hB2
    have pa := fun w => plain_any a w (by omega)
    have pb := fun w => plain_any b w (by omega)
    unfold sv at pa pb
    have hcv := fun k => run_string_own (P := Tryd.prog) (w3.drewN k) 64 9 5 _ _ _ _ _ Tryd.underlying64 Tryd.underlying5 Tryd.underlying9 (show World.ownsRow (w3.drewN k) _ _ _ _ _ _ from hown)
    have hlT : ([] ++ List.flatMap b32 [n1, n2, n3, n4, n5]).length = 20 := by rw [List.nil_append, b32_len]; rfl
    obtain ⟨L, hL⟩ : ∃ L, [] ++ List.flatMap b32 [n1, n2, n3, n4, n5] = L := ⟨_, rfl⟩
    rw [hL] at hcv hlT
    obtain ⟨A1, hA1⟩ : ∃ A1, A1 = (ByteArray.mk (a.data.toList ++ [0]).toArray) := ⟨_, rfl⟩
    obtain ⟨B1, hB1⟩ : ∃ B1, B1 = (ByteArray.mk (b.data.toList ++ [0]).toArray) := ⟨_, rfl⟩
    obtain ⟨T, hT⟩ : ∃ T, T = (ByteArray.mk L.toArray) := ⟨_, rfl⟩
    rw [← hA1] at pa
    rw [← hB1] at pb
    rw [← hT] at hcv
    have sA : A1.size = a.size + 1 := by rw [hA1, mk_size]; simp
    have sB : B1.size = b.size + 1 := by rw [hB1, mk_size]; simp
    have sT : T.size = 20 := by rw [hT, mk_size]; exact hlT
    have hfin : Value.string (A1 ++ B1 ++ T) = sv (dataL a.data.toList b.data.toList [n1, n2, n3, n4, n5]) := by
      rw [hA1, hB1, hT, ← hL, sv_append]
      unfold sv dataL
      simp
    have HF := Lib.hid hfin
    have PA := Lib.hid pa
    have PB := Lib.hid pb
    have q1 : ¬ 9223372036854775807 < A1.size + B1.size := by omega
    have q2 : ¬ 9223372036854775807 < A1.size + B1.size + T.size := by omega
    have q3 : ¬ 9223372036854775807 < (A1 ++ B1).size + T.size := by rw [ByteArray.size_append]; omega
    clear hown hA1 hB1 hT hL hlT hfin pa pb sA sB sT
    go_wp2_with fail
    go_quiet ((go_at_call 36; first | exact Calls.quiet_of_same ((PA.out _).mono fun e w' ⟨a, b⟩ => ⟨a, b.symm⟩) | exact Calls.quiet_of_same ((PB.out _).mono fun e w' ⟨a, b⟩ => ⟨a, b.symm⟩)))
    go_wp2_with fail
    go_ret2
    exact ⟨below_drew hB3 _, .inl ⟨HH.out, by rw [← HF.out]; rfl⟩⟩
end Go.Proofs.YtpbbnpglcadimaaDoor
namespace Go.Proofs.YtpbbnpglcadimaaDoor
open Go.RowKit
set_option linter.unusedVariables false
theorem nameZ_may (zs : List Int) (hz : ∀ z ∈ zs, 0 ≤ z ∧ z < 256) : mayL (nameZ zs) := by
  have h := few_labels (wordsZ_ok zs hz) (wordsZ_len zs)
  unfold mayL
  unfold labelsOf at h
  rw [show (ByteArray.mk (wire (wordsZ zs)).toArray).data.toList = wire (wordsZ zs) by simp] at h
  unfold nameZ
  rw [h]; rfl
theorem nameZ_len (zs : List Int) (hz : ∀ z ∈ zs, 0 ≤ z ∧ z < 256) : (nameZ zs).length ≤ 84 := by
  have := few_wire (wordsZ zs) (fun x hx => (wordsZ_ok zs hz x hx).2.2)
  have h2 := wordsZ_len zs
  unfold nameZ; omega
end Go.Proofs.YtpbbnpglcadimaaDoor
namespace Go.Proofs.YtpbbnpglcadimaaDoor
open Go.RowKit
set_option linter.unusedVariables false
section
variable {P : Program} {ops : Array Oper} {Q : Exit → Act → World → Prop}
/-- Operations one behind the other. -/
def tailWp (P : Program) (Q : Exit → Act → World → Prop) : List Oper → Act → World → Prop
  | [], a, w => Q .normal a w
  | o :: os, a, w => Oper.wp P o a w (fun a' w' => ∃ v, a' = a.put o.dst v ∧ tailWp P Q os a' w') Q
/-- From N on each operation waits for all ahead of it. -/
def tailOk (ops : Array Oper) (N : Nat) : Bool :=
  ((List.range N).all fun i => reachX ops 20 i N) && ((List.range ops.size).all fun j => decide (j ≤ N) || reachX ops 20 (j - 1) j) && ((ops.toList.drop N).all fun o => o.guard.isNone) && decide (N < ops.size)
/-- As Next; an operation that is named fresh gives a block that is new. -/
def NextL (A : Act) (d : Option Tmp) (p : Value → World → Prop) (R : World → Prop) (L : List Nat) (i : Nat) (w : World) (a' : Act) (w' : World) : Prop :=
  ∃ v, a' = A.put d v ∧ p v w' ∧ R w' ∧ Goes w w' ∧ (L.contains i = true → v = .pointer (some ⟨w.heap.size, 0, none⟩) ∧ w.heap.size < w'.heap.size)
theorem nextL {A a' : Act} {d : Option Tmp} {p : Value → World → Prop} {R : World → Prop} {L : List Nat} {i : Nat} {w w' : World} (v : Value) (ha : a' = A.put d v) (hp : p v w') (hR : R w') (he : Goes w w') (hL : L.contains i = false := by rfl) : NextL A d p R L i w a' w' :=
  ⟨v, ha, hp, hR, he, fun h => by rw [hL] at h; cases h⟩
theorem nextL_new {A a' : Act} {d : Option Tmp} {p : Value → World → Prop} {R : World → Prop} {L : List Nat} {i : Nat} {w : World} (o : Obj) (ha : a' = A.put d (.pointer (some ⟨w.heap.size, 0, none⟩))) (hp : p (.pointer (some ⟨w.heap.size, 0, none⟩)) (w.alloc o)) (hR : R (w.alloc o)) : NextL A d p R L i w a' (w.alloc o) :=
  ⟨_, ha, hp, hR, (Below.refl _ _).alloc (Nat.le_refl _) _, fun _ => ⟨rfl, by simp⟩⟩
def OpStepL (P : Program) (ops : Array Oper) (Q : Exit → Act → World → Prop) (Ws : List (Value → World → Prop)) (R : World → Prop) (L : List Nat) (FF : (Nat → Value) → Act) (i : Nat) (o : Oper) : Prop :=
  ∀ (x : Nat → Value) (w : World), R w → Deps (wordOf Ws) x w o.after.toList → (wantedX o x = true → Oper.wp P o (FF x) w (NextL (FF x) o.dst (wordOf Ws i) R L i w) Q) ∧ (wantedX o x = false → wordOf Ws i undef w ∧ L.contains i = false)
def OpStepsL (P : Program) (ops : Array Oper) (Q : Exit → Act → World → Prop) (Ws : List (Value → World → Prop)) (R : World → Prop) (L : List Nat) (FF : (Nat → Value) → Act) (skip : Nat → Bool) : Nat → List Oper → Prop
  | _, [] => True
  | i, o :: os => (skip i = false → OpStepL P ops Q Ws R L FF i o) ∧ OpStepsL P ops Q Ws R L FF skip (i + 1) os
theorem OpStepsL.get {Ws : List (Value → World → Prop)} {R : World → Prop} {L : List Nat} {FF : (Nat → Value) → Act} {skip : Nat → Bool} : ∀ {l : List Oper} {k : Nat}, OpStepsL P ops Q Ws R L FF skip k l → ∀ i o, l[i]? = some o → skip (k + i) = false → OpStepL P ops Q Ws R L FF (k + i) o
  | [], _, _, i, o, h, _ => by simp at h
  | p :: l, k, hs, 0, o, h, hk => by simp at h; subst h; exact hs.1 hk
  | p :: l, k, hs, i + 1, o, h, hk => by
    have := OpStepsL.get hs.2 i o (by simpa using h) (by rwa [show k + 1 + i = k + (i + 1) by omega])
    rwa [show k + 1 + i = k + (i + 1) by omega] at this
/-- The blocks that are named fresh are there, and no two of them the same. -/
def Apart (L : List Nat) (d : Nat → Bool) (x : Nat → Value) (w : World) : Prop :=
  (∀ i ∈ L, d i = true → ∃ g, x i = .pointer (some ⟨g, 0, none⟩) ∧ g < w.heap.size) ∧ ∀ i ∈ L, ∀ j ∈ L, i ≠ j → d i = true → d j = true → x i ≠ x j
theorem Apart.next {L : List Nat} {d : Nat → Bool} {x : Nat → Value} {w w' : World} {i : Nat} {v : Value} (h : Apart L d x w) (hd : d i = false) (hs : w.heap.size ≤ w'.heap.size) (hv : L.contains i = true → v = .pointer (some ⟨w.heap.size, 0, none⟩) ∧ w.heap.size < w'.heap.size) :
    Apart L (setD d i) (fun j => if j = i then v else x j) w' := by
  refine ⟨fun j hj hdj => ?_, fun j hj k hk hjk hdj hdk => ?_⟩
  · by_cases hji : j = i
    · subst hji
      obtain ⟨h1, h2⟩ := hv (by simpa using hj)
      exact ⟨_, by simpa using h1, h2⟩
    · rw [setD_ne d hji] at hdj
      obtain ⟨g, h1, h2⟩ := h.1 j hj hdj
      exact ⟨g, by simpa [hji] using h1, by omega⟩
  · by_cases hji : j = i
    · subst hji
      have hkj : k ≠ j := fun e => hjk e.symm
      rw [setD_ne d hkj] at hdk
      obtain ⟨h1, h2⟩ := hv (by simpa using hj)
      obtain ⟨g, h3, h4⟩ := h.1 k hk hdk
      simp only [if_true, hkj, if_false]
      rw [h1, h3]
      intro e
      injection e with e; injection e with e; injection e with e
      omega
    · by_cases hki : k = i
      · subst hki
        rw [setD_ne d hjk] at hdj
        obtain ⟨h1, h2⟩ := hv (by simpa using hk)
        obtain ⟨g, h3, h4⟩ := h.1 j hj hdj
        simp only [if_true, hjk, if_false]
        rw [h1, h3]
        intro e
        injection e with e; injection e with e; injection e with e
        omega
      · rw [setD_ne d hji] at hdj
        rw [setD_ne d hki] at hdk
        simp only [hji, hki, if_false]
        exact h.2 j hj k hk hjk hdj hdk
theorem wp_region_tail {id : Nat} {base : Act} {w0 : World} (hm : P.follows .mixedOrders = true) {FF : (Nat → Value) → Act} (hFF : ∀ x, putsF x 0 (ops.toList.map (·.dst)) base = FF x) (R : World → Prop) (Ws : List (Value → World → Prop)) (N : Nat) (L : List Nat)
    (hn : noTwice (ops.toList.map (·.dst)) = true) (hg : guardsIn ops base.tmps.size = true) (hwf : wellFormed ops = true) (hlen : Ws.length = N) (htl : tailOk ops N = true) (hLN : (L.all fun i => decide (i < N)) = true)
    (stays : AllStay Ws) (start : R w0.drew)
    (steps : OpStepsL P ops Q Ws R L FF (fun i => decide (N ≤ i)) 0 ops.toList)
    (fin : ∀ (x : Nat → Value) (w : World), R w → AllWords Ws x w 0 Ws → (∀ i ∈ L, ∀ j ∈ L, i ≠ j → x i ≠ x j) → tailWp P Q (ops.toList.drop N) (FF x) w) :
    (Code.region id ops true).wp P Q base w0 := by
  unfold tailOk at htl
  simp only [Bool.and_eq_true, List.all_eq_true, List.mem_range, Bool.or_eq_true, decide_eq_true_eq] at htl
  obtain ⟨⟨⟨t1, t2⟩, t3⟩, t4⟩ := htl
  have hword : ∀ (i : Nat), ∀ v w w', wordOf Ws i v w → Goes w w' → wordOf Ws i v w' := by
    intro i v w w' hw he
    unfold wordOf at hw ⊢
    cases hp : Ws[i]? with
    | none => trivial
    | some p =>
      rw [hp] at hw
      exact stays.mem p (List.mem_of_getElem? hp) _ _ _ hw he
  refine wp_region_joint hm (fun d x w => ClosedX ops d ∧ (((∀ j, N ≤ j → j < ops.size → d j = false) ∧ R w ∧ Apart L d x w ∧ ∀ i, i < N → d i = true → wordOf Ws i (x i) w) ∨
    (∃ m, N < m ∧ m ≤ ops.size ∧ (∀ i, i < m → d i = true) ∧ (∀ i, m ≤ i → i < ops.size → d i = false) ∧ tailWp P Q (ops.toList.drop m) (FF x) w))) hn hwf ?_ ?_ ?_
  · exact fun x => ⟨fun j o _ h => (by cases h), .inl ⟨fun _ _ _ => rfl, start, ⟨fun _ _ h => (by cases h), fun _ _ _ _ _ h => (by cases h)⟩, by simp⟩⟩
  · rintro i hi d x w ⟨hcl, hJ⟩ hd hdeps
    have hoi : ops[i]? = some ops[i] := Array.getElem?_eq_getElem hi
    have hmem : ops[i] ∈ ops.toList := by simp
    have hsrc : SrcX ops d ops[i] := hdeps
    have hwant : Region.wanted ops[i] (yielded ops (putsF x 0 (ops.toList.map (·.dst)) base).tmps) = wantedX ops[i] x := wanted_eq hn hg ops[i] hmem x
    have hset : (fun j => if j = i then true else d j) = setD d i := rfl
    have hcl2 : ClosedX ops (setD d i) := by
      intro j o hj hdj e he hb
      by_cases hji : j = i
      · subst hji
        rw [hoi] at hj
        obtain rfl := Option.some.inj hj
        exact setD_le d _ _ (hdeps e he hb)
      · rw [setD_ne d hji] at hdj
        exact setD_le d _ _ (hcl j o hj hdj e he hb)
    have hprev : N < i → d (i - 1) = true := by
      intro hNi
      rcases t2 i hi with h | h
      · omega
      · rcases Nat.eq_or_lt_of_le (Nat.sub_le i 1) with h1 | h1
        · omega
        · exact hsrc.reach (K := i) hcl hoi 19 (i - 1) (by omega) h
    have hput : ∀ v, FF (fun j => if j = i then v else x j) = (FF x).put (ops[i]).dst v := by
      intro v
      have := putsF_set x (ops.toList.map (·.dst)) 0 i base (ops[i]).dst v hn (by simp [hi])
      rw [Nat.zero_add] at this
      rw [← hFF, ← hFF, this]
    have hdrop : ops.toList.drop i = ops[i] :: ops.toList.drop (i + 1) := by
      rw [List.drop_eq_getElem_cons (by simpa using hi)]
      simp
    -- an operation of the tail
    have run : N ≤ i → (∀ j, j < i → d j = true) → (∀ j, i ≤ j → j < ops.size → d j = false) → tailWp P Q (ops.toList.drop i) (FF x) w →
        if Region.wanted ops[i] (yielded ops (putsF x 0 (ops.toList.map (·.dst)) base).tmps) = true
        then Oper.wp P ops[i] (putsF x 0 (ops.toList.map (·.dst)) base) w (fun a' w' => ∃ v, a' = (putsF x 0 (ops.toList.map (·.dst)) base).put (ops[i]).dst v ∧ (ClosedX ops (fun j => if j = i then true else d j) ∧ (((∀ j, N ≤ j → j < ops.size → (fun j => if j = i then true else d j) j = false) ∧ R w' ∧ Apart L (fun j => if j = i then true else d j) (fun j => if j = i then v else x j) w' ∧ ∀ k, k < N → (fun j => if j = i then true else d j) k = true → wordOf Ws k ((fun j => if j = i then v else x j) k) w') ∨
          (∃ m, N < m ∧ m ≤ ops.size ∧ (∀ k, k < m → (fun j => if j = i then true else d j) k = true) ∧ (∀ k, m ≤ k → k < ops.size → (fun j => if j = i then true else d j) k = false) ∧ tailWp P Q (ops.toList.drop m) (FF (fun j => if j = i then v else x j)) w')))) Q
        else (ClosedX ops (fun j => if j = i then true else d j) ∧ (((∀ j, N ≤ j → j < ops.size → (fun j => if j = i then true else d j) j = false) ∧ R w ∧ Apart L (fun j => if j = i then true else d j) (fun j => if j = i then undef else x j) w ∧ ∀ k, k < N → (fun j => if j = i then true else d j) k = true → wordOf Ws k ((fun j => if j = i then undef else x j) k) w) ∨
          (∃ m, N < m ∧ m ≤ ops.size ∧ (∀ k, k < m → (fun j => if j = i then true else d j) k = true) ∧ (∀ k, m ≤ k → k < ops.size → (fun j => if j = i then true else d j) k = false) ∧ tailWp P Q (ops.toList.drop m) (FF (fun j => if j = i then undef else x j)) w))) := by
      intro hNi hbefore hbehind htw
      have hgn : (ops[i]).guard = none := by
        have := t3 ops[i] (by
          rw [List.mem_iff_getElem?]
          exact ⟨i - N, by rw [List.getElem?_drop, show N + (i - N) = i by omega]; simp [hi]⟩)
        simpa using this
      have hwt : Region.wanted ops[i] (yielded ops (putsF x 0 (ops.toList.map (·.dst)) base).tmps) = true := by unfold Region.wanted; rw [hgn]
      rw [if_pos hwt, hFF x]
      rw [hdrop] at htw
      unfold tailWp at htw
      refine Oper.wp_mono ?_ htw
      rintro a' w' ⟨v, rfl, ht⟩
      refine ⟨v, rfl, hcl2, .inr ⟨i + 1, by omega, by omega, fun k hk => ?_, fun k hk hks => ?_, ?_⟩⟩
      · by_cases hki : k = i
        · simp [hki]
        · simp [hki, hbefore k (by omega)]
      · simp [show k ≠ i by omega, hbehind k (by omega) hks]
      · rw [hput v]; exact ht
    rcases hJ with ⟨hno, hR, hAp, hw⟩ | ⟨m, hNm, hms, hyes, hno, htw⟩
    · rcases Nat.lt_or_ge i N with hiN | hiN
      · have hs := OpStepsL.get steps i ops[i] (by simp [hi]) (by simp; omega)
        rw [Nat.zero_add] at hs
        have hD : Deps (wordOf Ws) x w (ops[i]).after.toList := Deps.of (fun e he hb => by
          have hdon := hdeps e he hb
          have hlt : e.on < i := by
            unfold wellFormed at hwf
            rw [List.all_eq_true] at hwf
            have := hwf (ops[i], i) (by rw [List.mem_zipIdx_iff_getElem?]; simp [hi])
            simp only [Array.all_eq_true'] at this
            have := this e (by simpa using he)
            simpa [hb] using this
          exact hw _ (by omega) hdon)
        have := hs x w hR hD
        have put : ∀ v w', wordOf Ws i v w' → Goes w w' → ∀ j, j < N → setD d i j = true → wordOf Ws j (if j = i then v else x j) w' := by
          intro v w' hv he j hj hdj
          by_cases hji : j = i
          · subst hji; simpa using hv
          · rw [setD_ne d hji] at hdj
            rw [if_neg hji]
            exact hword j _ _ _ (hw j hj hdj) he
        have keep : ∀ j, N ≤ j → j < ops.size → setD d i j = false := fun j hj hjs => by rw [setD_ne d (by omega)]; exact hno j hj hjs
        rw [hwant, hFF x]
        split
        · rename_i hwt
          refine Oper.wp_mono ?_ (this.1 hwt)
          rintro a' w' ⟨v, rfl, hv, hR', he, hLv⟩
          exact ⟨v, rfl, hcl2, .inl ⟨keep, hR', hAp.next hd he.size hLv, put v w' hv he⟩⟩
        · rename_i hwt
          obtain ⟨h1, h2⟩ := this.2 (by simpa using hwt)
          exact ⟨hcl2, .inl ⟨keep, hR, hAp.next hd (Nat.le_refl _) (fun h => by rw [h2] at h; cases h), put undef w h1 (Below.refl _ _)⟩⟩
      · have hiN' : i = N := by
          rcases Nat.eq_or_lt_of_le hiN with h | h
          · exact h.symm
          · have := hprev h
            rw [hno (i - 1) (by omega) (by omega)] at this; cases this
        subst hiN'
        have hall : ∀ j, j < i → d j = true := fun j hj => hsrc.reach (K := i) hcl hoi 19 j (by omega) (t1 j hj)
        refine run (Nat.le_refl _) hall (fun j hj hjs => hno j hj hjs) (fin x w hR (allWords_of Ws 0 (fun j _ => by simp) (fun j hj => hw j (by omega) (hall j (by omega)))) (fun p hp q hq hpq => hAp.2 p hp q hq hpq (hall p (by rw [List.all_eq_true] at hLN; simpa using hLN p hp)) (hall q (by rw [List.all_eq_true] at hLN; simpa using hLN q hq))))
    · have him : i = m := by
        rcases Nat.lt_or_ge i m with h | h
        · rw [hyes i h] at hd; cases hd
        · rcases Nat.eq_or_lt_of_le h with h | h
          · exact h.symm
          · have := hprev (by omega)
            rw [hno (i - 1) (by omega) (by omega)] at this; cases this
      subst him
      exact run (by omega) hyes hno htw
  · rintro d x w hall ⟨hcl, hJ⟩
    rw [hFF x]
    rcases hJ with ⟨hno, -, -⟩ | ⟨m, hNm, hms, hyes, hno, htw⟩
    · have := hno N (Nat.le_refl _) t4
      rw [hall N t4] at this; cases this
    · have : m = ops.size := by
        rcases Nat.eq_or_lt_of_le hms with h | h
        · exact h
        · have := hno m (Nat.le_refl _) h
          rw [hall m h] at this; cases this
      subst this
      rw [List.drop_of_length_le (by simp)] at htw
      exact htw
end
end Go.Proofs.YtpbbnpglcadimaaDoor
namespace Go.Proofs.YtpbbnpglcadimaaDoor
open Go.RowKit
set_option linter.unusedVariables false
set_option linter.unusedSimpArgs false
theorem Cs.mid {w : World} {b : Nat} {vs : List Value} (h : Cs w b vs) (news : List Value) (hl : news.length = vs.length) : Cs (w.setCells b 0 news) b news := by
  obtain ⟨k1, k2⟩ := setCells_heap w b news 0
  refine ⟨by rw [k1]; exact h.1, fun j hj => ⟨?_, by rw [World.frozen?_setCells]; exact (h.2 j (by omega)).2⟩⟩
  have := World.cell?_setCells_in b news 0 w (fun i hi => by rw [Nat.zero_add, (h.2 i (by omega)).1]; rfl) j hj
  rwa [Nat.zero_add] at this
theorem Cs.there {w : World} {b : Nat} {vs : List Value} (h : Cs w b vs) (n : Nat) (hn : vs.length = n) : w.there b 0 n := fun j hj => by
  rw [Nat.zero_add]; exact ⟨by rw [(h.2 j (by omega)).1]; rfl, (h.2 j (by omega)).2⟩
theorem Cs.range {w : World} {b : Nat} {vs : List Value} (h : Cs w b vs) : w.rangeAt b 0 vs := fun j v hv => by
  obtain ⟨hj, e⟩ := List.getElem?_eq_some_iff.1 hv
  rw [Nat.zero_add, ← e]; exact (h.2 j hj).1
theorem Cs.part {w : World} {b : Nat} {vs : List Value} (h : Cs w b vs) (o n : Nat) (cs : List Value) (hc : (vs.drop o).take n = cs := by rfl) : w.rangeAt b o cs := fun j v hv => by
  rw [← hc, List.getElem?_take] at hv
  split at hv
  · rw [List.getElem?_drop] at hv
    exact h.get _ _ hv
  · cases hv
theorem tail_cons {P : Program} {Q : Exit → Act → World → Prop} (o : Oper) (os : List Oper) (a : Act) (w : World) : tailWp P Q (o :: os) a w = Oper.wp P o a w (fun a' w' => ∃ v, a' = a.put o.dst v ∧ tailWp P Q os a' w') Q := rfl
theorem tail_nil {P : Program} {Q : Exit → Act → World → Prop} (a : Act) (w : World) : tailWp P Q [] a w = Q .normal a w := rfl
theorem results_cell1 {fn : Func} {p : Tmp} {ty : TypeId} (h : fn.results = #[.cell p ty]) (tmps : Array Value) (P : Program) (w : World) (b o : Nat) (cs : List Value) (d : TypeDesc) (hp : tmps.getD p undef = .pointer (some ⟨b, o, none⟩)) (hc : w.rangeAt b o cs)
    (hu : P.underlying ty = some d) (hd : d.isRow = true) (hi : (P.info? ty).map (·.size) = some cs.length) : (results fn tmps).run P w = .ok (.agg cs.toArray) w := by
  have hp2 : tmps[p]?.getD undef = .pointer (some ⟨b, o, none⟩) := by rw [← hp, Array.getD_eq_getD_getElem?]
  simp only [results, h]
  simp [Sem.run_bind, Result.andThen, hp2, asAddr, run_loadVar_mid w b o ty cs d hc hu hd hi]
end Go.Proofs.YtpbbnpglcadimaaDoor
namespace Go.Proofs.YtpbbnpglcadimaaDoor
open Go.RowKit
set_option linter.unusedVariables false
set_option linter.unusedSimpArgs false
set_option maxRecDepth 20000
attribute [local simp] putsF isV wordOf Deps Region.binds Region.wanted Act.put wantedX isB
theorem wp_binop {P : Program} {o : Oper} {a : Act} {w : World} {K : Act → World → Prop} {Q : Exit → Act → World → Prop} (k : BinOp) (t t' : TypeId) (x y : Operand) (ho : o.op = .binOp k t x y t') {vx vy v : Value} (hx : a.eval x = vx) (hy : a.eval y = vy)
    (hg : (eqGuard k t x y vx vy).run P w = .ok () w) (hr : (binOp k t vx vy).run P w = .ok v w) (h : K (a.put o.dst v) w) : Oper.wp P o a w K Q := by
  unfold Oper.wp execOp
  simp only [ho, hx, hy, hr, hg, Sem.run_bind, Sem.run_pure, Result.andThen_ok]
  exact h
def soaB (r : RecT) : Bool := r.2.1 == 6
theorem isSoa_any (r : RecT) (w : World) : Calls Tryd.prog 37 #[recV r] w fun e w' => e = .returned (.bool (soaB r)) ∧ Below w.heap.size w w' := by
  obtain ⟨r0, r1, r2, r3⟩ := r
  unfold recV soaB
  simp only
  have hb := (Below.refl w.heap.size w).alloc (Nat.le_refl _) (.cells #[.string r0, .int .u16 r1, .int .u32 r2, .string r3] 41)
  have HB := Lib.hid hb
  clear hb
  cases hq : (r1 == 6) with
  | true =>
    go_enter Tryd.func37, Tryd.ntmps37
    go_wp2_with fail
    go_ret
    exact ⟨rfl, HB.out⟩
  | false =>
    go_enter Tryd.func37, Tryd.ntmps37
    go_wp2_with fail
    go_ret
    exact ⟨rfl, HB.out⟩
/-- How often a record stands among others. -/
def cntR (a : RecT) (rs : List RecT) : Nat := (rs.filter fun r => eqB r a).length
theorem cntR_next (a : RecT) {rs : List RecT} {k : Nat} {r : RecT} (hr : rs[k]? = some r) : cntR a (rs.take (k + 1)) = cntR a (rs.take k) + (if eqB r a then 1 else 0) := by
  unfold cntR
  rw [List.take_add_one, hr, Option.toList_some, List.filter_append, List.length_append]
  cases h : eqB r a <;> simp [h]
theorem cntR_le (a : RecT) (rs : List RecT) : cntR a rs ≤ rs.length := List.length_filter_le _ _
/-- Is a transfer all there? -/
def doneR : List RecT → Bool
  | [] => false
  | [_] => true
  | a :: b :: t => if (soaB b && !(eqB b a)) = true then decide (3 ≤ cntR a (a :: b :: t)) else decide (2 ≤ cntR a (a :: b :: t))
theorem Recs.range {w : World} {A : Option Addr} {rs : List RecT} (h : Recs w A rs) {i : Nat} {r : RecT} (hr : rs[i]? = some r) : ∃ b off, A = some ⟨b, off, none⟩ ∧ b < w.heap.size ∧ w.rangeAt b (off + i * 4) (recCells r) := by
  obtain ⟨b, off, hA, hb, g0, g1, g2, g3⟩ := h i r hr
  refine ⟨b, off, hA, hb, fun j v hv => ?_⟩
  unfold recCells at hv
  match j, hv with
  | 0, hv => simp at hv; subst hv; exact g0
  | 1, hv => simp at hv; subst hv; exact g1
  | 2, hv => simp at hv; subst hv; exact g2
  | 3, hv => simp at hv; subst hv; exact g3
  | j + 4, hv => simp at hv
set_option maxHeartbeats 3200000 in
theorem done_any (A : Option Addr) (n c : Nat) (rs : List RecT) (w : World) (h : Recs w A rs) (hl : rs.length = n) (hn : n ≤ 1048576) :
    Calls Tryd.prog 19 #[.slice A n c] w fun e w' => e = .returned (.bool (doneR rs)) ∧ Below w.heap.size w w' := by
  match rs, h, hl with
  | [], h, hl =>
    obtain rfl : n = 0 := by simpa using hl.symm
    go_enter Tryd.func19, Tryd.ntmps19
    go_wp2_with fail
    go_ret
    exact ⟨rfl, Below.refl _ _⟩
  | [_], h, hl =>
    obtain rfl : n = 1 := by simpa using hl.symm
    go_enter Tryd.func19, Tryd.ntmps19
    go_wp2_with fail
    go_ret
    exact ⟨rfl, Below.refl _ _⟩
  | a :: b :: t, h, hl =>
    obtain ⟨rs, hrs⟩ : ∃ l, l = a :: b :: t := ⟨_, rfl⟩
    have h0 : rs[0]? = some a := by rw [hrs]; rfl
    have h1 : rs[1]? = some b := by rw [hrs]; rfl
    obtain ⟨res, hres⟩ : ∃ r, r = doneR (a :: b :: t) := ⟨_, rfl⟩
    have HRES : Hid (res = if (soaB b && !(eqB b a)) = true then decide (3 ≤ cntR a rs) else decide (2 ≤ cntR a rs)) := Lib.hid (by rw [hres, hrs]; rfl)
    rw [← hres]
    rw [← hrs] at h hl
    clear hres hrs
    have H := Lib.hid h
    have HL := Lib.hid hl
    have H0 := Lib.hid h0
    have H1 := Lib.hid h1
    have hn2 : ¬ (n : Int) < 2 := by
      have := (List.getElem?_eq_some_iff.1 h1).1
      omega
    have HN2 := Lib.hid (show 2 ≤ n by omega)
    clear h hl h0 h1
    go_enter Tryd.func19, Tryd.ntmps19
    go_wp2_with fail
    go_loopw [3, 14] (fun tv i wr => ∃ (k m : Nat), k ≤ n ∧ i = .int .i64 k ∧ tv = .int .i64 m ∧ Hid (m = cntR a (rs.take k)) ∧ Hid (Below w.heap.size w wr)) (fun _ i _ => n - (intOf i).toNat)
    case atStart => exact ⟨0, 0, Nat.zero_le _, rfl, rfl, Lib.hid rfl, Lib.hid (Below.refl _ _)⟩
    case round =>
      obtain ⟨k, m, hk, rfl, rfl, HM, HB⟩ := hrel
      have hmk : m ≤ k := by rw [HM.out]; exact Nat.le_trans (cntR_le _ _) (by rw [List.length_take]; omega)
      by_cases hlt : k < n
      · have hlt' : (k : Int) < n := by omega
        obtain ⟨r, hr⟩ : ∃ r, rs[k]? = some r := ⟨_, List.getElem?_eq_getElem (by rw [HL.out]; omega)⟩
        obtain ⟨bb, off, rfl, hbb, hrg⟩ := H.out.range hr
        obtain ⟨_, _, hAe, _, hrg0⟩ := H.out.range H0.out
        injection hAe with hAe; injection hAe with q1 q2; subst q1 q2
        have hnx := cntR_next a hr
        have HNX := Lib.hid hnx
        obtain ⟨x0, x1, x2, x3⟩ := r
        have HRG : Hid (wr.rangeAt bb (off + k * 4) [.string x0, .int .u16 x1, .int .u32 x2, .string x3]) := Lib.hid (fun j v hv => (HB.out.cell (p := ⟨bb, off + k * 4 + j, none⟩) hbb).trans (hrg j v hv))
        have HR0 : Hid (∀ wx, Below w.heap.size w wx → wx.rangeAt bb off (recCells a)) := Lib.hid (fun wx hb j v hv => (hb.cell (p := ⟨bb, off + j, none⟩) hbb).trans (by have := hrg0 j v hv; simpa using this))
        clear hr hrg hrg0 hnx
        have k0 := HRG.out 0 _ rfl
        have k1 := HRG.out 1 _ rfl
        have k2 := HRG.out 2 _ rfl
        have k3 := HRG.out 3 _ rfl
        rw [Nat.add_zero] at k0
        go_upto_region 7 with fail
        have hCB := Cs.new wr #[.string x0, .int .u16 x1, .int .u32 x2, .string x3] 41 [.string x0, .int .u16 x1, .int .u32 x2, .string x3]
        have hbB := (Below.refl wr.heap.size wr).alloc (Nat.le_refl _) (.cells #[.string x0, .int .u16 x1, .int .u32 x2, .string x3] 41)
        generalize wr.alloc (.cells #[.string x0, .int .u16 x1, .int .u32 x2, .string x3] 41) = w6 at *
        obtain ⟨g, hg⟩ : ∃ g, g = wr.heap.size := ⟨_, rfl⟩
        rw [← hg] at hCB ⊢
        have HCB := Lib.hid hCB
        have HB6 := Lib.hid (below_trans HB.out HB.out.size hbB)
        obtain ⟨VX, hVX⟩ : ∃ v, v = recV (x0, x1, x2, x3) := ⟨_, rfl⟩
        obtain ⟨VA, hVA⟩ : ∃ v, v = recV a := ⟨_, rfl⟩
        have HVX := Lib.hid hVX
        have HVA := Lib.hid hVA
        have HEQ : Hid (∀ w, (binOp .eql 41 VX VA).run Tryd.prog w = .ok (.bool (eqB (x0, x1, x2, x3) a)) w) := Lib.hid (fun w => by rw [HVX.out, HVA.out]; exact rec_eql (x0, x1, x2, x3) a w)
        have hn0 : (0 : Int) < n := by omega
        have hn0' : 0 < n := by omega
        clear hCB hbB hg hVX hVA k0 k1 k2 k3
        refine wp_region_goesG data_follows (fun x => by simp [putsF, Act.put]; rfl) w6.heap.size w6
          [isV VX, isV (.slice (some ⟨bb, off, none⟩) n c), isV (.pointer (some ⟨bb, off, none⟩)), isV VA, isV (.bool (eqB (x0, x1, x2, x3) a))]
          (by kernel_rfl) (by kernel_rfl) (by kernel_rfl) rfl ?_ (Below.refl _ _) ?_ ?_
        · repeat (first | exact trivial | refine ⟨isV_stays _, ?_⟩)
        · refine ⟨?_, ?_, ?_, ?_, ?_, trivial⟩
          all_goals
            intro x wx hR hd
            refine ⟨fun _ => ?_, fun hX => by simp at hX⟩
            simp at hd ⊢
          · refine wp_load_mid 41 _ rfl g 0 (by simp [go_sem]) _ _ (HCB.out.below hR).range Tryd.underlying41 rfl (by kernel_rfl) ?_
            exact next_same _ rfl HVX.out.symm hR
          · go_simp; exact next_same _ rfl rfl hR
          · go_simp; exact next_same _ rfl rfl hR
          · refine wp_load_mid 41 _ rfl bb off (by simp [go_sem, hd]) _ _ (HR0.out wx (below_trans HB6.out HB6.out.size hR)) Tryd.underlying41 rfl (by kernel_rfl) ?_
            exact next_same _ rfl HVA.out.symm hR
          · obtain ⟨hd0, hd1⟩ := hd
            exact wp_binop _ _ _ _ _ rfl hd0 hd1 (by rw [HVX.out, HVA.out]; first | kernel_rfl | rfl) (HEQ.out wx) (next_same _ rfl rfl hR)
        intro x w7 hR hx
        simp [AllWords] at hx
        have h4 : x 4 = .bool (eqB (x0, x1, x2, x3) a) := by simp [hx]
        rw [h4]
        clear hx h4
        have HB7 := Lib.hid (below_trans HB6.out HB6.out.size hR)
        clear hR
        cases hq : eqB (x0, x1, x2, x3) a with
        | true =>
          have HQ := Lib.hid hq
          clear hq
          go_wp2_with fail
          go_round
          case rel => exact ⟨k + 1, m + 1, by omega, by go_num, by go_num, Lib.hid (by rw [HNX.out, HQ.out, if_pos rfl, HM.out]), HB7⟩
          case measure => simp [intOf]; omega
        | false =>
          have HQ := Lib.hid hq
          clear hq
          go_wp2_with fail
          go_round
          case rel => exact ⟨k + 1, m, by omega, by go_num, rfl, Lib.hid (by rw [HNX.out, HQ.out, HM.out]; simp), HB7⟩
          case measure => simp [intOf]; omega
      · have hlt' : ¬ (k : Int) < n := by omega
        obtain rfl : k = n := by omega
        have htk : rs.take k = rs := List.take_of_length_le (by rw [HL.out]; omega)
        rw [htk] at HM
        obtain ⟨bb, off, rfl, hbb, hrg0⟩ := H.out.range H0.out
        obtain ⟨_, _, hAe, _, hrg1⟩ := H.out.range H1.out
        injection hAe with hAe; injection hAe with q1 q2; subst q1 q2
        have HR0 : Hid (∀ wx, Below w.heap.size w wx → wx.rangeAt bb off (recCells a)) := Lib.hid (fun wx hb j v hv => (hb.cell (p := ⟨bb, off + j, none⟩) hbb).trans (by have := hrg0 j v hv; simpa using this))
        have HR1 : Hid (∀ wx, Below w.heap.size w wx → wx.rangeAt bb (off + 4) (recCells b)) := Lib.hid (fun wx hb j v hv => (hb.cell (p := ⟨bb, off + 4 + j, none⟩) hbb).trans (by have := hrg1 j v hv; simpa using this))
        obtain ⟨VB, hVB⟩ : ∃ v, v = recV b := ⟨_, rfl⟩
        obtain ⟨VA, hVA⟩ : ∃ v, v = recV a := ⟨_, rfl⟩
        have HVB := Lib.hid hVB
        have HVA := Lib.hid hVA
        have HNQ : Hid (∀ w, (binOp .neq 41 VB VA).run Tryd.prog w = .ok (.bool (!eqB b a)) w) := Lib.hid (fun w => by rw [HVB.out, HVA.out]; exact rec_neq b a w)
        have IS : Hid (∀ w, Calls Tryd.prog 37 #[VB] w fun e w' => e = .returned (.bool (soaB b)) ∧ Below w.heap.size w w') := Lib.hid (fun w => by rw [HVB.out]; exact isSoa_any b w)
        have hn1 : (1 : Int) < k := by have := HN2.out; omega
        have hn0 : (0 : Int) < k := by omega
        have hn1' : 1 < k := by have := HN2.out; omega
        have hn0' : 0 < k := by omega
        clear htk hrg0 hrg1 hVA hVB hk hbb
        cases hsb : soaB b with
        | true =>
          rw [hsb] at IS
          have HSB := Lib.hid hsb
          clear hsb
          go_upto_region 10 with fail
          refine wp_region_goesG data_follows (fun x => by simp [putsF, Act.put]; rfl) wr.heap.size wr
            [isV (.slice (some ⟨bb, off, none⟩) k c), isV (.pointer (some ⟨bb, off + 4, none⟩)), isV VB, isV (.bool true), isV (.bool true), isV (.slice (some ⟨bb, off, none⟩) k c), isV (.pointer (some ⟨bb, off + 4, none⟩)), isV VB, isV (.slice (some ⟨bb, off, none⟩) k c), isV (.pointer (some ⟨bb, off, none⟩)), isV VA, isV (.bool (!eqB b a)), isV (.bool (!eqB b a))]
            (by kernel_rfl) (by kernel_rfl) (by kernel_rfl) rfl ?_ (Below.refl _ _) ?_ ?_
          · repeat (first | exact trivial | refine ⟨isV_stays _, ?_⟩)
          · refine ⟨?_, ?_, ?_, ?_, ?_, ?_, ?_, ?_, ?_, ?_, ?_, ?_, ?_, trivial⟩
            all_goals
              intro x wx hR hd
              simp at hd
              refine ⟨fun _ => ?_, fun hX => ?_⟩
              rotate_left
              focus (exfalso; first | (simp at hX; done) | (simp [hd] at hX; done))
            · (try simp [hd]); go_simp; exact next_same _ rfl rfl hR
            · (try simp [hd]); go_simp; exact next_same _ rfl rfl hR
            · refine wp_load_mid 41 _ rfl bb (off + 4) (by simp [go_sem, hd]) _ _ (HR1.out wx (below_trans HB.out HB.out.size hR)) Tryd.underlying41 rfl (by kernel_rfl) ?_
              exact next_same _ rfl HVB.out.symm hR
            · try simp [hd]
              go_simp
              go_at_call 37
              refine (IS.out wx).mono ?_
              rintro r wy ⟨rfl, hb⟩
              exact next_call _ rfl rfl hR hR.size hb
            · (try simp [hd]); go_simp; exact next_same _ rfl rfl hR
            · (try simp [hd]); go_simp; exact next_same _ rfl rfl hR
            · (try simp [hd]); go_simp; exact next_same _ rfl rfl hR
            · refine wp_load_mid 41 _ rfl bb (off + 4) (by simp [go_sem, hd]) _ _ (HR1.out wx (below_trans HB.out HB.out.size hR)) Tryd.underlying41 rfl (by kernel_rfl) ?_
              exact next_same _ rfl HVB.out.symm hR
            · (try simp [hd]); go_simp; exact next_same _ rfl rfl hR
            · (try simp [hd]); go_simp; exact next_same _ rfl rfl hR
            · refine wp_load_mid 41 _ rfl bb off (by simp [go_sem, hd]) _ _ (HR0.out wx (below_trans HB.out HB.out.size hR)) Tryd.underlying41 rfl (by kernel_rfl) ?_
              exact next_same _ rfl HVA.out.symm hR
            · obtain ⟨hd0, hd1, -⟩ := hd
              exact wp_binop _ _ _ _ _ rfl hd0 hd1 (by rw [HVB.out, HVA.out]; first | kernel_rfl | rfl) (HNQ.out wx) (next_same _ rfl rfl hR)
            · (try simp [hd]); go_simp; exact next_same _ rfl rfl hR
          intro x w7 hR hx
          simp [AllWords] at hx
          have h12 : x 12 = .bool (!eqB b a) := by simp [hx]
          rw [h12]
          clear hx h12
          have HB7 := Lib.hid (below_trans HB.out HB.out.size hR)
          clear hR
          cases hq : eqB b a with
          | true =>
            have hre : res = decide (2 ≤ m) := by rw [HRES.out, HSB.out, hq, HM.out]; rfl
            clear hq
            by_cases h2 : 2 ≤ m
            · have h2' : (2 : Int) ≤ m := by omega
              rw [decide_eq_true h2] at hre
              subst hre
              go_wp2_with fail
              go_ret
              exact ⟨rfl, HB7.out⟩
            · have h2' : ¬ (2 : Int) ≤ m := by omega
              rw [decide_eq_false h2] at hre
              subst hre
              go_wp2_with fail
              go_ret
              exact ⟨rfl, HB7.out⟩
          | false =>
            have hre : res = decide (3 ≤ m) := by rw [HRES.out, HSB.out, hq, HM.out]; rfl
            clear hq
            by_cases h2 : 3 ≤ m
            · have h2' : (3 : Int) ≤ m := by omega
              rw [decide_eq_true h2] at hre
              subst hre
              go_wp2_with fail
              go_ret
              exact ⟨rfl, HB7.out⟩
            · have h2' : ¬ (3 : Int) ≤ m := by omega
              rw [decide_eq_false h2] at hre
              subst hre
              go_wp2_with fail
              go_ret
              exact ⟨rfl, HB7.out⟩
        | false =>
          rw [hsb] at IS
          have HSB := Lib.hid hsb
          clear hsb
          go_upto_region 10 with fail
          refine wp_region_goesG data_follows (fun x => by simp [putsF, Act.put]; rfl) wr.heap.size wr
            [isV (.slice (some ⟨bb, off, none⟩) k c), isV (.pointer (some ⟨bb, off + 4, none⟩)), isV VB, isV (.bool false), isV (.bool false), isV undef, isV undef, isV undef, isV undef, isV undef, isV undef, isV undef, isV (.bool false)]
            (by kernel_rfl) (by kernel_rfl) (by kernel_rfl) rfl ?_ (Below.refl _ _) ?_ ?_
          · repeat (first | exact trivial | refine ⟨isV_stays _, ?_⟩)
          · refine ⟨?_, ?_, ?_, ?_, ?_, ?_, ?_, ?_, ?_, ?_, ?_, ?_, ?_, trivial⟩
            all_goals
              intro x wx hR hd
              simp at hd
            · refine ⟨fun _ => ?_, fun hX => by first | (simp at hX; done) | (simp [hd] at hX; done)⟩
              (try simp [hd]); go_simp; exact next_same _ rfl rfl hR
            · refine ⟨fun _ => ?_, fun hX => by first | (simp at hX; done) | (simp [hd] at hX; done)⟩
              (try simp [hd]); go_simp; exact next_same _ rfl rfl hR
            · refine ⟨fun _ => ?_, fun hX => by first | (simp at hX; done) | (simp [hd] at hX; done)⟩
              refine wp_load_mid 41 _ rfl bb (off + 4) (by simp [go_sem, hd]) _ _ (HR1.out wx (below_trans HB.out HB.out.size hR)) Tryd.underlying41 rfl (by kernel_rfl) ?_
              exact next_same _ rfl HVB.out.symm hR
            · refine ⟨fun _ => ?_, fun hX => by first | (simp at hX; done) | (simp [hd] at hX; done)⟩
              try simp [hd]
              go_simp
              go_at_call 37
              refine (IS.out wx).mono ?_
              rintro r wy ⟨rfl, hb⟩
              exact next_call _ rfl rfl hR hR.size hb
            · refine ⟨fun _ => ?_, fun hX => by first | (simp at hX; done) | (simp [hd] at hX; done)⟩
              (try simp [hd]); go_simp; exact next_same _ rfl rfl hR
            · refine ⟨fun hX => ?_, fun _ => rfl⟩
              exfalso; first | (simp [hd] at hX; done) | (simp [hd, undef] at hX; done)
            · refine ⟨fun hX => ?_, fun _ => rfl⟩
              exfalso; first | (simp [hd] at hX; done) | (simp [hd, undef] at hX; done)
            · refine ⟨fun hX => ?_, fun _ => rfl⟩
              exfalso; first | (simp [hd] at hX; done) | (simp [hd, undef] at hX; done)
            · refine ⟨fun hX => ?_, fun _ => rfl⟩
              exfalso; first | (simp [hd] at hX; done) | (simp [hd, undef] at hX; done)
            · refine ⟨fun hX => ?_, fun _ => rfl⟩
              exfalso; first | (simp [hd] at hX; done) | (simp [hd, undef] at hX; done)
            · refine ⟨fun hX => ?_, fun _ => rfl⟩
              exfalso; first | (simp [hd] at hX; done) | (simp [hd, undef] at hX; done)
            · refine ⟨fun hX => ?_, fun _ => rfl⟩
              exfalso; first | (simp [hd] at hX; done) | (simp [hd, undef] at hX; done)
            · refine ⟨fun _ => ?_, fun hX => by first | (simp at hX; done) | (simp [hd] at hX; done)⟩
              (try simp [hd]); go_simp; exact next_same _ rfl rfl hR
          intro x w7 hR hx
          simp [AllWords] at hx
          have h12 : x 12 = .bool false := by simp [hx]
          rw [h12]
          clear hx h12
          have HB7 := Lib.hid (below_trans HB.out HB.out.size hR)
          clear hR
          have hre : res = decide (2 ≤ m) := by rw [HRES.out, HSB.out, HM.out]; rfl
          by_cases h2 : 2 ≤ m
          · have h2' : (2 : Int) ≤ m := by omega
            rw [decide_eq_true h2] at hre
            subst hre
            go_wp2_with fail
            go_ret
            exact ⟨rfl, HB7.out⟩
          · have h2' : ¬ (2 : Int) ≤ m := by omega
            rw [decide_eq_false h2] at hre
            subst hre
            go_wp2_with fail
            go_ret
            exact ⟨rfl, HB7.out⟩
end Go.Proofs.YtpbbnpglcadimaaDoor
namespace Go.Proofs.YtpbbnpglcadimaaDoor
open Go.RowKit
set_option linter.unusedVariables false
set_option linter.unusedSimpArgs false
set_option maxRecDepth 20000
set_option maxHeartbeats 800000 in
theorem make7_gen (A : Option Addr) (n c : Nat) (zs : List Int) (w : World) (hA : Sl w w.heap.size 1 A n (zs.map (Value.int .u8))) (hz : ∀ z ∈ zs, 0 ≤ z ∧ z < 256) (hn : n ≤ 140737488355328) (s r y e : Nat) (hs : s < 4294967296) (hr : r < 256) (hy : y < 256) (he : e < 256) :
    Calls Tryd.prog 26 #[.slice A n c, .int .u32 s, .int .u8 r, .int .u8 y, .int .u8 e] w fun ex w' => ex = .returned (sv (dataL (nameZ zs) (nameZ zs) [s, r, y, e, 1])) ∧ Below w.heap.size w w' := by
  have NA := Lib.hid (name_any A n c zs w hA hz (by unfold maxLen; omega))
  have lN := nameZ_len zs hz
  generalize nameZ zs = X at *
  obtain ⟨N, hN⟩ : ∃ N, N = ByteArray.mk X.toArray := ⟨_, rfl⟩
  have nX : N.data.toList = X := by rw [hN, mk_toList]
  have sN : N.size ≤ 84 := by rw [hN, mk_size]; exact lN
  unfold sv at NA
  rw [← hN] at NA
  have i1 : IntKind.u32.wrap (r : Int) = r := by rw [IntKind.wrap_u32']; omega
  have i2 : IntKind.u32.wrap (y : Int) = y := by rw [IntKind.wrap_u32']; omega
  have i3 : IntKind.u32.wrap (e : Int) = e := by rw [IntKind.wrap_u32']; omega
  have q1 : ¬ 9223372036854775807 < N.size + 1 := by omega
  have q2 : ¬ 9223372036854775807 < N.size + 1 + N.size := by omega
  have q3 : ¬ 9223372036854775807 < N.size + 1 + N.size + 1 := by omega
  have q4 : ¬ 9223372036854775807 < N.size + 1 + N.size + 1 + 20 := by omega
  clear hN hA hz lN
  go_enter Tryd.func26, Tryd.ntmps26
  go_wp2_with fail
  refine NA.out.mono ?_
  rintro ex w1 ⟨rfl, hb1⟩
  clear NA
  go_wp2_with fail
  refine (put32_any none 0 0 [] _ 5 5 [s, r, y, e, 1] _ (Sl.nil _ _ _ _) (fun _ => ⟨rfl, rfl⟩) (Sl.fresh _ _ _ _ _ rfl rfl) (by simp; omega) (by omega)).mono ?_
  rintro ex w3 ⟨g, rfl, hown, hb3⟩
  have hB3 := below_alloc _ hb1 hb1.size hb3
  have hcv := run_string_own (P := Tryd.prog) w3 64 9 5 _ _ _ _ _ Tryd.underlying64 Tryd.underlying5 Tryd.underlying9 hown
  have hlT : ([] ++ List.flatMap b32 [s, r, y, e, 1]).length = 20 := by rw [List.nil_append, b32_len]; rfl
  obtain ⟨L, hL⟩ : ∃ L, [] ++ List.flatMap b32 [s, r, y, e, 1] = L := ⟨_, rfl⟩
  rw [hL] at hcv hlT
  obtain ⟨T, hT⟩ : ∃ T, T = (ByteArray.mk L.toArray) := ⟨_, rfl⟩
  rw [← hT] at hcv
  have sT : T.size = 20 := by rw [hT, mk_size]; exact hlT
  have hfin : Value.string (N ++ ⟨#[0]⟩ ++ N ++ ⟨#[0]⟩ ++ T) = sv (dataL X X [s, r, y, e, 1]) := by
    rw [hT, ← hL, sv_append]
    unfold sv dataL
    simp [nX]
  have HF := Lib.hid hfin
  have q5 : ¬ 9223372036854775807 < (N ++ ⟨#[0]⟩ ++ N ++ ⟨#[0]⟩ : ByteArray).size + T.size := by simp only [ByteArray.size_append]; show ¬ _ < N.size + 1 + N.size + 1 + T.size; omega
  have q6 : ¬ 9223372036854775807 < N.size + 1 + N.size + 1 + T.size := by omega
  clear hown hT hL hlT hfin sT nX
  go_wp2_with fail
  go_ret
  exact ⟨by rw [← HF.out]; rfl, hB3⟩

/-- The data of a zone's SOA of a serial number. -/
def soaD (n : Nat) : ByteArray := ⟨(dataL (nameZ []) (nameZ []) [n, 10, 3, 40, 1]).toArray⟩
/-- A zone's SOA. -/
def soaR (o : ByteArray) (n : Nat) : RecT := (o, 6, 9, soaD n)
/-- A zone's name, by a number. -/
def originB (n : Nat) : ByteArray := ⟨(nameZ [((n % 6 : Nat) : Int)]).toArray⟩
set_option maxHeartbeats 1600000 in
theorem soa9_any (o : ByteArray) (n : Nat) (hn : n < 4294967296) (w : World) : Calls Tryd.prog 10 #[.string o, .int .u32 (n : Nat)] w fun e w' => e = .returned (recV (soaR o n)) ∧ Below w.heap.size w w' := by
  have MK : Hid (∀ w, Calls Tryd.prog 26 #[.slice none 0 0, .int .u32 (n : Nat), .int .u8 10, .int .u8 3, .int .u8 40] w fun e w' => e = .returned (.string (soaD n)) ∧ Below w.heap.size w w') :=
    Lib.hid (fun w => make7_gen none 0 0 [] w (Sl.nil _ _ _ _) (by simp) (by omega) n 10 3 40 hn (by omega) (by omega) (by omega))
  unfold soaR recV
  simp only
  generalize soaD n = D at *
  have hb := (Below.refl w.heap.size w).alloc (Nat.le_refl _) (.cells #[.string ⟨#[]⟩, .int .u16 0, .int .u32 0, .string ⟨#[]⟩] 41)
  have hC := Cs.new w #[.string ⟨#[]⟩, .int .u16 0, .int .u32 0, .string ⟨#[]⟩] 41 [.string ⟨#[]⟩, .int .u16 0, .int .u32 0, .string ⟨#[]⟩]
  have H0 := Lib.hid (And.intro hb hC)
  clear hb hC
  go_enter Tryd.func10, Tryd.ntmps10
  go_wp2_with fail
  refine (MK.out _).mono ?_
  rintro e w1 ⟨rfl, hb1⟩
  have hC1 := H0.out.2.below hb1
  have HTH := Lib.hid (hC1.there 4 rfl)
  have HM := Lib.hid (hC1.mid [.string o, .int .u16 6, .int .u32 9, .string D] rfl)
  have HBM := Lib.hid (below_setCells' (B := w.heap.size) (g := w.heap.size) (Nat.le_refl _) [.string o, .int .u16 6, .int .u32 9, .string D] 0 (below_trans H0.out.1 H0.out.1.size hb1))
  clear hb1 hC1
  go_wp2_with (first | refine wpList_store_mid rfl 41 _ _ rfl w.heap.size 0 #[.string o, .int .u16 6, .int .u32 9, .string D] rfl rfl HTH.out (by kernel_rfl) (by simp [Value.oneCell']) ?_)
  exact bodyPost_ret (v := .agg #[.string o, .int .u16 6, .int .u32 9, .string D]) (results_cell1 Tryd.results10 _ _ _ w.heap.size 0 _ _ rfl HM.out.range Tryd.underlying41 rfl (by kernel_rfl)) rfl ⟨rfl, HBM.out⟩
set_option maxHeartbeats 1600000 in
theorem origin_any (n : Nat) (hn : n < 256) (w : World) : Calls Tryd.prog 6 #[.int .u8 (n : Nat)] w fun e w' => e = .returned (.string (originB n)) ∧ Below w.heap.size w w' := by
  have hm : (n : Int).tmod 6 = ((n % 6 : Nat) : Int) := by rw [Int.tmod_eq_emod_of_nonneg (by omega)]; omega
  have NM : Hid (Calls Tryd.prog 20 #[.slice (some ⟨w.heap.size, 0, none⟩) 1 1] (w.alloc (.cells #[.int .u8 ((n % 6 : Nat) : Int)] 5)) fun e w' => e = .returned (.string (originB n)) ∧ Below (w.alloc (.cells #[.int .u8 ((n % 6 : Nat) : Int)] 5)).heap.size (w.alloc (.cells #[.int .u8 ((n % 6 : Nat) : Int)] 5)) w') :=
    Lib.hid (name_any (some ⟨w.heap.size, 0, none⟩) 1 1 [((n % 6 : Nat) : Int)] _ (Sl.fresh _ _ _ 1 _ rfl rfl) (by intro z hz; rw [List.mem_singleton] at hz; subst hz; omega) (by decide))
  generalize originB n = O at *
  obtain ⟨q, hq⟩ : ∃ q : Nat, q = n % 6 := ⟨_, rfl⟩
  rw [← hq] at hm NM
  clear hq
  go_enter Tryd.func6, Tryd.ntmps6
  go_wp2_with fail
  refine NM.out.mono ?_
  rintro e w1 ⟨rfl, hb1⟩
  have HB := Lib.hid (below_alloc _ (Below.refl w.heap.size w) (Nat.le_refl _) hb1)
  clear hb1
  go_wp2_with fail
  go_ret
  exact ⟨rfl, HB.out⟩
end Go.Proofs.YtpbbnpglcadimaaDoor
namespace Go.Proofs.YtpbbnpglcadimaaDoor
open Go.RowKit
set_option linter.unusedVariables false

/-! ### Join -/
def joinOf (s t : ByteArray) : Option ByteArray := if (labelsOf s).isSome = true ∧ (labelsOf t).isSome = true ∧ s.size + t.size ≤ 254 then some (s ++ t) else none
def strOf (o : Option ByteArray) : ByteArray := o.getD ⟨#[]⟩
theorem may_size {s : ByteArray} (h : (labelsOf s).isSome = true) : s.size ≤ 254 := by
  unfold labelsOf nameLabels at h
  split at h
  · simpa using ‹_›
  · cases h
set_option maxHeartbeats 1600000 in
theorem join_any (s t : ByteArray) (w : World) (hs : s.size ≤ maxLen) (ht : t.size ≤ maxLen) :
    Calls Tryd.prog 28 #[.string s, .string t] w fun e w' => e = .returned (.tuple #[.string (strOf (joinOf s t)), .bool (joinOf s t).isSome]) ∧ Below w.heap.size w w' := by
  have hms := fun w => may_any s w hs
  have hmt := fun w => may_any t w ht
  by_cases h : (labelsOf s).isSome = true ∧ (labelsOf t).isSome = true ∧ s.size + t.size ≤ 254
  · have hj : joinOf s t = some (s ++ t) := by unfold joinOf; rw [if_pos h]
    rw [hj]
    rw [h.1] at hms
    rw [h.2.1] at hmt
    have h3 : ¬ (254 : Int) < (s.size : Int) + t.size := by omega
    have h4 : s.size + t.size ≤ 254 := h.2.2
    have HS := Lib.hid hms
    have HT := Lib.hid hmt
    clear hms hmt h hj
    go_enter Tryd.func28, Tryd.ntmps28
    go_wp2_with fail
    refine (HS.out _).mono ?_
    rintro e w1 ⟨rfl, hb1⟩
    go_wp2_with fail
    refine (HT.out _).mono ?_
    rintro e w2 ⟨rfl, hb2⟩
    have hb := hb1.trans (hb2.mono hb1.size)
    clear hb1 hb2
    go_wp2_with fail
    go_ret2
    exact ⟨rfl, hb⟩
  · have hj : joinOf s t = none := by unfold joinOf; rw [if_neg h]
    rw [hj]
    have hc : (labelsOf s).isSome = false ∨ ((labelsOf s).isSome = true ∧ (labelsOf t).isSome = false) ∨ ((labelsOf s).isSome = true ∧ (labelsOf t).isSome = true ∧ 254 < s.size + t.size) := by
      cases h1 : (labelsOf s).isSome <;> cases h2 : (labelsOf t).isSome <;> simp
      rw [h1, h2] at h
      simp at h
      omega
    clear hj h
    rcases hc with h1 | ⟨h1, h2⟩ | ⟨h1, h2, h3⟩
    · rw [h1] at hms
      have HS := Lib.hid hms
      clear hms h1 hmt
      go_enter Tryd.func28, Tryd.ntmps28
      go_wp2_with fail
      refine (HS.out _).mono ?_
      rintro e w1 ⟨rfl, hb1⟩
      go_wp2_with fail
      go_ret2
      exact ⟨rfl, hb1⟩
    · rw [h1] at hms
      rw [h2] at hmt
      have HS := Lib.hid hms
      have HT := Lib.hid hmt
      clear hms h1 hmt h2
      go_enter Tryd.func28, Tryd.ntmps28
      go_wp2_with fail
      refine (HS.out _).mono ?_
      rintro e w1 ⟨rfl, hb1⟩
      go_wp2_with fail
      refine (HT.out _).mono ?_
      rintro e w2 ⟨rfl, hb2⟩
      have hb := hb1.trans (hb2.mono hb1.size)
      clear hb1 hb2
      go_wp2_with fail
      go_ret2
      exact ⟨rfl, hb⟩
    · have ms := may_size h1
      have mt := may_size h2
      rw [h1] at hms
      rw [h2] at hmt
      have h3' : (254 : Int) < (s.size : Int) + t.size := by omega
      have HS := Lib.hid hms
      have HT := Lib.hid hmt
      clear hms h1 hmt h2
      go_enter Tryd.func28, Tryd.ntmps28
      go_wp2_with fail
      refine (HS.out _).mono ?_
      rintro e w1 ⟨rfl, hb1⟩
      go_wp2_with fail
      refine (HT.out _).mono ?_
      rintro e w2 ⟨rfl, hb2⟩
      have hb := hb1.trans (hb2.mono hb1.size)
      clear hb1 hb2
      go_wp2_with fail
      go_ret2
      exact ⟨rfl, hb⟩
/-! ### Parent -/
def parentOf (s : ByteArray) : Option (List UInt8) := match labelsOf s with | some (_ :: ls) => some (wire ls) | _ => none
end Go.Proofs.YtpbbnpglcadimaaDoor
namespace Go.Proofs.YtpbbnpglcadimaaDoor
open Go.RowKit
set_option linter.unusedVariables false
set_option linter.unusedSimpArgs false
set_option maxRecDepth 20000
/-- A name below another one; that one, where it is too long. -/
def underN (o s : ByteArray) : ByteArray := if (joinOf s o).isSome = true then strOf (joinOf s o) else o
/-- A record below a name. -/
def underR (o : ByteArray) (soas : Bool) (a : ActT) : RecT :=
  if ((recOf a).2.1 == 6) = true then (if soas = true then soaR o (a.2.2.1.toNat % 6) else (o, 16, a.2.2.1, ⟨#[1, 120]⟩)) else (underN o (recOf a).1, (recOf a).2.1, (recOf a).2.2.1, (recOf a).2.2.2)
def undersOf (o : ByteArray) (soas : Bool) (ds : List ActT) (most : Nat) : List RecT := (ds.take most).map (underR o soas)
theorem undersOf_len (o : ByteArray) (s : Bool) (ds : List ActT) (most : Nat) : (undersOf o s ds most).length = min most ds.length := by unfold undersOf; simp
theorem undersOf_next {o : ByteArray} {s : Bool} {ds : List ActT} {most k : Nat} {a : ActT} (hk : k < most) (ha : ds[k]? = some a) : undersOf o s (ds.take (k + 1)) most = undersOf o s (ds.take k) most ++ [underR o s a] := by
  unfold undersOf
  rw [List.take_take, List.take_take, Nat.min_eq_right (by omega), Nat.min_eq_right (by omega), List.take_add_one, ha]
  simp
theorem recCells_one (r : RecT) : ∀ u ∈ recCells r, u.oneCell' = true := by
  intro u hu
  unfold recCells at hu
  simp at hu
  rcases hu with rfl | rfl | rfl | rfl <;> rfl
theorem rec_zero : (Tryd.prog.info? 41).map (fun i => (i.zero, i.size, i.bytes)) = some (some (.agg #[.string ⟨#[]⟩, .int .u16 0, .int .u32 0, .string ⟨#[]⟩]), 4, 40) := by kernel_rfl
set_option maxHeartbeats 6400000 in
theorem under_any (o : ByteArray) (A : Option Addr) (n c most : Nat) (soas : Bool) (ds : List ActT) (w : World) (h : ActsAt w A n ds) (hn : n ≤ maxLen) (hm : most ≤ 1000) (ho : o.size ≤ maxLen) :
    Calls Tryd.prog 12 #[.string o, .slice A n c, .int .i64 (most : Nat), .bool soas] w fun e w' => ∃ v, e = .returned v ∧ OBM 4 w.heap.size w v (undersOf o soas ds most).length (flatR (undersOf o soas ds most)) w' := by
  unfold maxLen at hn
  have hl := h.len
  obtain ⟨i0, hi, hz0, hz1, hz2⟩ := info_parts4 rec_zero
  have H := Lib.hid h
  have HL := Lib.hid hl
  have HO0 := Lib.hid ho
  have HMOST := Lib.hid hm
  clear h hl ho
  go_enter Tryd.func12, Tryd.ntmps12
  go_wp2_with fail
  go_loopw [9, 17] (fun v i wr => ∃ k : Nat, k ≤ n ∧ k ≤ most ∧ i = .int .i64 k ∧ Hid (OBM 4 w.heap.size w v (undersOf o soas (ds.take k) most).length (flatR (undersOf o soas (ds.take k) most)) wr)) (fun _ i _ => n - (intOf i).toNat)
  case atStart => exact ⟨0, Nat.zero_le _, Nat.zero_le _, rfl, Lib.hid (by have := OBM.start (sz := 4) w; simpa [undersOf, flatR] using this)⟩
  case round =>
    obtain ⟨k, hk, hkm, rfl, HB⟩ := hrel
    by_cases hlt : k < n
    · have hlt' : (k : Int) < n := by omega
      obtain ⟨a, ha⟩ : ∃ r, ds[k]? = some r := ⟨_, List.getElem?_eq_getElem (by rw [HL.out]; omega)⟩
      have hA := H.out.below (HB.out.bel)
      obtain ⟨b, off, rfl, hb, g0, g1, g2, g3, g4⟩ := hA.cells k a ha
      have hok := hA.ok a (List.mem_of_getElem? ha)
      unfold rowV at g0 g3
      by_cases hkeq : k = most
      · have hki : ((k : Int) == (most : Int)) = true := by rw [beq_iff_eq]; omega
        have hend : undersOf o soas (ds.take k) most = undersOf o soas ds most := by
          unfold undersOf
          rw [List.take_take, Nat.min_eq_right (by omega), hkeq]
        have HE := Lib.hid hend
        clear hA hok ha hend
        subst hkeq
        go_wp2_with fail
        go_ret
        have := HB.out.alloc (.cells #[.slice a.1.1 a.1.2.1 a.1.2.2.1, .int .u8 a.2.1, .int .u32 a.2.2.1, .slice a.2.2.2.1.1 a.2.2.2.1.2.1 a.2.2.2.1.2.2.1, .string a.2.2.2.2] 75)
        rw [HE.out] at this
        exact ⟨_, rfl, this⟩
      · have hki : ((k : Int) == (most : Int)) = false := by rw [beq_eq_false_iff_ne]; omega
        have hkm' : k < most := by omega
        have hnx := undersOf_next (o := o) (s := soas) hkm' ha
        have RC := Lib.hid (fun w h => record_any a w h)
        unfold actA rowV at RC
        have hun : underR o soas a = underR o soas a := rfl
        unfold underR at hun
        have HNX := Lib.hid hnx
        have HOK := Lib.hid hok
        have hlen := undersOf_len o soas (ds.take k) most
        have HL2 := Lib.hid (show (undersOf o soas (ds.take k) most).length ≤ 1000 by omega)
        have hT := hok.t
        have hrn : (recOf a).1.size ≤ maxLen := by unfold recOf nmB; rw [mk_size]; exact Nat.le_trans (nameZ_le _ (intsB_ok _)) (by decide)
        clear hA hok ha hnx hlen hun
        generalize hrs : undersOf o soas (ds.take k) most = rs at *
        clear hrs
        obtain ⟨TT, hTT⟩ : ∃ t : Nat, a.2.2.1 = t := ⟨a.2.2.1.toNat, by omega⟩
        obtain ⟨r, hr⟩ : ∃ r, recOf a = r := ⟨_, rfl⟩
        obtain ⟨ur, hur⟩ : ∃ u, u = underR o soas a := ⟨_, rfl⟩
        have HUR : Hid (ur = if (r.2.1 == 6) = true then (if soas = true then soaR o (TT % 6) else (o, 16, (TT : Int), ⟨#[1, 120]⟩)) else (underN o r.1, r.2.1, r.2.2.1, r.2.2.2)) := Lib.hid (by rw [hur, ← hr]; unfold underR; rw [hTT]; simp)
        rw [hr] at RC hrn
        have HR0S := Lib.hid hrn
        clear hrn
        rw [← hur] at HNX
        rw [hTT] at g2 hT RC
        have hT2 : TT < 4294967296 := by omega
        clear hr hur hTT hT
        obtain ⟨r0, r1, r2, r3⟩ := r
        unfold recV at RC
        simp only at RC HUR HR0S
        go_wp2_with fail
        refine (RC.out _ (HOK.out.below ((Below.refl _ _).alloc (Nat.le_refl _) _))).mono ?_
        rintro e w2 ⟨rfl, hb2⟩
        have hbA : Below wr.heap.size wr w2 := below_alloc _ (Below.refl _ _) (Nat.le_refl _) hb2
        have hCA := (Cs.new wr #[.slice a.1.1 a.1.2.1 a.1.2.2.1, .int .u8 a.2.1, .int .u32 (TT : Nat), .slice a.2.2.2.1.1 a.2.2.2.1.2.1 a.2.2.2.1.2.2.1, .string a.2.2.2.2] 75 [.slice a.1.1 a.1.2.1 a.1.2.2.1, .int .u8 a.2.1, .int .u32 (TT : Nat), .slice a.2.2.2.1.1 a.2.2.2.1.2.1 a.2.2.2.1.2.2.1, .string a.2.2.2.2]).below hb2
        have hC2 := Cs.new w2 #[.string r0, .int .u16 r1, .int .u32 r2, .string r3] 41 [.string r0, .int .u16 r1, .int .u32 r2, .string r3]
        have hCA2 := hCA.alloc (.cells #[.string r0, .int .u16 r1, .int .u32 r2, .string r3] 41)
        have hb3 := hbA.alloc hbA.size (.cells #[.string r0, .int .u16 r1, .int .u32 r2, .string r3] 41)
        have hr0s : r0.size ≤ maxLen := HR0S.out
        have JN := Lib.hid (fun w => join_any r0 o w hr0s HO0.out)
        have H3 := Lib.hid (And.intro hC2 (And.intro hCA2 hb3))
        have HG := Lib.hid (show wr.heap.size < w2.heap.size by have := hCA.lt; exact this)
        clear hb2 hbA hCA hC2 hCA2 hb3 hr0s g0 g1 g2 g3 g4
        go_upto_region 7 with fail
        obtain ⟨hC2, hCA2, hb3⟩ := H3.out
        generalize w2.alloc (.cells #[.string r0, .int .u16 r1, .int .u32 r2, .string r3] 41) = w3 at *
        obtain ⟨g12, hg12⟩ : ∃ g, g = w2.heap.size := ⟨_, rfl⟩
        obtain ⟨g11, hg11⟩ : ∃ g, g = wr.heap.size := ⟨_, rfl⟩
        have hgg := HG.out
        rw [← hg12] at hC2 hgg ⊢
        rw [← hg11] at hCA2 hgg ⊢
        have HG12 : Hid (wr.heap.size ≤ g12) := Lib.hid (by omega)
        have HNE : Hid (g11 ≠ g12) := Lib.hid (by omega)
        have HC3 := Lib.hid (And.intro hC2 (And.intro hCA2 hb3))
        have c0 := hC2.get 0 _
        clear hC2 hCA2 hb3 hg12 hg11 hgg H3
        go_wp2_with fail
        refine (JN.out _).mono ?_
        rintro e w4 ⟨rfl, hb4⟩
        clear c0
        have hC4 := HC3.out.1.below hb4
        have hA4 := HC3.out.2.1.below hb4
        have hB4 := HC3.out.2.2.trans (hb4.mono HC3.out.2.2.size)
        have c0 := hC4.get 0 _
        have f0 := hC4.froz 0 (by simp)
        obtain ⟨JS, hJS⟩ : ∃ x, x = strOf (joinOf r0 o) := ⟨_, rfl⟩
        rw [← hJS]
        have HJS := Lib.hid hJS
        clear hJS hb4
        cases hjb : (joinOf r0 o).isSome with
        | true =>
          have HJB := Lib.hid hjb
          have HC5 := Lib.hid (And.intro (hC4.set' 0 (.string JS) (by simp)) (And.intro (hA4.other g12 0 (.string JS) HNE.out.symm) (hB4.setCell (p := ⟨g12, 0, none⟩) HG12.out (.string JS))))
          have HC5 : Hid (Cs (w4.setCell ⟨g12, 0, none⟩ (.string JS)) g12 [.string JS, .int .u16 r1, .int .u32 r2, .string r3] ∧ Cs (w4.setCell ⟨g12, 0, none⟩ (.string JS)) g11 [.slice a.1.1 a.1.2.1 a.1.2.2.1, .int .u8 a.2.1, .int .u32 (TT : Nat), .slice a.2.2.2.1.1 a.2.2.2.1.2.1 a.2.2.2.1.2.2.1, .string a.2.2.2.2] ∧ Below wr.heap.size wr (w4.setCell ⟨g12, 0, none⟩ (.string JS))) := HC5
          clear hC4 hA4 hB4 hjb
          go_upto_region 11 with fail
          generalize w4.setCell ⟨g12, 0, none⟩ (.string JS) = w5 at *
          have hC := HC5.out.1
          have hB5 := HC5.out.2.2
          have c1 := hC.get 1 _
          have c2 := HC5.out.2.1.get 2 _
          have hun : underN o r0 = JS := by unfold underN; rw [HJB.out, if_pos rfl, HJS.out]
          have HUN := Lib.hid hun
          clear hun f0 c0
          cases hq6 : (r1 == 6) with
          | false =>
            have hur : ur = (JS, r1, r2, r3) := by rw [HUR.out, hq6, HUN.out]; rfl
            clear c2
            go_upto_region 15 with fail
            have HRX := Lib.hid hC.range
            have ho := Lib.hid ((HB.out.keep hB5 (Nat.le_refl _)).alloc (.cells #[.string JS, .int .u16 r1, .int .u32 r2, .string r3] 41))
            have hS : Hid (Src Tryd.prog 4 27 (.slice (some ⟨w5.heap.size, 0, none⟩) 1 1) 1 [.string JS, .int .u16 r1, .int .u32 r2, .string r3] (w5.alloc (.cells #[.string JS, .int .u16 r1, .int .u32 r2, .string r3] 41))) := by
              refine Lib.hid (Src.ofSlice _ Tryd.underlying27 _ 1 1 _ rfl ?_ (recCells_one (JS, r1, r2, r3)))
              exact news_at w5 #[.string JS, .int .u16 r1, .int .u32 r2, .string r3] _
            have hfl : flatR (rs ++ [ur]) = flatR rs ++ [.string JS, .int .u16 r1, .int .u32 r2, .string r3] := by rw [flatR_snoc, hur]; rfl
            have HFL := Lib.hid hfl
            clear hC hfl hur
            go_wp2_with (first | (at_builtin; go_loud (refine wpList_append_obm rfl _ _ 27 27 rfl 41 i0 _ 40 Tryd.underlying27 hi hz0 hz1 hz2 rfl ho.out rfl rfl hS.out rfl (by have := HL2.out; unfold maxLen; omega) (by have := HL2.out; omega) ?_)) | refine wpList_load_mid rfl 41 _ rfl g12 0 rfl _ _ HRX.out Tryd.underlying41 rfl (by kernel_rfl) ?_)
            intro v' w' q1 q2 q3 q4
            have Q1 := Lib.hid q1
            clear q1 q2 q3 q4
            go_wp2_with fail
            go_round
            case rel => exact ⟨k + 1, by omega, by omega, by go_num, Lib.hid (by rw [HNX.out, HFL.out, List.length_append]; exact Q1.out)⟩
            case measure => simp [intOf]; omega
          | true =>
            have hq6' := hq6
            rw [beq_iff_eq] at hq6'
            have HQ6 := Lib.hid hq6
            have SO : Hid (∀ w, Calls Tryd.prog 10 #[.string o, .int .u32 ((TT % 6 : Nat) : Int)] w fun e w' => e = .returned (.agg #[.string o, .int .u16 6, .int .u32 9, .string (soaD (TT % 6))]) ∧ Below w.heap.size w w') := Lib.hid (fun w => soa9_any o (TT % 6) (by omega) w)
            have htm : (TT : Int).tmod 6 = ((TT % 6 : Nat) : Int) := by rw [Int.tmod_eq_emod_of_nonneg (by omega)]; omega
            obtain ⟨D, hD⟩ : ∃ d, d = soaD (TT % 6) := ⟨_, rfl⟩
            obtain ⟨tm, htq⟩ : ∃ t : Nat, t = TT % 6 := ⟨_, rfl⟩
            rw [← hD] at SO
            rw [← htq] at SO htm
            have HD := Lib.hid hD
            have H5 := Lib.hid hC
            have HBB5 := Lib.hid hB5
            have HA5 := Lib.hid HC5.out.2.1
            clear hD htq hq6' hC hB5
            go_wp2_with fail
            refine (SO.out _).mono ?_
            rintro e w6 ⟨rfl, hb6⟩
            have hC6 := H5.out.below hb6
            have HTH := Lib.hid (hC6.there 4 rfl)
            have hM := hC6.mid [.string o, .int .u16 6, .int .u32 9, .string D] rfl
            have hb7 := below_setCells' (B := wr.heap.size) (g := g12) HG12.out [.string o, .int .u16 6, .int .u32 9, .string D] 0 (HBB5.out.trans (hb6.mono HBB5.out.size))
            have H7 := Lib.hid (And.intro hM (And.intro hb7 (HA5.out.below hb6)))
            clear hC6 hM hb7 hb6 c1 c2 htm
            go_upto_region 13 with (first | refine wpList_store_mid rfl 41 _ _ rfl g12 0 #[.string o, .int .u16 6, .int .u32 9, .string D] rfl rfl HTH.out (by kernel_rfl) (by simp [Value.oneCell']) ?_)
            obtain ⟨hC, hB7, hA6⟩ := H7.out
            have hA7 : Cs (w6.setCells g12 0 [.string o, .int .u16 6, .int .u32 9, .string D]) g11 [.slice a.1.1 a.1.2.1 a.1.2.2.1, .int .u8 a.2.1, .int .u32 (TT : Nat), .slice a.2.2.2.1.1 a.2.2.2.1.2.1 a.2.2.2.1.2.2.1, .string a.2.2.2.2] := hA6.block ((setCells_heap w6 g12 [.string o, .int .u16 6, .int .u32 9, .string D] 0).2 g11 HNE.out) (by rw [(setCells_heap w6 g12 [.string o, .int .u16 6, .int .u32 9, .string D] 0).1]; exact Nat.le_refl _)
            generalize w6.setCells g12 0 [.string o, .int .u16 6, .int .u32 9, .string D] = w7 at *
            have HQD := Lib.hid (show soaR o (TT % 6) = (o, 6, 9, D) by rw [HD.out]; rfl)
            cases soas with
            | true =>
              have hur : ur = (o, 6, 9, D) := by rw [HUR.out, HQ6.out, if_pos rfl, if_pos rfl, HQD.out]
              clear hA6 hA7
              go_upto_region 15 with fail
              have HRX := Lib.hid hC.range
              have ho := Lib.hid ((HB.out.keep hB7 (Nat.le_refl _)).alloc (.cells #[.string o, .int .u16 6, .int .u32 9, .string D] 41))
              have hS : Hid (Src Tryd.prog 4 27 (.slice (some ⟨w7.heap.size, 0, none⟩) 1 1) 1 [.string o, .int .u16 6, .int .u32 9, .string D] (w7.alloc (.cells #[.string o, .int .u16 6, .int .u32 9, .string D] 41))) := by
                refine Lib.hid (Src.ofSlice _ Tryd.underlying27 _ 1 1 _ rfl ?_ (recCells_one (o, 6, 9, D)))
                exact news_at w7 #[.string o, .int .u16 6, .int .u32 9, .string D] _
              have hfl : flatR (rs ++ [ur]) = flatR rs ++ [.string o, .int .u16 6, .int .u32 9, .string D] := by rw [flatR_snoc, hur]; rfl
              have HFL := Lib.hid hfl
              clear hC hfl hur
              go_wp2_with (first | (at_builtin; go_loud (refine wpList_append_obm rfl _ _ 27 27 rfl 41 i0 _ 40 Tryd.underlying27 hi hz0 hz1 hz2 rfl ho.out rfl rfl hS.out rfl (by have := HL2.out; unfold maxLen; omega) (by have := HL2.out; omega) ?_)) | refine wpList_load_mid rfl 41 _ rfl g12 0 rfl _ _ HRX.out Tryd.underlying41 rfl (by kernel_rfl) ?_)
              intro v' w' q1 q2 q3 q4
              have Q1 := Lib.hid q1
              clear q1 q2 q3 q4
              go_wp2_with fail
              go_round
              case rel => exact ⟨k + 1, by omega, by omega, by go_num, Lib.hid (by rw [HNX.out, HFL.out, List.length_append]; exact Q1.out)⟩
              case measure => simp [intOf]; omega
            | false =>
              have hur : ur = (o, 16, (TT : Int), ⟨#[1, 120]⟩) := by rw [HUR.out, HQ6.out]; rfl
              have HUX := Lib.hid hur
              have c2 := hA7.get 2 _
              have HTH2 := Lib.hid (hC.there 4 rfl)
              have hM := hC.mid [.string o, .int .u16 16, .int .u32 (TT : Nat), .string ⟨#[1, 120]⟩] rfl
              have hb8 := below_setCells' (B := wr.heap.size) (g := g12) HG12.out [.string o, .int .u16 16, .int .u32 (TT : Nat), .string ⟨#[1, 120]⟩] 0 hB7
              have H8 := Lib.hid (And.intro hM hb8)
              clear hC hB7 hA6 hA7 hM hb8 hur
              go_upto_region 15 with (first | refine wpList_store_mid rfl 41 _ _ rfl g12 0 #[.string o, .int .u16 16, .int .u32 (TT : Nat), .string ⟨#[1, 120]⟩] rfl rfl HTH2.out (by kernel_rfl) (by simp [Value.oneCell']) ?_)
              obtain ⟨hC, hB8⟩ := H8.out
              have hur := HUX.out
              generalize w7.setCells g12 0 [.string o, .int .u16 16, .int .u32 (TT : Nat), .string ⟨#[1, 120]⟩] = w8 at *
              clear c2
              have HRX := Lib.hid hC.range
              have ho := Lib.hid ((HB.out.keep hB8 (Nat.le_refl _)).alloc (.cells #[.string o, .int .u16 16, .int .u32 (TT : Nat), .string ⟨#[1, 120]⟩] 41))
              have hS : Hid (Src Tryd.prog 4 27 (.slice (some ⟨w8.heap.size, 0, none⟩) 1 1) 1 [.string o, .int .u16 16, .int .u32 (TT : Nat), .string ⟨#[1, 120]⟩] (w8.alloc (.cells #[.string o, .int .u16 16, .int .u32 (TT : Nat), .string ⟨#[1, 120]⟩] 41))) := by
                refine Lib.hid (Src.ofSlice _ Tryd.underlying27 _ 1 1 _ rfl ?_ (recCells_one (o, 16, (TT : Int), ⟨#[1, 120]⟩)))
                exact news_at w8 #[.string o, .int .u16 16, .int .u32 (TT : Nat), .string ⟨#[1, 120]⟩] _
              have hfl : flatR (rs ++ [ur]) = flatR rs ++ [.string o, .int .u16 16, .int .u32 (TT : Nat), .string ⟨#[1, 120]⟩] := by rw [flatR_snoc, hur]; rfl
              have HFL := Lib.hid hfl
              clear hC hfl hur
              go_wp2_with (first | (at_builtin; go_loud (refine wpList_append_obm rfl _ _ 27 27 rfl 41 i0 _ 40 Tryd.underlying27 hi hz0 hz1 hz2 rfl ho.out rfl rfl hS.out rfl (by have := HL2.out; unfold maxLen; omega) (by have := HL2.out; omega) ?_)) | refine wpList_load_mid rfl 41 _ rfl g12 0 rfl _ _ HRX.out Tryd.underlying41 rfl (by kernel_rfl) ?_)
              intro v' w' q1 q2 q3 q4
              have Q1 := Lib.hid q1
              clear q1 q2 q3 q4
              go_wp2_with fail
              go_round
              case rel => exact ⟨k + 1, by omega, by omega, by go_num, Lib.hid (by rw [HNX.out, HFL.out, List.length_append]; exact Q1.out)⟩
              case measure => simp [intOf]; omega
        | false =>
          have HJB := Lib.hid hjb
          have HC5 := Lib.hid (And.intro (hC4.set' 0 (.string o) (by simp)) (And.intro (hA4.other g12 0 (.string o) HNE.out.symm) (hB4.setCell (p := ⟨g12, 0, none⟩) HG12.out (.string o))))
          have HC5 : Hid (Cs (w4.setCell ⟨g12, 0, none⟩ (.string o)) g12 [.string o, .int .u16 r1, .int .u32 r2, .string r3] ∧ Cs (w4.setCell ⟨g12, 0, none⟩ (.string o)) g11 [.slice a.1.1 a.1.2.1 a.1.2.2.1, .int .u8 a.2.1, .int .u32 (TT : Nat), .slice a.2.2.2.1.1 a.2.2.2.1.2.1 a.2.2.2.1.2.2.1, .string a.2.2.2.2] ∧ Below wr.heap.size wr (w4.setCell ⟨g12, 0, none⟩ (.string o))) := HC5
          clear hC4 hA4 hB4 hjb
          go_upto_region 11 with fail
          generalize w4.setCell ⟨g12, 0, none⟩ (.string o) = w5 at *
          have hC := HC5.out.1
          have hB5 := HC5.out.2.2
          have c1 := hC.get 1 _
          have c2 := HC5.out.2.1.get 2 _
          have hun : underN o r0 = o := by unfold underN; rw [HJB.out]; rfl
          have HUN := Lib.hid hun
          clear hun f0 c0
          cases hq6 : (r1 == 6) with
          | false =>
            have hur : ur = (o, r1, r2, r3) := by rw [HUR.out, hq6, HUN.out]; rfl
            clear c2
            go_upto_region 15 with fail
            have HRX := Lib.hid hC.range
            have ho := Lib.hid ((HB.out.keep hB5 (Nat.le_refl _)).alloc (.cells #[.string o, .int .u16 r1, .int .u32 r2, .string r3] 41))
            have hS : Hid (Src Tryd.prog 4 27 (.slice (some ⟨w5.heap.size, 0, none⟩) 1 1) 1 [.string o, .int .u16 r1, .int .u32 r2, .string r3] (w5.alloc (.cells #[.string o, .int .u16 r1, .int .u32 r2, .string r3] 41))) := by
              refine Lib.hid (Src.ofSlice _ Tryd.underlying27 _ 1 1 _ rfl ?_ (recCells_one (o, r1, r2, r3)))
              exact news_at w5 #[.string o, .int .u16 r1, .int .u32 r2, .string r3] _
            have hfl : flatR (rs ++ [ur]) = flatR rs ++ [.string o, .int .u16 r1, .int .u32 r2, .string r3] := by rw [flatR_snoc, hur]; rfl
            have HFL := Lib.hid hfl
            clear hC hfl hur
            go_wp2_with (first | (at_builtin; go_loud (refine wpList_append_obm rfl _ _ 27 27 rfl 41 i0 _ 40 Tryd.underlying27 hi hz0 hz1 hz2 rfl ho.out rfl rfl hS.out rfl (by have := HL2.out; unfold maxLen; omega) (by have := HL2.out; omega) ?_)) | refine wpList_load_mid rfl 41 _ rfl g12 0 rfl _ _ HRX.out Tryd.underlying41 rfl (by kernel_rfl) ?_)
            intro v' w' q1 q2 q3 q4
            have Q1 := Lib.hid q1
            clear q1 q2 q3 q4
            go_wp2_with fail
            go_round
            case rel => exact ⟨k + 1, by omega, by omega, by go_num, Lib.hid (by rw [HNX.out, HFL.out, List.length_append]; exact Q1.out)⟩
            case measure => simp [intOf]; omega
          | true =>
            have hq6' := hq6
            rw [beq_iff_eq] at hq6'
            have HQ6 := Lib.hid hq6
            have SO : Hid (∀ w, Calls Tryd.prog 10 #[.string o, .int .u32 ((TT % 6 : Nat) : Int)] w fun e w' => e = .returned (.agg #[.string o, .int .u16 6, .int .u32 9, .string (soaD (TT % 6))]) ∧ Below w.heap.size w w') := Lib.hid (fun w => soa9_any o (TT % 6) (by omega) w)
            have htm : (TT : Int).tmod 6 = ((TT % 6 : Nat) : Int) := by rw [Int.tmod_eq_emod_of_nonneg (by omega)]; omega
            obtain ⟨D, hD⟩ : ∃ d, d = soaD (TT % 6) := ⟨_, rfl⟩
            obtain ⟨tm, htq⟩ : ∃ t : Nat, t = TT % 6 := ⟨_, rfl⟩
            rw [← hD] at SO
            rw [← htq] at SO htm
            have HD := Lib.hid hD
            have H5 := Lib.hid hC
            have HBB5 := Lib.hid hB5
            have HA5 := Lib.hid HC5.out.2.1
            clear hD htq hq6' hC hB5
            go_wp2_with fail
            refine (SO.out _).mono ?_
            rintro e w6 ⟨rfl, hb6⟩
            have hC6 := H5.out.below hb6
            have HTH := Lib.hid (hC6.there 4 rfl)
            have hM := hC6.mid [.string o, .int .u16 6, .int .u32 9, .string D] rfl
            have hb7 := below_setCells' (B := wr.heap.size) (g := g12) HG12.out [.string o, .int .u16 6, .int .u32 9, .string D] 0 (HBB5.out.trans (hb6.mono HBB5.out.size))
            have H7 := Lib.hid (And.intro hM (And.intro hb7 (HA5.out.below hb6)))
            clear hC6 hM hb7 hb6 c1 c2 htm
            go_upto_region 13 with (first | refine wpList_store_mid rfl 41 _ _ rfl g12 0 #[.string o, .int .u16 6, .int .u32 9, .string D] rfl rfl HTH.out (by kernel_rfl) (by simp [Value.oneCell']) ?_)
            obtain ⟨hC, hB7, hA6⟩ := H7.out
            have hA7 : Cs (w6.setCells g12 0 [.string o, .int .u16 6, .int .u32 9, .string D]) g11 [.slice a.1.1 a.1.2.1 a.1.2.2.1, .int .u8 a.2.1, .int .u32 (TT : Nat), .slice a.2.2.2.1.1 a.2.2.2.1.2.1 a.2.2.2.1.2.2.1, .string a.2.2.2.2] := hA6.block ((setCells_heap w6 g12 [.string o, .int .u16 6, .int .u32 9, .string D] 0).2 g11 HNE.out) (by rw [(setCells_heap w6 g12 [.string o, .int .u16 6, .int .u32 9, .string D] 0).1]; exact Nat.le_refl _)
            generalize w6.setCells g12 0 [.string o, .int .u16 6, .int .u32 9, .string D] = w7 at *
            have HQD := Lib.hid (show soaR o (TT % 6) = (o, 6, 9, D) by rw [HD.out]; rfl)
            cases soas with
            | true =>
              have hur : ur = (o, 6, 9, D) := by rw [HUR.out, HQ6.out, if_pos rfl, if_pos rfl, HQD.out]
              clear hA6 hA7
              go_upto_region 15 with fail
              have HRX := Lib.hid hC.range
              have ho := Lib.hid ((HB.out.keep hB7 (Nat.le_refl _)).alloc (.cells #[.string o, .int .u16 6, .int .u32 9, .string D] 41))
              have hS : Hid (Src Tryd.prog 4 27 (.slice (some ⟨w7.heap.size, 0, none⟩) 1 1) 1 [.string o, .int .u16 6, .int .u32 9, .string D] (w7.alloc (.cells #[.string o, .int .u16 6, .int .u32 9, .string D] 41))) := by
                refine Lib.hid (Src.ofSlice _ Tryd.underlying27 _ 1 1 _ rfl ?_ (recCells_one (o, 6, 9, D)))
                exact news_at w7 #[.string o, .int .u16 6, .int .u32 9, .string D] _
              have hfl : flatR (rs ++ [ur]) = flatR rs ++ [.string o, .int .u16 6, .int .u32 9, .string D] := by rw [flatR_snoc, hur]; rfl
              have HFL := Lib.hid hfl
              clear hC hfl hur
              go_wp2_with (first | (at_builtin; go_loud (refine wpList_append_obm rfl _ _ 27 27 rfl 41 i0 _ 40 Tryd.underlying27 hi hz0 hz1 hz2 rfl ho.out rfl rfl hS.out rfl (by have := HL2.out; unfold maxLen; omega) (by have := HL2.out; omega) ?_)) | refine wpList_load_mid rfl 41 _ rfl g12 0 rfl _ _ HRX.out Tryd.underlying41 rfl (by kernel_rfl) ?_)
              intro v' w' q1 q2 q3 q4
              have Q1 := Lib.hid q1
              clear q1 q2 q3 q4
              go_wp2_with fail
              go_round
              case rel => exact ⟨k + 1, by omega, by omega, by go_num, Lib.hid (by rw [HNX.out, HFL.out, List.length_append]; exact Q1.out)⟩
              case measure => simp [intOf]; omega
            | false =>
              have hur : ur = (o, 16, (TT : Int), ⟨#[1, 120]⟩) := by rw [HUR.out, HQ6.out]; rfl
              have HUX := Lib.hid hur
              have c2 := hA7.get 2 _
              have HTH2 := Lib.hid (hC.there 4 rfl)
              have hM := hC.mid [.string o, .int .u16 16, .int .u32 (TT : Nat), .string ⟨#[1, 120]⟩] rfl
              have hb8 := below_setCells' (B := wr.heap.size) (g := g12) HG12.out [.string o, .int .u16 16, .int .u32 (TT : Nat), .string ⟨#[1, 120]⟩] 0 hB7
              have H8 := Lib.hid (And.intro hM hb8)
              clear hC hB7 hA6 hA7 hM hb8 hur
              go_upto_region 15 with (first | refine wpList_store_mid rfl 41 _ _ rfl g12 0 #[.string o, .int .u16 16, .int .u32 (TT : Nat), .string ⟨#[1, 120]⟩] rfl rfl HTH2.out (by kernel_rfl) (by simp [Value.oneCell']) ?_)
              obtain ⟨hC, hB8⟩ := H8.out
              have hur := HUX.out
              generalize w7.setCells g12 0 [.string o, .int .u16 16, .int .u32 (TT : Nat), .string ⟨#[1, 120]⟩] = w8 at *
              clear c2
              have HRX := Lib.hid hC.range
              have ho := Lib.hid ((HB.out.keep hB8 (Nat.le_refl _)).alloc (.cells #[.string o, .int .u16 16, .int .u32 (TT : Nat), .string ⟨#[1, 120]⟩] 41))
              have hS : Hid (Src Tryd.prog 4 27 (.slice (some ⟨w8.heap.size, 0, none⟩) 1 1) 1 [.string o, .int .u16 16, .int .u32 (TT : Nat), .string ⟨#[1, 120]⟩] (w8.alloc (.cells #[.string o, .int .u16 16, .int .u32 (TT : Nat), .string ⟨#[1, 120]⟩] 41))) := by
                refine Lib.hid (Src.ofSlice _ Tryd.underlying27 _ 1 1 _ rfl ?_ (recCells_one (o, 16, (TT : Int), ⟨#[1, 120]⟩)))
                exact news_at w8 #[.string o, .int .u16 16, .int .u32 (TT : Nat), .string ⟨#[1, 120]⟩] _
              have hfl : flatR (rs ++ [ur]) = flatR rs ++ [.string o, .int .u16 16, .int .u32 (TT : Nat), .string ⟨#[1, 120]⟩] := by rw [flatR_snoc, hur]; rfl
              have HFL := Lib.hid hfl
              clear hC hfl hur
              go_wp2_with (first | (at_builtin; go_loud (refine wpList_append_obm rfl _ _ 27 27 rfl 41 i0 _ 40 Tryd.underlying27 hi hz0 hz1 hz2 rfl ho.out rfl rfl hS.out rfl (by have := HL2.out; unfold maxLen; omega) (by have := HL2.out; omega) ?_)) | refine wpList_load_mid rfl 41 _ rfl g12 0 rfl _ _ HRX.out Tryd.underlying41 rfl (by kernel_rfl) ?_)
              intro v' w' q1 q2 q3 q4
              have Q1 := Lib.hid q1
              clear q1 q2 q3 q4
              go_wp2_with fail
              go_round
              case rel => exact ⟨k + 1, by omega, by omega, by go_num, Lib.hid (by rw [HNX.out, HFL.out, List.length_append]; exact Q1.out)⟩
              case measure => simp [intOf]; omega
    · have hlt' : ¬ (k : Int) < n := by omega
      go_wp2_with fail
      go_ret
      have := HB.out
      rw [List.take_of_length_le (by rw [HL.out]; omega)] at this
      exact ⟨_, rfl, this⟩
end Go.Proofs.YtpbbnpglcadimaaDoor
namespace Go.Proofs.YtpbbnpglcadimaaDoor
open Go.RowKit
set_option linter.unusedVariables false
set_option linter.unusedSimpArgs false
set_option maxRecDepth 20000
set_option maxHeartbeats 1600000 in
theorem growR_any (n : Nat) (w : World) (hn : n ≤ 1000000) :
    Calls Tryd.prog 69 #[.slice none 0 0, .int .i64 (n : Nat)] w fun e w' => ∃ v, e = .returned v ∧ OBM 4 w.heap.size w v 0 [] w' := by
  obtain ⟨i0, hi, hz0, hz1, hz2⟩ := info_parts4 rec_info
  rcases Nat.eq_zero_or_pos n with rfl | hp
  · go_enter Tryd.func69, Tryd.ntmps69
    go_wp2_with fail
    go_ret
    exact ⟨_, rfl, OBM.start w⟩
  · have hpi : (0 : Int) < n := by omega
    have hni : ¬ (n : Int) < 0 := by omega
    have hbig : n * i0.bytes ≤ 281474976710656 := by rw [hz2]; omega
    have hr := Lib.hid (Lib.run_append_nil_zeros (P := Tryd.prog) w 27 3 27 41 i0 _ .i64 .i64 (by kernel_rfl) Tryd.underlying3 hi hz0 n hp (by rw [hz1]; decide) (by omega) hbig)
    have hge := grownCap_ge w n 0 41
    have hcm := grownCap_le_maxLen w n 0 41 (by unfold maxLen; omega)
    obtain ⟨K, hK⟩ : ∃ K, grownCap w n 0 41 = K := ⟨_, rfl⟩
    rw [hK] at hr hge hcm
    obtain ⟨cs, hcs⟩ : ∃ cs, Builtin.zeroCells (Value.agg #[.string ⟨#[]⟩, .int .u16 0, .int .u32 0, .string ⟨#[]⟩]).cells n ++ Builtin.zeroCells (Value.agg #[.string ⟨#[]⟩, .int .u16 0, .int .u32 0, .string ⟨#[]⟩]).cells (K - n) = cs := ⟨_, rfl⟩
    have hsz : cs.size = K * 4 := by
      rw [← hcs, Array.size_append, size_zeroCells, size_zeroCells, rec_zero_cells]
      omega
    rw [hcs] at hr
    have HS := Lib.hid (OBM.zeros (sz := 4) w cs 41 K hsz hcm)
    clear hK hcs hsz hz0 hz1 hz2 hbig
    go_enter Tryd.func69, Tryd.ntmps69
    go_wp2_with (at_builtin; go_loud (refine Lib.wpList_append_run _ rfl _ _ 27 3 rfl _ _ rfl rfl _ _ hr.out ?_))
    go_ret
    exact ⟨_, rfl, HS.out⟩
set_option maxHeartbeats 1600000 in
theorem concatR_any (A : Option Addr) (n c : Nat) (rows : List RowR) (w : World) (h : Sl w w.heap.size 1 A n (rows.map rowRV)) (hn : n ≤ 1000000) (hok : ∀ r ∈ rows, RowROk w r) (hs : (allR rows).length ≤ 1000000) :
    Calls Tryd.prog 52 #[.slice A n c] w fun e w' => ∃ v, e = .returned v ∧ OBM 4 w.heap.size w v (allR rows).length (flatR (allR rows)) w' := by
  have hl : rows.length = n := by simpa using h.1
  obtain ⟨i0, hi, hz0, hz1, hz2⟩ := info_parts4 rec_info
  have H := Lib.hid h
  have HL := Lib.hid hl
  have HK := Lib.hid hok
  have HS := Lib.hid hs
  clear h hl hok hs
  go_enter Tryd.func52, Tryd.ntmps52
  go_wp2_with fail
  go_loop [3, 11] (fun s i => ∃ k m : Nat, k ≤ n ∧ i = .int .i64 k ∧ s = .int .i64 m ∧ Hid (m = (allR (rows.take k)).length) ∧ m ≤ 1000000) (fun _ i => n - (intOf i).toNat)
  case atStart => exact ⟨0, 0, Nat.zero_le _, rfl, rfl, Lib.hid (by simp [allR]), by omega⟩
  case round =>
    obtain ⟨k, m, hk, rfl, rfl, HM, hm⟩ := hrel
    by_cases hlt : k < n
    · have hlt' : (k : Int) < n := by omega
      obtain ⟨b, off, u, rfl, hb, hu, hc⟩ := H.out.at_ hlt
      obtain ⟨r, hr⟩ : ∃ x, rows[k]? = some x := ⟨_, List.getElem?_eq_getElem (by rw [HL.out]; exact hlt)⟩
      rw [List.getElem?_map, hr] at hu
      simp only [Option.map_some, Option.some.injEq] at hu
      subst hu
      unfold rowRV at hc
      have hlen := (HK.out r (List.mem_of_getElem? hr)).len
      obtain ⟨M, hM⟩ : ∃ M : Nat, M = m + r.2.1 := ⟨_, rfl⟩
      have HM2 : Hid (M = (allR (rows.take (k + 1))).length) := Lib.hid (by rw [allR_snoc hr, List.length_append, hM, HM.out, hlen])
      have hM6 : M ≤ 1000000 := by have := allR_le rows (k + 1); have := HS.out; have := HM2.out; omega
      have hsum : (m : Int) + (r.2.1 : Int) = (M : Int) := by omega
      have hMn : ¬ (M : Int) < 0 := by omega
      clear hr hlen hM
      go_wp2_with fail
      go_round
      case rel => exact ⟨k + 1, M, by omega, by go_num, rfl, HM2, hM6⟩
      case measure => simp [intOf]; omega
    · have hlt' : ¬ (k : Int) < n := by omega
      go_wp2_with fail
      refine (growR_any m w hm).mono ?_
      rintro e w1 ⟨v0, rfl, ho0⟩
      have HO0 := Lib.hid ho0
      clear ho0
      go_wp2_with fail
      go_loopw [6, 27] (fun v i wr => ∃ k : Nat, k ≤ n ∧ i = .int .i64 k ∧ Hid (OBM 4 w.heap.size w v (allR (rows.take k)).length (flatR (allR (rows.take k))) wr)) (fun _ i _ => n - (intOf i).toNat)
      case atStart => exact ⟨0, Nat.zero_le _, rfl, Lib.hid (by simpa [allR, flatR] using HO0.out)⟩
      case round =>
        obtain ⟨k, hk, rfl, HB⟩ := hrel
        by_cases hlt : k < n
        · have hlt' : (k : Int) < n := by omega
          obtain ⟨b, off, u, rfl, hb, hu, hc⟩ := ((H.out.below HB.out.bel).more HB.out.bel.size).at_ hlt
          obtain ⟨r, hr⟩ : ∃ x, rows[k]? = some x := ⟨_, List.getElem?_eq_getElem (by rw [HL.out]; exact hlt)⟩
          rw [List.getElem?_map, hr] at hu
          simp only [Option.map_some, Option.some.injEq] at hu
          subst hu
          unfold rowRV at hc
          have hR := (HK.out r (List.mem_of_getElem? hr)).below HB.out.bel
          have hS := Lib.hid (hR.sl.srcM (P := Tryd.prog) (c := r.2.2.1) (tx := 27) (e' := 41) (by kernel_rfl) hR.none_ (flatR_one _))
          have HAS := Lib.hid (allR_snoc hr)
          have hlen := hR.len
          have hle := allR_le rows (k + 1)
          have hs := HS.out
          have HB3 : Hid ((allR (rows.take k)).length + r.2.1 ≤ 1000000) := Lib.hid (by rw [HAS.out, List.length_append, hlen] at hle; omega)
          have HLEN := Lib.hid hR.sl.1
          have HLN := Lib.hid hlen
          clear hr hR hlen hle hs
          go_wp2_with (at_builtin; go_loud (refine wpList_append_obm rfl _ _ 27 27 rfl 41 i0 _ 40 (by kernel_rfl) hi hz0 hz1 hz2 rfl HB.out rfl rfl hS.out HLEN.out (by have := HB3.out; unfold maxLen; omega) (by have := HB3.out; omega) ?_))
          intro v' w' q1 q2 q3 q4
          clear q2 q3 q4
          have Q1 := Lib.hid q1
          clear q1
          go_wp2_with fail
          go_round
          case rel => exact ⟨k + 1, by omega, by go_num, Lib.hid (by rw [HAS.out, flatR_append, List.length_append, HLN.out]; exact Q1.out)⟩
          case measure => simp [intOf]; omega
        · have hlt' : ¬ (k : Int) < n := by omega
          go_wp2_with fail
          go_ret
          have := HB.out
          rw [List.take_of_length_le (by rw [HL.out]; omega)] at this
          exact ⟨_, rfl, this⟩
set_option maxHeartbeats 1600000 in
def zeroR : RecT := (⟨#[]⟩, 0, 0, ⟨#[]⟩)
def isSoaR (r : RecT) : Bool := r.2.1 == 6
def firstS (rs : List RecT) : Option RecT := rs.find? isSoaR
theorem firstS_next {rs : List RecT} {k : Nat} {r : RecT} (h : rs[k]? = some r) : firstS (rs.take (k + 1)) = (firstS (rs.take k)).or (if isSoaR r then some r else none) := by
  unfold firstS
  rw [List.take_add_one, h, List.find?_append]
  congr 1
  simp only [Option.toList_some, List.find?_cons, List.find?_nil]
  cases isSoaR r <;> rfl
theorem firstS_at {rs : List RecT} {k : Nat} {r : RecT} (h0 : firstS (rs.take k) = none) (h : rs[k]? = some r) (hs : isSoaR r = true) : firstS rs = some r := by
  have h1 := firstS_next h
  rw [h0, hs] at h1
  have e : firstS (rs.take (k + 1)) = some r := by rw [h1]; rfl
  have : rs = rs.take (k + 1) ++ rs.drop (k + 1) := (List.take_append_drop _ _).symm
  rw [this]
  unfold firstS at e ⊢
  rw [List.find?_append, e]; rfl
set_option maxHeartbeats 1600000 in
theorem soaz_any (A : Option Addr) (n c : Nat) (rs : List RecT) (w : World) (h : Recs w A rs) (hl : rs.length = n) (hn : n ≤ maxLen) :
    Calls Tryd.prog 51 #[.slice A n c] w fun e w' => e = .returned (.tuple #[recV ((firstS rs).getD zeroR), .bool (firstS rs).isSome]) ∧ Below w.heap.size w w' := by
  unfold maxLen at hn
  obtain ⟨W, hW⟩ : ∃ W, W = w.alloc (.cells #[.string ⟨#[]⟩, .int .u16 0, .int .u32 0, .string ⟨#[]⟩] 41) := ⟨_, rfl⟩
  have hD : Cs W w.heap.size [.string ⟨#[]⟩, .int .u16 0, .int .u32 0, .string ⟨#[]⟩] := by rw [hW]; exact Cs.new w _ _ _
  have hbW : Below w.heap.size w W := by rw [hW]; exact (Below.refl _ _).alloc (Nat.le_refl _) _
  obtain ⟨g, hg⟩ : ∃ g, g = w.heap.size := ⟨_, rfl⟩
  rw [← hg] at hD
  obtain ⟨S, hSS⟩ : ∃ S, firstS rs = S := ⟨_, rfl⟩
  rw [hSS]
  have HSS := Lib.hid hSS
  clear hSS
  have HL := Lib.hid hl
  have HW := Lib.hid hW
  have HD := Lib.hid hD
  have HBW := Lib.hid hbW
  have HG := Lib.hid hg
  have HR := Lib.hid (h.below hbW)
  have hgw : w.heap.size ≤ g := by omega
  clear h hW hD hbW hg hl
  go_enter Tryd.func51, Tryd.ntmps51
  go_wp2_with fail
  rw [← HW.out, ← HG.out]
  go_loopw [8] (fun i wr => ∃ k : Nat, k ≤ n ∧ i = .int .i64 k ∧ Hid (firstS (rs.take k) = none) ∧ Hid (Below W.heap.size W wr)) (fun i _ => n - (intOf i).toNat)
  case atStart => exact ⟨0, Nat.zero_le _, rfl, Lib.hid (by simp [firstS]), Lib.hid (Below.refl _ _)⟩
  case round =>
    obtain ⟨k, hk, rfl, HK, HB⟩ := hrel
    have hDr := HD.out.below HB.out
    have d0 := hDr.get 0 _
    have d1 := hDr.get 1 _
    have d2 := hDr.get 2 _
    have d3 := hDr.get 3 _
    have f0 := hDr.froz 0
    have f1 := hDr.froz 1
    have f2 := hDr.froz 2
    have f3 := hDr.froz 3
    have hgl := hDr.lt
    have HBw := Lib.hid (below_trans HBW.out HBW.out.size HB.out)
    clear hDr
    by_cases hlt : k < n
    · have hlt' : (k : Int) < n := by omega
      obtain ⟨r, hr⟩ : ∃ q, rs[k]? = some q := ⟨_, List.getElem?_eq_getElem (by rw [HL.out]; exact hlt)⟩
      obtain ⟨b, off, rfl, hb, z0, z1, z2, z3⟩ := (HR.out.below HB.out) k _ hr
      have HQ := Lib.hid hr
      clear hr
      cases e6 : (r.2.1 == 6) with
      | true =>
        have HS := Lib.hid (firstS_at HK.out HQ.out e6)
        obtain rfl : S = some r := HSS.out.symm.trans HS.out
        go_wp2_with fail
        refine bodyPost_ret (v := .tuple #[.agg #[.string r.1, .int .u16 r.2.1, .int .u32 r.2.2.1, .string r.2.2.2], .bool true]) (by simp [results, Tryd.results51, go_sem, d0, d1, d2, d3, hgl]) rfl ⟨rfl, ?_⟩
        refine Below.alloc ?_ (by simpa using HBw.out.size) _
        iterate 4 (refine Below.setCell ?_ hgw _)
        exact HBw.out
      | false =>
        have HN : Hid (firstS (rs.take (k + 1)) = none) := Lib.hid (by rw [firstS_next HQ.out, HK.out]; unfold isSoaR; rw [e6]; rfl)
        clear d0 d1 d2 d3 f0 f1 f2 f3
        go_wp2_with fail
        go_round
        case rel => exact ⟨k + 1, by omega, by go_num, HN, Lib.hid (HB.out.alloc HB.out.size _)⟩
        case measure => simp [intOf]; omega
    · have hlt' : ¬ (k : Int) < n := by omega
      have HN : Hid (firstS rs = none) := Lib.hid (by have := HK.out; rwa [List.take_of_length_le (by rw [HL.out]; omega)] at this)
      obtain rfl : S = none := HSS.out.symm.trans HN.out
      go_wp2_with fail
      refine bodyPost_ret (v := .tuple #[.agg #[.string ⟨#[]⟩, .int .u16 0, .int .u32 0, .string ⟨#[]⟩], .bool false]) (by simp [results, Tryd.results51, go_sem, d0, d1, d2, d3]) rfl ⟨rfl, ?_⟩
      first
      | exact HBw.out
      | (iterate 4 (refine Below.setCell ?_ hgw _)
         exact HBw.out)
end Go.Proofs.YtpbbnpglcadimaaDoor
namespace Go.Proofs.YtpbbnpglcadimaaDoor
open Go.RowKit
set_option linter.unusedVariables false
set_option linter.unusedSimpArgs false
set_option maxRecDepth 20000
/-- The records of one zone that another one does not have. -/
def woR (a b : List RecT) : List RecT := a.filter fun r => !hasB b r
theorem woR_next {a b : List RecT} {k : Nat} {r : RecT} (h : a[k]? = some r) : woR (a.take (k + 1)) b = woR (a.take k) b ++ if hasB b r then [] else [r] := by
  unfold woR; rw [List.take_add_one, h, List.filter_append]
  congr 1
  simp only [Option.toList_some, List.filter_cons, List.filter_nil]
  cases hasB b r <;> rfl
theorem woR_le (a b : List RecT) : (woR a b).length ≤ a.length := List.length_filter_le _ _
theorem src_rec {w : World} {ts : TypeId} (hts : Tryd.prog.underlying ts = some (.slice 41)) (r : RecT) :
    Src Tryd.prog 4 ts (.slice (some ⟨w.heap.size, 0, none⟩) 1 1) 1 (recCells r) (w.alloc (.cells #[.string r.1, .int .u16 r.2.1, .int .u32 r.2.2.1, .string r.2.2.2] 41)) :=
  Src.ofSlice _ hts _ 1 1 _ rfl (news_at w #[.string r.1, .int .u16 r.2.1, .int .u32 r.2.2.1, .string r.2.2.2] _) (recCells_one r)
set_option maxHeartbeats 1600000 in
theorem without_any (A A2 : Option Addr) (n c n2 c2 : Nat) (a b : List RecT) (w : World) (h : Recs w A a) (hl : a.length = n) (hn : n ≤ 100000) (h2 : Recs w A2 b) (hl2 : b.length = n2) (hn2 : n2 ≤ 100000) :
    Calls Tryd.prog 31 #[.slice A n c, .slice A2 n2 c2] w fun e w' => ∃ v, e = .returned v ∧ OBM 4 w.heap.size w v (woR a b).length (flatR (woR a b)) w' := by
  obtain ⟨i0, hi, hz0, hz1, hz2⟩ := info_parts4 rec_info
  have HR := Lib.hid h
  have HL := Lib.hid hl
  have HAS := Lib.hid (fun r wx hb => has_any A2 n2 c2 b r wx (h2.below hb) hl2 (by unfold maxLen; omega))
  clear h hl h2 hl2
  go_enter Tryd.func31, Tryd.ntmps31
  go_wp2_with fail
  go_loopw [5, 10] (fun v i wr => ∃ k : Nat, k ≤ n ∧ i = .int .i64 k ∧ Hid (OBM 4 w.heap.size w v (woR (a.take k) b).length (flatR (woR (a.take k) b)) wr)) (fun _ i _ => n - (intOf i).toNat)
  case atStart => exact ⟨0, Nat.zero_le _, rfl, Lib.hid (by simpa [woR, flatR] using OBM.start w)⟩
  case round =>
    obtain ⟨k, hk, rfl, HB⟩ := hrel
    by_cases hlt : k < n
    · have hlt' : (k : Int) < n := by omega
      have hk0 : ¬ (k : Int) < 0 := by omega
      obtain ⟨r, hr⟩ : ∃ q, a[k]? = some q := ⟨_, List.getElem?_eq_getElem (by rw [HL.out]; exact hlt)⟩
      obtain ⟨g, off, rfl, hg, z0, z1, z2, z3⟩ := (HR.out.below HB.out.bel) k _ hr
      have HNX := Lib.hid (woR_next (b := b) hr)
      have hle : (woR (a.take k) b).length ≤ 100000 := by have := woR_le (a.take k) b; simp at this; omega
      have HAS2 := HAS.out r
      obtain ⟨q, hq⟩ : ∃ q, hasB b r = q := ⟨_, rfl⟩
      rw [hq] at HAS2 HNX
      have HAS3 := Lib.hid HAS2
      obtain ⟨wa, hwa⟩ : ∃ wa, wa = wr.alloc (.cells #[.string r.1, .int .u16 r.2.1, .int .u32 r.2.2.1, .string r.2.2.2] 41) := ⟨_, rfl⟩
      have HBA := Lib.hid (HB.out.alloc (.cells #[.string r.1, .int .u16 r.2.1, .int .u32 r.2.2.1, .string r.2.2.2] 41))
      have HCA : Hid (Cs wa wr.heap.size (recCells r)) := Lib.hid (by rw [hwa]; exact Cs.new wr _ _ _)
      rw [← hwa] at HBA
      have HWA := Lib.hid hwa
      obtain ⟨B, hB⟩ : ∃ B, B = wr.heap.size := ⟨_, rfl⟩
      rw [← hB] at HCA
      have HBB := Lib.hid hB
      unfold recV at HAS3
      clear hr hq hwa hB HAS2
      go_wp2_with fail
      rw [← HWA.out, ← HBB.out]
      refine (HAS3.out wa HBA.out.bel).mono ?_
      rintro e w2 ⟨rfl, hb2⟩
      have HB2 := Lib.hid (HBA.out.keep hb2 (Nat.le_refl _))
      have c0 := (HCA.out.below hb2).get 0 _
      have c1 := (HCA.out.below hb2).get 1 _
      have c2 := (HCA.out.below hb2).get 2 _
      have c3 := (HCA.out.below hb2).get 3 _
      have g2 := (HCA.out.below hb2).lt
      clear hb2 HAS3 z0 z1 z2 z3
      cases q with
      | true =>
        go_wp2_with fail
        go_roundw
        case rel => exact ⟨k + 1, by omega, by go_num, Lib.hid (by rw [HNX.out]; simpa using HB2.out)⟩
        case measure => simp [intOf]; omega
      | false =>
        have HBX := Lib.hid (HB2.out.alloc (.cells #[.string r.1, .int .u16 r.2.1, .int .u32 r.2.2.1, .string r.2.2.2] 41))
        have hs := Lib.hid (src_rec (w := w2) (ts := 27) Tryd.underlying27 r)
        go_wp2_with (at_builtin; go_loud (refine wpList_append_obm rfl _ _ 27 27 rfl 41 i0 _ 40 Tryd.underlying27 hi hz0 hz1 hz2 rfl HBX.out rfl rfl hs.out rfl (by unfold maxLen; omega) (by omega) ?_))
        intro v' w' q1 q2 q3 q4
        have Q1 := Lib.hid q1
        clear q1 q2 q3 q4
        go_wp2_with fail
        go_roundw
        case rel => exact ⟨k + 1, by omega, by go_num, Lib.hid (by rw [HNX.out, List.length_append, flatR_append]; simpa [flatR] using Q1.out)⟩
        case measure => simp [intOf]; omega
    · have hlt' : ¬ (k : Int) < n := by omega
      go_wp2_with fail
      go_ret
      have := HB.out
      rw [List.take_of_length_le (by rw [HL.out]; omega)] at this
      exact ⟨_, rfl, this⟩
set_option maxHeartbeats 1600000 in
theorem between_any (A A2 : Option Addr) (n c n2 c2 : Nat) (a b : List RecT) (w : World) (h : Recs w A a) (hl : a.length = n) (hn : n ≤ 100000) (h2 : Recs w A2 b) (hl2 : b.length = n2) (hn2 : n2 ≤ 100000) :
    Calls Tryd.prog 15 #[.slice A n c, .slice A2 n2 c2] w fun e w' => ∃ v u, e = .returned (.tuple #[v, u]) ∧ OBM 4 w.heap.size w v (woR a b).length (flatR (woR a b)) w' ∧ OBM 4 w.heap.size w u (woR b a).length (flatR (woR b a)) w' ∧ (∀ q, v.ownBlock = some q → u.ownBlock ≠ some q) := by
  have W1 := Lib.hid (without_any A A2 n c n2 c2 a b w h hl hn h2 hl2 hn2)
  have W2 := Lib.hid (fun wx hb => without_any A2 A n2 c2 n c b a wx (h2.below hb) hl2 hn2 (h.below hb) hl hn)
  clear h hl h2 hl2
  go_enter Tryd.func15, Tryd.ntmps15
  go_wp2_with fail
  refine W1.out.mono ?_
  rintro e w1 ⟨v, rfl, ho⟩
  have HO := Lib.hid ho
  clear ho
  go_wp2_with fail
  refine (W2.out w1 HO.out.bel).mono ?_
  rintro e w2 ⟨u, rfl, ho2⟩
  have HO2 := Lib.hid ho2
  clear ho2
  go_wp2_with fail
  refine bodyPost_ret (v := .tuple #[v, u]) (by simp [results, Tryd.results15, go_sem]) rfl ?_
  refine ⟨v, u, rfl, HO.out.keep HO2.out.bel (Nat.le_refl _), HO2.out.out HO.out.base HO.out.bel, fun q h1 h2 => ?_⟩
  have := (HO.out.lt q h1).2
  have := (HO2.out.lt q h2).1
  omega
end Go.Proofs.YtpbbnpglcadimaaDoor
