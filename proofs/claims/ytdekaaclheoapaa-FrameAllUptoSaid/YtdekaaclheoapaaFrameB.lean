/- The contracts of package frame: Make, Cut, All. -/
import Derived.Test.YtdekaaclheoapaaFrameA
import Derived.Test.YtdekaaclheoapaaOb
import Derived.Test.YtdekaaclheoapaaShelf
namespace Go.Proofs.Ytdekaaclheoapaa
open Go.RowKit
set_option linter.unusedVariables false
set_option maxRecDepth 20000

theorem Sl.txt {w : World} {A : Option Addr} {n c : Nat} {l : List UInt8} (h : Sl w w.heap.size 1 A n (l.map bv)) (hA0 : A = none → n = 0) : txt l (.slice A n c) w := ⟨A, n, c, rfl, h, hA0⟩
theorem bvi (l : List UInt8) : (l.map fun b => (b.toNat : Int)).map (Value.int .u8) = l.map bv := by simp [bv]
theorem clone_any (A : Option Addr) (n c : Nat) (l : List UInt8) (w : World) (h : Sl w w.heap.size 1 A n (l.map bv)) (hA0 : A = none → n = 0) (hn : n ≤ 140737488355328) :
    Calls Try.prog 65 #[.slice A n c] w fun e w' => ∃ v, e = .returned v ∧ txt l v w' ∧ Below w.heap.size w w' := by
  have hl : l.length = n := by simpa using h.1
  cases A with
  | none =>
    obtain rfl := hA0 rfl
    obtain rfl : l = [] := List.eq_nil_of_length_eq_zero hl
    refine (Try.bytes_Clone_nil 0 c w).mono ?_
    rintro e w' ⟨rfl, rfl⟩
    exact ⟨_, rfl, ⟨none, 0, 0, rfl, Sl.nil _ _ _ _, fun _ => rfl⟩, Below.refl _ _⟩
  | some a =>
    refine (Try.bytes_Clone_at a n c (l.map fun b => (b.toNat : Int)) w (by simpa using hl) hn ?_).mono ?_
    · intro i hi
      refine h.cells_at a rfl i _ ?_
      rw [← bvi, List.getElem?_map, List.getD, List.getElem?_eq_getElem (by simp; omega)]
      rfl
    · rintro e w' ⟨v, rfl, ho, hne, hb⟩
      rw [bvi] at ho
      refine ⟨v, rfl, ?_, hb⟩
      rcases id ho with ⟨_, ⟨hv, _⟩ | ⟨g, cap, cur, hv, _⟩⟩
      · exact absurd hv hne
      · subst hv
        exact ⟨_, _, _, rfl, Txt.of_own ho⟩
theorem make_no (A : Option Addr) (n c : Nat) (w : World) (h : 600 < n) (hn : n ≤ maxLen) :
    Calls Try.prog 61 #[.slice A n c] w fun e w' => e = .returned (.tuple #[.slice none 0 0, .bool false]) ∧ w = w' := by
  unfold maxLen at hn
  go_enter Try.func61, Try.ntmps61
  go_wp2_with fail
  go_ret2
  exact ⟨rfl, rfl⟩
theorem frame_flat (l : List UInt8) : [l.length, 65535 - l.length].flatMap b16 ++ l ++ [chkN l].flatMap b16 = frameL l := by
  simp [frameL, w16, b16]
set_option maxHeartbeats 800000 in
theorem make_yes (A : Option Addr) (n c : Nat) (l : List UInt8) (w : World) (hS : Sl w w.heap.size 1 A n (l.map bv)) (hA0 : A = none → n = 0) (hn : n ≤ 600) :
    Calls Try.prog 61 #[.slice A n c] w fun e w' => ∃ g, e = .returned (.tuple #[.slice (some ⟨g, 0, none⟩) (n + 6) (n + 6), .bool true]) ∧
      w'.ownsRow w.heap.size 5 1 (.slice (some ⟨g, 0, none⟩) (n + 6) (n + 6)) (n + 6) ((frameL l).map bv) ∧ Below w.heap.size w w' := by
  have hl : l.length = n := by simpa using hS.1
  obtain ⟨i0, hi, hz0, hz1, hz2⟩ := info_parts num_info
  have hfl := flip16 n (by omega)
  have hff := frame_flat l
  rw [hl] at hff
  obtain ⟨m0, e0⟩ : ∃ x, x = 65535 - n := ⟨_, rfl⟩
  have hm0 : m0 < 65536 := by omega
  rw [← e0] at hfl hff
  have HFF := Lib.hid hff
  have HL := Lib.hid hl
  have HA := Lib.hid hA0
  clear hff e0 hl hA0
  go_enter Try.func61, Try.ntmps61
  go_wp2_with fail
  refine (put16_any none 0 0 [] _ 2 2 [n, m0] _ (Sl.nil _ _ _ _) (fun _ => ⟨rfl, rfl⟩) (Sl.fresh _ _ _ _ _ rfl rfl) (by intro x hx; simp at hx; omega) (by omega)).mono ?_
  rintro e w1 ⟨g, rfl, hown, hb⟩
  have hbuf := Buf.out (C := w.heap.size) (W0 := w) ⟨hown, hb, hb.size⟩ (by simp) ((Below.refl _ _).alloc (Nat.le_refl _) _)
  simp only [List.nil_append, Nat.zero_add, show 2 * 2 = 4 by rfl] at hbuf
  have hs1 := hb.size
  simp at hs1
  have hA1 := hS.below hbuf.below
  clear hown hb
  go_wp2_with (first
    | (at_builtin; refine wpList_append_ob rfl (.tmp 16) (.tmp 17) 22 22 rfl 5 i0 (.int .u8 0) 1 Try.underlying22 hi hz0 hz1 hz2 rfl (OB.of_buf hbuf) rfl rfl (hA1.src Try.underlying22 HA.out (one_bytes _)) (by unfold maxLen; omega) (by omega) ?_; intro v2 w2 hb2 _ _ _))
  obtain ⟨D, d, rfl, hd1, hd2, hd3⟩ := hb2.slice
  have hA2 := hS.below hb2.below
  have hs2 := hb2.base
  have hsl := hb2.sl
  clear hbuf hA1
  have hchk := chkN_lt l
  go_wp2_with fail
  refine (check_any _ _ _ l _ (hA2.more hs2) (by unfold maxLen; omega)).mono ?_
  rintro e w3 ⟨rfl, rfl⟩
  generalize chkN l = q at *
  go_wp2_with fail
  have hfr := Sl.fresh w2 #[.int .u16 (q : Nat)] 35 1 ([q].map v16) rfl rfl
  have hD := ((hsl.alloc (Nat.le_refl _) (.cells #[.int .u16 (q : Nat)] 35)).more (B' := (w2.alloc (.cells #[.int .u16 (q : Nat)] 35)).heap.size) (by simp))
  rw [← List.map_append] at hD
  refine (put16_any D (4 + n) d _ _ 1 1 [q] _ hD hd3 hfr (by intro x hx; simp at hx; omega) (by omega)).mono ?_
  rintro e w3 ⟨g3, rfl, hown, hb3⟩
  rw [HFF.out, show 4 + n + 2 * 1 = n + 6 by omega] at hown
  have hbuf := Buf.out (C := w.heap.size) (W0 := w) ⟨hown, hb3, hb3.size⟩ (by simp; omega) (hb2.below.alloc hs2 _)
  rw [show 4 + n + 2 * 1 = n + 6 by omega]
  clear hown hb3 hD hfr hsl hb2
  go_wp2_with fail
  go_ret2
  exact ⟨g3, rfl, hbuf.1, hbuf.below⟩
theorem frame_follows : Try.prog.follows .mixedOrders = true := by kernel_rfl
theorem cut_none (A : Option Addr) (n c : Nat) (l : List UInt8) (w : World) (hS : Sl w w.heap.size 1 A n (l.map bv)) (hA0 : A = none → n = 0) (hn : n ≤ c) (hN : n ≤ 281474976710656) (h : firstL l = none) :
    Calls Try.prog 39 #[.slice A n c] w fun e w' => e = .returned (.tuple #[.slice none 0 0, .slice none 0 0, .bool false]) ∧ ∃ k, w.drewN k = w' := by
  have HF := Lib.hid ((first_any A n c l w hS hA0 hn hN).1 h)
  clear h hA0
  go_enter Try.func39, Try.ntmps39
  go_wp2_with fail
  refine HF.out.mono ?_
  rintro e w1 ⟨rfl, k1, rfl⟩
  go_wp2_with fail
  go_ret3
  exact ⟨rfl, _, rfl⟩
theorem below_drewN' {B : Nat} {w w' : World} (h : Below B w w') (k : Nat) : Below B w (w'.drewN k) := ⟨h.os, h.tape, h.output, h.size, h.block⟩
/-- A slice's end: the address stays where nothing is left of it. -/
def Tail (b off n c k : Nat) : Value := .slice (if c = k then some ⟨b, off, none⟩ else some ⟨b, off + k, none⟩) (n - k) (c - k)
attribute [local simp] putsF isV wordOf Deps Region.binds Region.wanted Act.put
set_option maxHeartbeats 1600000 in
set_option maxRecDepth 20000 in
theorem cut_yes (A : Option Addr) (n c : Nat) (l : List UInt8) (m : Nat) (w : World) (hS : Sl w w.heap.size 1 A n (l.map bv)) (hA0 : A = none → n = 0) (hn : n ≤ c) (hN : n ≤ 140737488355328) (h : firstL l = some m) :
    Calls Try.prog 39 #[.slice A n c] w fun e w' => ∃ v1 v2, e = .returned (.tuple #[v1, v2, .bool true]) ∧ txt ((l.drop 4).take m) v1 w' ∧ txt (l.drop (m + 6)) v2 w' ∧ Below w.heap.size w w' := by
  obtain ⟨h1, h2, -⟩ := firstL_some h
  have hl : l.length = n := by simpa using hS.1
  rw [hl] at h2
  have HF := Lib.hid ((first_any A n c l w hS hA0 hn (by omega)).2 m h)
  cases A with
  | none => exact absurd (hA0 rfl) (by omega)
  | some ad =>
  obtain ⟨b, off, e, hb, -⟩ := hS.2 (by omega)
  obtain rfl := Option.some.inj e
  have p1 : Sl w w.heap.size 1 (some ⟨b, off + 4, none⟩) m (((l.drop 4).take m).map bv) := hS.part (by omega)
  have p2 : Sl w w.heap.size 1 (some ⟨b, off + (m + 6), none⟩) (n - (m + 6)) ((l.drop (m + 6)).map bv) := by
    have := hS.part (a := m + 6) (m := n - (m + 6)) (by omega)
    rwa [List.take_of_length_le (by simp; omega)] at this
  have l1 : ((l.drop 4).take m).length = m := by simp; omega
  have l2 : (l.drop (m + 6)).length = n - (m + 6) := by simp; omega
  generalize (l.drop 4).take m = lk at *
  generalize l.drop (m + 6) = lr at *
  clear h hA0 e
  have HL1 := Lib.hid l1
  have HL2 := Lib.hid l2
  clear l1 l2 hl
  go_enter Try.func39, Try.ntmps39
  go_wp2_with fail
  refine HF.out.mono ?_
  rintro e w1 ⟨rfl, k1, rfl⟩
  have q1 : Sl (w.drewN k1) w.heap.size 1 (some ⟨b, off + 4, none⟩) m (lk.map bv) := p1.drewN k1
  have q2 : Sl (w.drewN k1) w.heap.size 1 (some ⟨b, off + (m + 6), none⟩) (n - (m + 6)) (lr.map bv) := p2.drewN k1
  go_upto_region 4 with fail
  have e1 : IntKind.i64.wrap (4 + (m : Int)) = 4 + m := IntWalk.i64_in _ (by omega)
  have e2 : IntKind.i64.wrap (4 + (m : Int) + 2) = 4 + m + 2 := IntWalk.i64_in _ (by omega)
  have e3 : (4 + (m : Int)).toNat = 4 + m := by omega
  have e4 : (4 + (m : Int) + 2).toNat = m + 6 := by omega
  refine wp_region_goes frame_follows w.heap.size w
    [isV (.slice (some ⟨b, off, none⟩) n c), isV (.int .i64 m), isV (.int .i64 (4 + m)), isV (.slice (some ⟨b, off + 4, none⟩) m (c - 4)), txt lk, isV (.slice (some ⟨b, off, none⟩) n c), isV (.int .i64 m), isV (.int .i64 (4 + m)), isV (.int .i64 (4 + m + 2)),
      isV (Tail b off n c (m + 6)), txt lr, txt lk, txt lr, isV (.bool true)]
    (by kernel_rfl) (by kernel_rfl) rfl ?_ (below_drewN' (Below.refl _ _) k1) ?_ ?_
  · repeat (first | exact trivial | refine ⟨by first | exact isV_stays _ | exact one_stays _ | exact txt_stays _, ?_⟩)
  · refine ⟨?_, ?_, ?_, ?_, ?_, ?_, ?_, ?_, ?_, ?_, ?_, ?_, ?_, ?_, trivial⟩
    all_goals
      intro x wr hR hd
      simp at hd ⊢
    all_goals try (go_simp; exact next_same _ rfl rfl hR)
    · obtain ⟨hd0, hd1⟩ := hd
      have hz : ¬ c = 4 := by omega
      have g1 : 0 ≤ 4 + (m : Int) := by omega
      have g2 : 4 + (m : Int) ≤ c := by omega
      have g3 : (4 : Int) ≤ 4 + m := by omega
      go_simp
      exact next_same _ rfl rfl hR
    · go_simp
      go_at_call 65
      refine (clone_any _ _ _ lk _ ((q1.keep fun p hp => by rw [hR.cell hp]; rfl).more hR.size) (by intro h; cases h) (by omega)).mono ?_
      rintro e w2 ⟨v, rfl, ht, hb⟩
      exact next_call _ rfl ht hR hR.size hb
    · obtain ⟨hd0, hd1⟩ := hd
      have g1 : 0 ≤ 4 + (m : Int) + 2 := by omega
      have g2 : 4 + (m : Int) + 2 ≤ n := by omega
      go_simp
      exact next_same _ rfl rfl hR
    · unfold Tail at hd
      by_cases hz : c = m + 6
      · rw [if_pos hz] at hd
        go_simp
        go_at_call 65
        have hnil : lr = [] := List.eq_nil_of_length_eq_zero (by have := HL2.out; omega)
        have hn0 : n - (m + 6) = 0 := by omega
        rw [hn0, hnil]
        refine (clone_any _ 0 _ [] _ (Sl.nil _ _ _ _) (by intro h; cases h) (by omega)).mono ?_
        rintro e w2 ⟨v, rfl, ht, hb⟩
        exact next_call _ rfl ht hR hR.size hb
      · rw [if_neg hz] at hd
        go_simp
        go_at_call 65
        refine (clone_any _ _ _ lr _ ((q2.keep fun p hp => by rw [hR.cell hp]; rfl).more hR.size) (by intro h; cases h) (by omega)).mono ?_
        rintro e w2 ⟨v, rfl, ht, hb⟩
        exact next_call _ rfl ht hR hR.size hb
    · obtain ⟨ht, -⟩ := hd
      have HT := Lib.hid ht
      clear ht
      go_simp
      exact next_same _ rfl HT.out hR
    · obtain ⟨ht, -⟩ := hd
      have HT := Lib.hid ht
      clear ht
      go_simp
      exact next_same _ rfl HT.out hR
  intro x w2 hb2 hx
  simp [AllWords] at hx ⊢
  obtain ⟨-, -, -, -, -, -, -, -, -, -, -, h11, h12, h13⟩ := hx
  have H1 := Lib.hid h11
  have H2 := Lib.hid h12
  clear h11 h12
  go_wp2_with fail
  go_ret3
  refine ⟨x 11, x 12, ?_, H1.out, H2.out, hb2⟩
  show Ending.returned (.tuple #[x 11, x 12, x 13]) = _
  rw [h13]
end Go.Proofs.Ytdekaaclheoapaa
