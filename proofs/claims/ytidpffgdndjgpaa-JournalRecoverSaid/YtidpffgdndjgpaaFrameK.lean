/- The contract of frame.Cut, without the shelf. -/
import Derived.Test.YtidpffgdndjgpaaFrameM
import Derived.Test.YtidpffgdndjgpaaDevC
namespace Go.Proofs.Ytidpffgdndjgpaa
open Go.RowKit
set_option linter.unusedVariables false
set_option maxRecDepth 20000
theorem clone_txt (A : Option Addr) (n c : Nat) (l : List UInt8) (w : World) (h : Sl w w.heap.size 1 A n (l.map bv)) (hA0 : A = none → n = 0 ∧ c = 0) (hn : n ≤ 140737488355328) :
    Calls Try.prog 28 #[.slice A n c] w fun e w' => ∃ v, e = .returned v ∧ txt l v w' ∧ Below w.heap.size w w' := by
  refine (clone_ob A n c l w _ h hA0 hn).mono ?_
  rintro e w' ⟨v, rfl, ho⟩
  have hb := ho.bel
  obtain ⟨A', c', rfl, -, -, h0⟩ := ho.slice
  exact ⟨_, rfl, ⟨A', n, c', rfl, ho.sl, fun e => (h0 e).1⟩, hb⟩
theorem frame_follows : Try.prog.follows .mixedOrders = true := by kernel_rfl
theorem cut_none (A : Option Addr) (n c : Nat) (l : List UInt8) (w : World) (hS : Sl w w.heap.size 1 A n (l.map bv)) (hA0 : A = none → n = 0) (hn : n ≤ c) (hN : n ≤ 281474976710656) (h : firstL l = none) :
    Calls Try.prog 9 #[.slice A n c] w fun e w' => e = .returned (.tuple #[.slice none 0 0, .slice none 0 0, .bool false]) ∧ ∃ k, w.drewN k = w' := by
  have HF := Lib.hid ((first_any A n c l w hS hA0 hn hN).1 h)
  clear h hA0
  go_enter Try.func9, Try.ntmps9
  go_wp2_with fail
  refine HF.out.mono ?_
  rintro e w1 ⟨rfl, k1, rfl⟩
  go_wp2_with fail
  go_ret3
  exact ⟨rfl, _, rfl⟩
theorem below_drewN' {B : Nat} {w w' : World} (h : Below B w w') (k : Nat) : Below B w (w'.drewN k) := ⟨h.os, h.tape, h.output, h.size, h.block⟩
/-- A slice's end: the address stays where nothing is left of it. -/
def Tail (b off n c k : Nat) : Value := .slice (if c = k then some ⟨b, off, none⟩ else some ⟨b, off + k, none⟩) (n - k) (c - k)
attribute [local simp] putsF isV wordOf Deps Region.binds Region.wanted Act.put
set_option maxHeartbeats 1600000 in
set_option maxRecDepth 20000 in
theorem cut_yes (A : Option Addr) (n c : Nat) (l : List UInt8) (m : Nat) (w : World) (hS : Sl w w.heap.size 1 A n (l.map bv)) (hA0 : A = none → n = 0) (hn : n ≤ c) (hN : n ≤ 140737488355328) (h : firstL l = some m) :
    Calls Try.prog 9 #[.slice A n c] w fun e w' => ∃ v1 v2, e = .returned (.tuple #[v1, v2, .bool true]) ∧ txt ((l.drop 4).take m) v1 w' ∧ txt (l.drop (m + 6)) v2 w' ∧ Below w.heap.size w w' := by
  obtain ⟨h1, h2, -⟩ := firstL_some h
  have hl : l.length = n := by simpa using hS.1
  rw [hl] at h2
  have HF := Lib.hid ((first_any A n c l w hS hA0 hn (by omega)).2 m h)
  cases A with
  | none => exact absurd (hA0 rfl) (by omega)
  | some ad =>
  obtain ⟨b, off, e, hb, -⟩ := hS.2 (by omega)
  obtain rfl := Option.some.inj e
  have p1 : Sl w w.heap.size 1 (some ⟨b, off + 4, none⟩) m (((l.drop 4).take m).map bv) := hS.part (by omega)
  have p2 : Sl w w.heap.size 1 (some ⟨b, off + (m + 6), none⟩) (n - (m + 6)) ((l.drop (m + 6)).map bv) := by
    have := hS.part (a := m + 6) (m := n - (m + 6)) (by omega)
    rwa [List.take_of_length_le (by simp; omega)] at this
  have l1 : ((l.drop 4).take m).length = m := by simp; omega
  have l2 : (l.drop (m + 6)).length = n - (m + 6) := by simp; omega
  generalize (l.drop 4).take m = lk at *
  generalize l.drop (m + 6) = lr at *
  clear h hA0 e
  have HL1 := Lib.hid l1
  have HL2 := Lib.hid l2
  clear l1 l2 hl
  go_enter Try.func9, Try.ntmps9
  go_wp2_with fail
  refine HF.out.mono ?_
  rintro e w1 ⟨rfl, k1, rfl⟩
  have q1 : Sl (w.drewN k1) w.heap.size 1 (some ⟨b, off + 4, none⟩) m (lk.map bv) := p1.drewN k1
  have q2 : Sl (w.drewN k1) w.heap.size 1 (some ⟨b, off + (m + 6), none⟩) (n - (m + 6)) (lr.map bv) := p2.drewN k1
  go_upto_region 4 with fail
  have e1 : IntKind.i64.wrap (4 + (m : Int)) = 4 + m := IntWalk.i64_in _ (by omega)
  have e2 : IntKind.i64.wrap (4 + (m : Int) + 2) = 4 + m + 2 := IntWalk.i64_in _ (by omega)
  have e3 : (4 + (m : Int)).toNat = 4 + m := by omega
  have e4 : (4 + (m : Int) + 2).toNat = m + 6 := by omega
  refine wp_region_goes frame_follows w.heap.size w
    [isV (.slice (some ⟨b, off, none⟩) n c), isV (.int .i64 m), isV (.int .i64 (4 + m)), isV (.slice (some ⟨b, off + 4, none⟩) m (c - 4)), txt lk, isV (.slice (some ⟨b, off, none⟩) n c), isV (.int .i64 m), isV (.int .i64 (4 + m)), isV (.int .i64 (4 + m + 2)),
      isV (Tail b off n c (m + 6)), txt lr, txt lk, txt lr, isV (.bool true)]
    (by kernel_rfl) (by kernel_rfl) rfl ?_ (below_drewN' (Below.refl _ _) k1) ?_ ?_
  · repeat (first | exact trivial | refine ⟨by first | exact isV_stays _ | exact one_stays _ | exact txt_stays _, ?_⟩)
  · refine ⟨?_, ?_, ?_, ?_, ?_, ?_, ?_, ?_, ?_, ?_, ?_, ?_, ?_, ?_, trivial⟩
    all_goals
      intro x wr hR hd
      simp at hd ⊢
    all_goals try (go_simp; exact next_same _ rfl rfl hR)
    · obtain ⟨hd0, hd1⟩ := hd
      have hz : ¬ c = 4 := by omega
      have g1 : 0 ≤ 4 + (m : Int) := by omega
      have g2 : 4 + (m : Int) ≤ c := by omega
      have g3 : (4 : Int) ≤ 4 + m := by omega
      go_simp
      exact next_same _ rfl rfl hR
    · go_simp
      go_at_call 28
      refine (clone_txt _ _ _ lk _ ((q1.keep fun p hp => by rw [hR.cell hp]; rfl).more hR.size) (by intro h; cases h) (by omega)).mono ?_
      rintro e w2 ⟨v, rfl, ht, hb⟩
      exact next_call _ rfl ht hR hR.size hb
    · obtain ⟨hd0, hd1⟩ := hd
      have g1 : 0 ≤ 4 + (m : Int) + 2 := by omega
      have g2 : 4 + (m : Int) + 2 ≤ n := by omega
      go_simp
      exact next_same _ rfl rfl hR
    · unfold Tail at hd
      by_cases hz : c = m + 6
      · rw [if_pos hz] at hd
        go_simp
        go_at_call 28
        have hnil : lr = [] := List.eq_nil_of_length_eq_zero (by have := HL2.out; omega)
        have hn0 : n - (m + 6) = 0 := by omega
        rw [hn0, hnil]
        refine (clone_txt _ 0 _ [] _ (Sl.nil _ _ _ _) (by intro h; cases h) (by omega)).mono ?_
        rintro e w2 ⟨v, rfl, ht, hb⟩
        exact next_call _ rfl ht hR hR.size hb
      · rw [if_neg hz] at hd
        go_simp
        go_at_call 28
        refine (clone_txt _ _ _ lr _ ((q2.keep fun p hp => by rw [hR.cell hp]; rfl).more hR.size) (by intro h; cases h) (by omega)).mono ?_
        rintro e w2 ⟨v, rfl, ht, hb⟩
        exact next_call _ rfl ht hR hR.size hb
    · obtain ⟨ht, -⟩ := hd
      have HT := Lib.hid ht
      clear ht
      go_simp
      exact next_same _ rfl HT.out hR
    · obtain ⟨ht, -⟩ := hd
      have HT := Lib.hid ht
      clear ht
      go_simp
      exact next_same _ rfl HT.out hR
  intro x w2 hb2 hx
  simp [AllWords] at hx ⊢
  obtain ⟨-, -, -, -, -, -, -, -, -, -, -, h11, h12, h13⟩ := hx
  have H1 := Lib.hid h11
  have H2 := Lib.hid h12
  clear h11 h12
  go_wp2_with fail
  go_ret3
  refine ⟨x 11, x 12, ?_, H1.out, H2.out, hb2⟩
  show Ending.returned (.tuple #[x 11, x 12, x 13]) = _
  rw [h13]
end Go.Proofs.Ytidpffgdndjgpaa
