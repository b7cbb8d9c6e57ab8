/- The walk of FrameTurned. -/
import Derived.Test.YtioichenjoeonabLawFrameT
namespace Go.Proofs.Ytioichenjoeonab
open Go.RowKit
set_option linter.unusedVariables false

/-- A frame's form, with whatever check. -/
def frameG (l : List UInt8) (k : Nat) : List UInt8 := w16 l.length ++ w16 (65535 - l.length) ++ l ++ w16 k
theorem frameL_G (l : List UInt8) : frameL l = frameG l (chkN l) := rfl
theorem firstL_G (l : List UInt8) (k : Nat) (h : l.length ≤ 600) (hk : k < 65536) : firstL (frameG l k) = if k = chkN l then some l.length else none := by
  have h0 : n16L (frameG l k) 0 = l.length := by
    have := n16L_w16 [] l.length (w16 (65535 - l.length) ++ l ++ w16 k) (by omega) 0 rfl
    simpa [frameG, List.append_assoc] using this
  have h2 : n16L (frameG l k) 2 = 65535 - l.length := by
    have := n16L_w16 (w16 l.length) (65535 - l.length) (l ++ w16 k) (by omega) 2 rfl
    simpa [frameG, List.append_assoc] using this
  have h4 : n16L (frameG l k) (4 + l.length) = k := by
    have := n16L_w16 (w16 l.length ++ w16 (65535 - l.length) ++ l) k [] hk (4 + l.length) (by simp [w16_length]; omega)
    simpa [frameG, List.append_assoc] using this
  have hm : ((frameG l k).drop 4).take l.length = l := by simp [frameG, w16]
  have hl : (frameG l k).length = l.length + 6 := by simp [frameG, w16_length]; omega
  unfold firstL
  rw [h0, h2, h4, hm, hl, if_neg (by omega), if_neg (by simp; omega)]
  by_cases hq : k = chkN l
  · rw [if_neg (by simp [hq]), if_pos hq]
  · rw [if_pos hq, if_neg hq]
theorem frameG_set (l : List UInt8) (k p : Nat) (v : UInt8) (hp : p < l.length) : (frameG l k).set (4 + p) v = frameG (l.set p v) k := by
  simp only [frameG, w16, List.length_set, List.cons_append, List.nil_append]
  rw [show 4 + p = p + 1 + 1 + 1 + 1 by omega]
  simp only [List.set_cons_succ]
  rw [List.set_append_left _ _ hp]
theorem frameG_at (l : List UInt8) (k p : Nat) (hp : p < l.length) : (frameG l k)[4 + p]? = some l[p] := by
  simp only [frameG, w16, List.cons_append, List.nil_append]
  rw [show 4 + p = p + 1 + 1 + 1 + 1 by omega]
  simp only [List.getElem?_cons_succ]
  rw [List.getElem?_append_left hp, List.getElem?_eq_getElem hp]
theorem chkP_sum (l : List UInt8) : ∀ (s t : Nat), s < 255 → (l.foldl chkStep (s, t)).1 = (s + (l.map (·.toNat)).sum) % 255 := by
  induction l with
  | nil => intro s t h; simp; omega
  | cons c r ih =>
    intro s t h
    simp only [List.foldl_cons, List.map_cons, List.sum_cons]
    show (r.foldl chkStep ((s + c.toNat) % 255, _)).1 = _
    rw [ih _ _ (Nat.mod_lt _ (by omega))]
    omega
theorem chk_turn (l : List UInt8) (p : Nat) (v : UInt8) (hp : p < l.length) : (chkN l = chkN (l.set p v)) = ((l[p]).toNat % 255 = v.toNat % 255) := by
  have hl : l = l.take p ++ l[p] :: l.drop (p + 1) := by rw [← List.drop_eq_getElem_cons hp, List.take_append_drop]
  have hs : l.set p v = l.take p ++ v :: l.drop (p + 1) := List.set_eq_take_append_cons_drop.trans (if_pos hp)
  rw [hs]
  rw (occs := .pos [1]) [hl]
  generalize l.take p = a
  generalize l.drop (p + 1) = b
  generalize l[p] = x
  apply propext
  constructor
  · intro h
    have e1 : (chkP (a ++ x :: b)).1 = (chkP (a ++ v :: b)).1 := by
      have h1 := chkP_lt (a ++ x :: b)
      have h2 := chkP_lt (a ++ v :: b)
      unfold chkN at h; omega
    unfold chkP at e1
    rw [chkP_sum _ _ _ (by omega), chkP_sum _ _ _ (by omega)] at e1
    simp only [List.map_append, List.map_cons, List.sum_append, List.sum_cons] at e1
    omega
  · intro h
    have e : chkP (a ++ x :: b) = chkP (a ++ v :: b) := by
      unfold chkP
      rw [List.foldl_append, List.foldl_append, List.foldl_cons, List.foldl_cons]
      congr 1
      generalize List.foldl chkStep (0, 0) a = q
      unfold chkStep
      rw [show (q.1 + x.toNat) % 255 = (q.1 + v.toNat) % 255 by omega]
    unfold chkN; rw [e]

set_option maxHeartbeats 1600000 in
set_option maxRecDepth 20000 in
theorem frameTurned_walk (w : World) (A : Option Addr) (n c : Nat) (zs : List Int) (hV : SlView w A n c (zs.map (Value.int .u8))) (hl : zs.length = n) (hz : ∀ z ∈ zs, (Lit.int .u8 z).wf = true) (hc : c ≤ 140737488351232)
    (x : Int) (hx : (Lit.int .u16 x).wf = true) (y : Int) (hy : (Lit.int .u8 y).wf = true) :
    Calls Try.prog 6 #[.slice A n c, .int .u16 x, .int .u8 y] w fun e w' => e = .returned (.bool true) ∧ Below w.heap.size w w' := by
  obtain ⟨i0, hi, hz0, hz1, hz2'⟩ := info_parts num_info
  obtain ⟨l, hzl⟩ := bytes_of zs hz
  rw [hzl] at hV
  have hll : l.length = n := by have := congrArg List.length hzl; simp at this; omega
  have hx2 := bounds_u16 hx
  have hy2 := bounds_u8 hy
  have hnc := hV.le
  obtain ⟨K, hK⟩ : ∃ K, K = min n 600 := ⟨_, rfl⟩
  have e1 : (min (n : Int) 600).toNat = K := by omega
  have e2 : 0 ≤ min (n : Int) 600 := by omega
  have e3 : min (n : Int) 600 ≤ c := by omega
  have hK6 : K ≤ 600 := by omega
  have hS : Sl w w.heap.size 1 A K ((l.take K).map bv) := hV.sl.take K (by omega)
  have hkl : (l.take K).length = K := by simp; omega
  have hA0' : A = none → K = 0 := fun h => by have := hV.none_ h; omega
  obtain ⟨l1, el1⟩ : ∃ l1, l1 = l.take K := ⟨_, rfl⟩
  rw [← el1] at hS hkl
  have HA := Lib.hid hA0'
  clear hll el1 hK hzl hz hl hA0' hV hx hy
  obtain ⟨X, rfl⟩ := Int.eq_ofNat_of_zero_le hx2.1
  obtain ⟨Y, rfl⟩ := Int.eq_ofNat_of_zero_le hy2.1
  by_cases hK0 : K = 0
  · subst hK0
    obtain rfl : l1 = [] := List.eq_nil_of_length_eq_zero hkl
    clear hkl
    go_enter Try.func6, Try.ntmps6
    go_wp2_with fail
    refine (awake22_any _).mono ?_
    rintro e w1 ⟨rfl, hb1⟩
    go_wp2_with (first
      | (at_builtin; refine wpList_append_ob rfl (.const (.slice none 0 0)) (.tmp 22) 22 22 rfl 5 i0 (.int .u8 0) 1 Try.underlying22 hi hz0 hz1 hz2' rfl (OB.start w1) rfl rfl ((hS.below hb1).src Try.underlying22 (fun _ => rfl) (one_bytes _)) (by unfold maxLen; omega) (by omega) ?_; intro v2 w2 hob2 _ _ _; simp only [Nat.zero_add, List.nil_append] at hob2; obtain ⟨D, d, rfl, hd1, hd2, hd3⟩ := hob2.slice; have HD3 := Lib.hid hd3; clear hd3))
    have hsl := hob2.sl
    have hB2 := hb1.trans (hob2.bel.mono hb1.size)
    clear hob2
    refine (check_any D 0 d [] _ (Sl.nil _ _ _ _) (by unfold maxLen; omega)).mono ?_
    rintro e w3 ⟨rfl, rfl⟩
    go_wp2_with fail
    go_ret
    exact ⟨rfl, hB2⟩
  obtain ⟨p, hp⟩ : ∃ p, p = X % K := ⟨_, rfl⟩
  have hpK : p < K := by rw [hp]; exact Nat.mod_lt _ (by omega)
  have hm : (X : Int) % (K : Int) = (p : Int) := by rw [hp, Int.natCast_emod]
  have hpl : p < l1.length := by omega
  obtain ⟨a, ha⟩ : ∃ a, a = l1[p] := ⟨_, rfl⟩
  obtain ⟨v, hv⟩ : ∃ v : UInt8, v = UInt8.ofNat ((a.toNat + Y) % 256) := ⟨_, rfl⟩
  have hvn : v.toNat = (a.toNat + Y) % 256 := by rw [hv, UInt8.toNat_ofNat_of_lt' (show (a.toNat + Y) % 256 < 2 ^ 8 from Nat.mod_lt _ (by decide))]
  have hck := chkN_lt l1
  have hfirst := firstL_G (l1.set p v) (chkN l1) (by simp; omega) (by omega)
  have hturn := chk_turn l1 p v hpl
  simp only [List.length_set, hkl, hturn, ← ha] at hfirst
  have hat := frameG_at l1 (chkN l1) p hpl
  have hset := frameG_set l1 (chkN l1) p v hpl
  rw [← frameL_G, ← ha] at hat
  rw [← frameL_G] at hset
  obtain ⟨b2, eb2⟩ : ∃ b2, b2 = frameG (l1.set p v) (chkN l1) := ⟨_, rfl⟩
  rw [← eb2] at hset hfirst
  have h8 := UInt8.toNat_lt a
  have HV : Hid (bv v = .int .u8 (((a.toNat : Int) + Y) % 256)) := Lib.hid (by unfold bv; rw [hvn]; congr 1)
  have HAT : Hid (((frameL l1).map bv)[4 + p]? = some (.int .u8 (a.toNat : Int))) := Lib.hid (by rw [List.getElem?_map, hat]; rfl)
  have HSET := Lib.hid hset
  have HFIRST := Lib.hid hfirst
  have HKL := Lib.hid hkl
  have HVN := Lib.hid hvn
  clear hkl hat hset hfirst hturn hv hp hvn ha eb2 hck hpl
  generalize hA8 : a.toNat = a8 at *
  clear hA8
  go_enter Try.func6, Try.ntmps6
  go_wp2_with fail
  refine (awake22_any _).mono ?_
  rintro e w1 ⟨rfl, hb1⟩
  go_wp2_with (first
    | (at_builtin; refine wpList_append_ob rfl (.const (.slice none 0 0)) (.tmp 22) 22 22 rfl 5 i0 (.int .u8 0) 1 Try.underlying22 hi hz0 hz1 hz2' rfl (OB.start w1) rfl rfl ((hS.below hb1).src Try.underlying22 HA.out (one_bytes _)) (by unfold maxLen; omega) (by omega) ?_; intro v2 w2 hob2 _ _ _; simp only [Nat.zero_add, List.nil_append] at hob2; obtain ⟨D, d, rfl, hd1, hd2, hd3⟩ := hob2.slice; have HD3 := Lib.hid hd3; clear hd3))
  have hsl := hob2.sl
  have hB2 := hb1.trans (hob2.bel.mono hb1.size)
  clear hob2
  refine (make_yes D K d l1 _ hsl (fun h => (HD3.out h).1) hK6).mono ?_
  rintro e w3 ⟨g, rfl, hown, hb3⟩
  have hob := OB.of_own hown hb3 hb3.size
  have hob := hob.out hB2.size hB2
  have hcell := hob.cell (4 + p) _ HAT.out
  have hfrz := hob.frozen (4 + p) (by omega)
  have hset := hob.set (4 + p) (by omega) (bv v)
  rw [← List.map_set, HSET.out, HV.out] at hset
  have hB3 := hset.bel
  have hsl3 := hset.sl
  have hne : ¬ (K : Int) = 0 := by omega
  have hidx : (4 + (p : Int)).toNat = 4 + p := by omega
  clear hown hb3 hob hset hb1 hB2 hsl
  go_wp2_with fail
  have hcell2 : (w3.setCell ⟨g, 4 + p, none⟩ (.int .u8 (((a8 : Int) + Y) % 256))).cell? ⟨g, 4 + p, none⟩ = some (.int .u8 (((a8 : Int) + Y) % 256)) := World.cell?_setCell_same _ _ _ hcell
  generalize w3.setCell ⟨g, 4 + p, none⟩ (.int .u8 (((a8 : Int) + Y) % 256)) = w4 at *
  have hgl := (hsl3.2 (by omega))
  have hblk : g < w4.heap.size := by obtain ⟨b, off, e, hb, -⟩ := hgl; injection e with e; injection e with e; omega
  clear hcell hfrz hgl
  by_cases hal : a8 % 255 = v.toNat % 255
  · have hf := HFIRST.out
    rw [if_pos hal] at hf
    rw [HVN.out] at hal
    have hE : ((a8 : Int) % 255 == ((a8 : Int) + Y) % 256 % 255) = true := by rw [beq_iff_eq]; omega
    have hcut := cut_yes (some ⟨g, 0, none⟩) (K + 6) (K + 6) b2 K w4 hsl3 (by intro h; cases h) (Nat.le_refl _) (by omega) hf
    clear hal hf
    refine hcut.mono ?_
    rintro e w5 ⟨v1, v2, rfl, ⟨A1, n1, c1, rfl, t1⟩, ⟨A2, n2, c2, rfl, t2⟩, hb5⟩
    have hcell3 : w5.cell? ⟨g, 4 + p, none⟩ = some (.int .u8 (((a8 : Int) + Y) % 256)) := (hb5.cell (p := ⟨g, 4 + p, none⟩) hblk).trans hcell2
    have hB5 := hB3.trans (hb5.mono hB3.size)
    clear hcut hcell2 t1 t2
    go_wp2_with fail
    go_ret
    exact ⟨rfl, hB5⟩
  · have hf := HFIRST.out
    rw [if_neg hal] at hf
    rw [HVN.out] at hal
    have hE : ((a8 : Int) % 255 == ((a8 : Int) + Y) % 256 % 255) = false := by rw [beq_eq_false_iff_ne]; omega
    have hcut := cut_none (some ⟨g, 0, none⟩) (K + 6) (K + 6) b2 w4 hsl3 (by intro h; cases h) (Nat.le_refl _) (by omega) hf
    clear hal hf
    refine hcut.mono ?_
    rintro e w5 ⟨rfl, j, rfl⟩
    have hcell3 : (w4.drewN j).cell? ⟨g, 4 + p, none⟩ = some (.int .u8 (((a8 : Int) + Y) % 256)) := hcell2
    clear hcut hcell2
    go_wp2_with fail
    go_ret
    exact ⟨rfl, below_drewN' hB3 j⟩
end Go.Proofs.Ytioichenjoeonab
