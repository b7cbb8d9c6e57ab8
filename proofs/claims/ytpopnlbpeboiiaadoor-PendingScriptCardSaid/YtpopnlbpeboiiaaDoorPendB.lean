/- The entries of the statements of layer 26, made of an act's numbers. -/
import Derived.Test.YtpopnlbpeboiiaaDoorPendA
import Derived.Test.YtpopnlbpeboiiaaDoorViewP
import Derived.Test.YtpopnlbpeboiiaaDoorRecA
import Derived.Test.YtpopnlbpeboiiaaDoorObw
import Derived.Test.YtpopnlbpeboiiaaDoorMid
import Derived.Deep.MidRow
import Derived.Outline
namespace Go.Proofs.YtpopnlbpeboiiaaDoor
open Go.RowKit
set_option linter.unusedVariables false
set_option linter.unusedSimpArgs false
set_option maxRecDepth 20000
attribute [local simp] putsF isV wordOf Deps Region.binds Region.wanted Act.put wantedX isB
theorem flatE_len (es : List EntT) : (flatE es).length = es.length * 19 := by
  unfold flatE
  induction es with
  | nil => rfl
  | cons r rs ih => rw [List.flatMap_cons, List.length_append, ih, List.length_cons, entCells_len]; omega
theorem flatE_snoc (rs : List EntT) (r : EntT) : flatE (rs ++ [r]) = flatE rs ++ entCells r := by unfold flatE; simp
theorem entCells_one (e : EntT) : ∀ u ∈ entCells e, u.oneCell' = true := by
  intro u hu
  unfold entCells at hu
  simp only [List.mem_cons, List.not_mem_nil, or_false] at hu
  rcases hu with rfl | rfl | rfl | rfl | rfl | rfl | rfl | rfl | rfl | rfl | rfl | rfl | rfl | rfl | rfl | rfl | rfl | rfl | rfl <;> rfl
theorem flatE_one (rs : List EntT) : ∀ u ∈ flatE rs, u.oneCell' = true := by
  intro u hu
  obtain ⟨r, -, hr⟩ := List.mem_flatMap.1 hu
  exact entCells_one r u hr
theorem Sl.ents {w : World} {C n : Nat} {A : Option Addr} {es : List EntT} (h : Sl w C 19 A n (flatE es)) (hC : C ≤ w.heap.size) (hn : es.length = n) : Ents w A es := by
  intro i e he
  have hi := (List.getElem?_eq_some_iff.1 he).1
  obtain ⟨b, off, rfl, hb, hc⟩ := h.2 (by omega)
  refine ⟨b, off, rfl, by omega, fun j u hu => ?_⟩
  have := hc _ _ (flatE_get es i j e u he hu)
  rwa [← Nat.add_assoc] at this
/-- A deed that lies there. -/
structure DpOk (w : World) (a : DeedP) : Prop where
  op : 0 ≤ a.1 ∧ a.1 < 256
  id : 0 ≤ a.2.1 ∧ a.2.1 < 256
  r : Sl w w.heap.size 1 a.2.2.1.1 a.2.2.1.2.1 (a.2.2.1.2.2.2.map bv)
  nz : a.2.2.1.1 = none → a.2.2.1.2.1 = 0 ∧ a.2.2.1.2.2.1 = 0
  le : a.2.2.1.2.1 ≤ a.2.2.1.2.2.1
  max : a.2.2.1.2.2.1 ≤ maxLen
  ty : 0 ≤ a.2.2.2.1 ∧ a.2.2.2.1 < 256
  ti : -128 ≤ a.2.2.2.2 ∧ a.2.2.2.2 < 128
theorem DpOk.below {w w' : World} {a : DeedP} (h : DpOk w a) (hb : Below w.heap.size w w') : DpOk w' a :=
  ⟨h.op, h.id, (h.r.below hb).more hb.size, h.nz, h.le, h.max, h.ty, h.ti⟩
/-- A client's sign. -/
def clientB (t : Nat) : ByteArray := ⟨#[UInt8.ofNat (97 + t % 9)]⟩
def entOf (a : DeedP) : EntT := (((a.2.1.toNat % 24 + 65532) % 65536 : Nat), nmB (a.2.2.1.2.2.2.take 1), (a.2.2.2.1.toNat % 2 : Nat), clientB a.2.2.2.1.toNat, a.2.2.2.1, a.2.2.2.2)
def deedA (a : DeedP) : Value := .agg #[.int .u8 a.1, .int .u8 a.2.1, rowV a.2.2.1, .int .u8 a.2.2.2.1, .int .i8 a.2.2.2.2]
def entA (e : EntT) : Value := .agg (entCells e).toArray
theorem encode_sign (t : Nat) (ht : t < 9) : Utf8.encode (97 + (t : Int)) = clientB t := by
  rcases (by omega : t = 0 ∨ t = 1 ∨ t = 2 ∨ t = 3 ∨ t = 4 ∨ t = 5 ∨ t = 6 ∨ t = 7 ∨ t = 8) with rfl | rfl | rfl | rfl | rfl | rfl | rfl | rfl | rfl <;> rfl
set_option maxHeartbeats 3200000 in
theorem entry_any (a : DeedP) (w : World) (h : DpOk w a) :
    Calls Tryd.prog 5 #[deedA a] w fun e w' => e = .returned (entA (entOf a)) ∧ Below w.heap.size w w' := by
  obtain ⟨op, id, r, ty, u⟩ := a
  obtain ⟨idn, rfl⟩ : ∃ kn : Nat, id = kn := ⟨id.toNat, by have := h.id.1; simp at this; omega⟩
  obtain ⟨T, rfl⟩ : ∃ kn : Nat, ty = kn := ⟨ty.toNat, by have := h.ty.1; simp at this; omega⟩
  have hid : idn < 256 := by have := h.id.2; simp at this; omega
  have hT : T < 256 := by have := h.ty.2; simp at this; omega
  have hu : -128 ≤ u ∧ u < 128 := h.ti
  obtain ⟨A1, n1, c1, l1⟩ := r
  have hle := h.le
  have hmx := h.max
  simp only at hle hmx
  obtain ⟨N, hN⟩ : ∃ N, N = nmB (l1.take 1) := ⟨_, rfl⟩
  obtain ⟨idI, hidI⟩ : ∃ k : Nat, k = (idn % 24 + 65532) % 65536 := ⟨_, rfl⟩
  obtain ⟨tm, htm⟩ : ∃ k : Nat, k = T % 2 := ⟨_, rfl⟩
  obtain ⟨t9, ht9⟩ : ∃ k : Nat, k = T % 9 := ⟨_, rfl⟩
  obtain ⟨CL, hCL⟩ : ∃ k : ByteArray, k = clientB t9 := ⟨_, rfl⟩
  have hres : entOf (op, (idn : Int), (A1, n1, c1, l1), (T : Int), u) = (((idI : Nat) : Int), N, ((tm : Nat) : Int), CL, ((T : Nat) : Int), u) := by
    unfold entOf; simp only [Int.toNat_natCast]; rw [← hN, ← hidI, ← htm, hCL, ht9]; unfold clientB; simp
  obtain ⟨L, hL, hL2⟩ : ∃ L : Nat, ((n1 ≤ 1 ∧ L = n1) ∨ (1 < n1 ∧ L = 1)) ∧ L ≤ n1 := by
    rcases Nat.lt_or_ge 1 n1 with h | h
    · exact ⟨1, .inr ⟨h, rfl⟩, by omega⟩
    · exact ⟨n1, .inl ⟨h, rfl⟩, by omega⟩
  have hlen : l1.length = n1 := by simpa using h.r.1
  have hS1 : ∀ w' : World, Below w.heap.size w w' → Sl w' w'.heap.size 1 A1 L ((l1.take 1).map bv) := by
    intro w' hb
    have h0 := (h.r.below hb).more hb.size
    have ht : (l1.take 1).map bv = (l1.map bv).take L := by
      rw [List.map_take]
      rcases hL with ⟨h1, rfl⟩ | ⟨_, rfl⟩
      · rw [List.take_of_length_le (by simpa [hlen] using h1), List.take_of_length_le (by simp [hlen])]
      · rfl
    rw [ht]
    refine ⟨by rw [List.length_take, List.length_map, hlen, Nat.min_eq_left hL2]; omega, fun hL0 => ?_⟩
    obtain ⟨b, off, e, hb', hc⟩ := h0.2 (Nat.lt_of_lt_of_le hL0 hL2)
    exact ⟨b, off, e, hb', fun j v hv => hc j v (by rw [List.getElem?_take] at hv; split at hv; exact hv; cases hv)⟩
  have NM := Lib.hid (fun (w' : World) (hb : Below w.heap.size w w') => nameB_any (A1, L, c1, l1.take 1) w' (hS1 w' hb) (Nat.le_trans hL2 (Nat.le_trans hle hmx)))
  rw [← hN] at NM
  rw [hres]
  unfold deedA entA entCells
  unfold rowV at NM ⊢
  simp only at NM ⊢
  have hcv := encode_sign t9 (by omega)
  rw [← hCL] at hcv
  have hnz : A1 = none → n1 = 0 ∧ c1 = 0 := h.nz
  have HNZ := Lib.hid hnz
  have HLL := Lib.hid hL
  have HID := Lib.hid hidI
  have HTM := Lib.hid htm
  have HT9 := Lib.hid ht9
  have HT2 := Lib.hid hT
  clear hnz hres hN hCL hlen hS1 h htm ht9 hidI hL hT hid
  obtain ⟨W, hW⟩ : ∃ W, W = (w.alloc (.cells #[.int .u8 op, .int .u8 (idn : Nat), .slice A1 n1 c1, .int .u8 (T : Nat), .int .i8 u] 29)).alloc (.cells #[.int .u16 0, .int .u16 0, .bool false, .int .i64 0, .bool false, .bool false, .bool false, .bool false, .int .i64 0, .string ⟨#[]⟩, .int .u16 0, .slice none 0 0, .slice none 0 0, .slice none 0 0, .int .i64 0, .string ⟨#[]⟩, .int .i64 0, .bool false, .int .i64 0] 41) := ⟨_, rfl⟩
  have hz : w.heap.size + 2 = W.heap.size := by rw [hW]; simp
  have hb0 : Below w.heap.size w W := by rw [hW]; exact ((Below.refl _ _).alloc (Nat.le_refl _) _).alloc (by simp) _
  have hC : Cs W w.heap.size [.int .u8 op, .int .u8 (idn : Nat), .slice A1 n1 c1, .int .u8 (T : Nat), .int .i8 u] := by rw [hW]; exact (Cs.new w _ _ _).alloc _
  have hG : Cs W (w.heap.size + 1) [.int .u16 0, .int .u16 0, .bool false, .int .i64 0, .bool false, .bool false, .bool false, .bool false, .int .i64 0, .string ⟨#[]⟩, .int .u16 0, .slice none 0 0, .slice none 0 0, .slice none 0 0, .int .i64 0, .string ⟨#[]⟩, .int .i64 0, .bool false, .int .i64 0] := by rw [hW]; exact (Cs.new _ _ _ _).at_ _ (by simp)
  obtain ⟨b, hb⟩ : ∃ b, b = w.heap.size := ⟨_, rfl⟩
  have hlt := hC.lt
  have hlg := hG.lt
  go_enter Tryd.func5, Tryd.ntmps5
  obtain ⟨g, hg⟩ : ∃ g, g = w.heap.size + 1 := ⟨_, rfl⟩
  rw [← hb] at hC hlt
  rw [← hg] at hG hlg
  have HGG := Lib.hid hg
  have hbg : b ≠ g := by omega
  clear hg
  have HW := Lib.hid hW
  have HZ := Lib.hid hz
  have HBB := Lib.hid hb
  have HB0 := Lib.hid hb0
  clear hW hz hb hb0
  have hm1 : (T : Int) % 2 = (tm : Int) := by have := HTM.out; omega
  have hm3 : (T : Int).tmod 2 = (tm : Int) := by rw [Int.tmod_eq_emod_of_nonneg (by omega)]; exact hm1
  have hm2 : IntKind.u16.wrap (tm : Int) = (tm : Int) := by have := HTM.out; show (tm : Int) % 65536 = tm; omega
  have hLL2 : (n1 : Int) ≤ 9223372036854775807 := by unfold maxLen at hmx; omega
  go_upto_region 1 with fail
  rw [← HW.out]
  refine wp_region_tail data_follows (fun x => by simp [putsF, Act.put]; rfl) (fun v => Below W.heap.size W v)
    [isV (.pointer (some ⟨b, 2, none⟩)), isV (.slice A1 n1 c1), isV (.pointer (some ⟨b, 2, none⟩)), isV (.slice A1 n1 c1), isV (.int .i64 (n1 : Nat)), isV (.int .i64 (L : Nat)), isV (.slice A1 L c1), isV (.string N), isV (.pointer (some ⟨b, 3, none⟩)), isV (.int .u8 (T : Nat)), isV (.int .u8 (tm : Nat)), isV (.int .u16 (tm : Nat)), isV (.agg #[.string N, .int .u16 (tm : Nat)]), boxW W.heap.size [.string ⟨#[]⟩, .int .u16 0]]
    14 [13] (by kernel_rfl) (by kernel_rfl) (by kernel_rfl) rfl (by kernel_rfl) (by kernel_rfl) ?_ (Below.refl _ _).drew ?_ ?_
  · repeat (first | exact trivial | refine ⟨by first | exact isV_stays _ | exact boxW_stays _ _, ?_⟩)
  · refine ⟨?_, ?_, ?_, ?_, ?_, ?_, ?_, ?_, ?_, ?_, ?_, ?_, ?_, ?_, skipped rfl, trivial⟩
    all_goals
      intro _ x wr hR hd
      refine ⟨fun _ => ?_, fun hX => by simp at hX⟩
      simp at hd ⊢
      have k2 := (hR.cell (p := ⟨b, 2, none⟩) hlt).trans (hC.get 2 _)
      have k3 := (hR.cell (p := ⟨b, 3, none⟩) hlt).trans (hC.get 3 _)
    · have hq := HBB.out; go_simp; exact nextL _ rfl rfl hR (Below.refl _ _)
    · go_simp; exact nextL _ rfl rfl hR (Below.refl _ _)
    · have hq := HBB.out; go_simp; exact nextL _ rfl rfl hR (Below.refl _ _)
    · go_simp; exact nextL _ rfl rfl hR (Below.refl _ _)
    · go_simp; exact nextL _ rfl rfl hR (Below.refl _ _)
    · rcases HLL.out with ⟨hm, rfl⟩ | ⟨hm, rfl⟩
      · have m1 : (L : Int) ≤ 1 := by omega
        have m2 : (if (1 : Int) < (L : Int) then (1 : Int) else (L : Int)) = (L : Int) := if_neg (by omega)
        go_simp; exact nextL _ rfl rfl hR (Below.refl _ _)
      · have m1 : (1 : Int) < n1 := by omega
        have m2 : ¬ (n1 : Int) ≤ 1 := by omega
        have m3 : ¬ (n1 : Int) < 1 := by omega
        go_simp; exact nextL _ rfl rfl hR (Below.refl _ _)
    · have m0 : (0 : Int) ≤ (L : Int) := by omega
      have m1 : (L : Int) ≤ (c1 : Int) := by omega
      have hnz := HNZ.out
      obtain ⟨hd0, hd1⟩ := hd
      cases A1 with
      | none =>
        obtain ⟨rfl, rfl⟩ := hnz rfl
        obtain rfl : L = 0 := by omega
        go_simp; exact nextL _ rfl rfl hR (Below.refl _ _)
      | some ad => go_simp; exact nextL _ rfl rfl hR (Below.refl _ _)
    · go_simp
      go_at_call 13
      refine (NM.out wr (below_trans HB0.out HB0.out.size hR)).mono ?_
      rintro e w2 ⟨rfl, hb⟩
      exact nextL _ rfl rfl (below_trans hR hR.size hb) hb
    · have hq := HBB.out; go_simp; exact nextL _ rfl rfl hR (Below.refl _ _)
    · go_simp; exact nextL _ rfl rfl hR (Below.refl _ _)
    · go_simp; exact nextL _ rfl rfl hR (Below.refl _ _)
    · go_simp; exact nextL _ rfl rfl hR (Below.refl _ _)
    · obtain ⟨hd0, hd1⟩ := hd; go_simp; exact nextL _ rfl rfl hR (Below.refl _ _)
    · go_simp; exact nextL_new _ rfl ⟨_, rfl, hR.size, Cs.new _ _ _ _⟩ (hR.alloc hR.size _)
  intro x w4 hR4 hx hap
  obtain ⟨-, -, -, -, -, -, -, -, -, -, -, -, x12, ⟨q, x13, hBq, hcq⟩, -⟩ := hx
  have x12 : x 12 = _ := x12
  have hqb : q ≠ b := by omega
  have hqg : q ≠ g := by omega
  have hC4 := (hC.below hR4).other q 0 (.string N) hqb |>.other q 1 (.int .u16 (tm : Nat)) hqb
  have hG4 := (hG.below hR4).other q 0 (.string N) hqg |>.other q 1 (.int .u16 (tm : Nat)) hqg
  have hQ4 := (hcq.set' 0 (.string N) (by decide)).set' 1 (.int .u16 (tm : Nat)) (by simp)
  have hb4 : Below w.heap.size w ((w4.setCell ⟨q, 0, none⟩ (.string N)).setCell ⟨q, 1, none⟩ (.int .u16 (tm : Nat))) := by
    have hz := HZ.out
    exact ((below_trans HB0.out HB0.out.size hR4).setCell (by show _ ≤ q; omega) _).setCell (by show _ ≤ q; omega) _
  have f0 := hcq.froz 0
  have f1 := hcq.froz 1
  have v0 := hcq.get 0 _
  have v1 := hcq.get 1 _
  have HC4 := Lib.hid hC4
  have HG4 := Lib.hid hG4
  have HQ4 := Lib.hid hQ4
  have HB4 := Lib.hid hb4
  clear hC4 hG4 hQ4 hb4 hC hG hcq hR4
  have x12 : x 12 = .agg #[.string N, .int .u16 (tm : Nat)] := x12
  rw [x12, x13]
  change tailWp _ _ [_] _ _
  rw [tail_cons]
  go_simp
  rw [tail_nil]
  obtain ⟨w5, hw5⟩ : ∃ v, v = ((w4.setCell ⟨q, 0, none⟩ (.string N)).setCell ⟨q, 1, none⟩ (.int .u16 (tm : Nat))) := ⟨_, rfl⟩
  rw [← hw5] at HC4 HG4 HQ4 HB4 ⊢
  clear hw5 f0 f1 v0 v1 hap
  have HQ4 : Hid (Cs w5 q [.string N, .int .u16 (tm : Nat)]) := HQ4
  have p0 := HQ4.out.get 0 _
  have p1 := HQ4.out.get 1 _
  have c1' := HC4.out.get 1 _
  have c3' := HC4.out.get 3 _
  have c4' := HC4.out.get 4 _
  rw [HBB.out] at c1' c3' c4'
  have a1 : (idn : Int).tmod 24 = (idn : Int) % 24 := by rw [Int.tmod_eq_emod_of_nonneg (by omega)]
  have a2 : IntKind.u16.wrap ((idn : Int) % 24) = (idn : Int) % 24 := by show ((idn : Int) % 24) % 65536 = _; omega
  have a3 : IntKind.u16.wrap ((idn : Int) % 24 - 4) = ((idI : Nat) : Int) := by have := HID.out; show ((idn : Int) % 24 - 4) % 65536 = _; omega
  have a4 : (T : Int).tmod 9 = ((t9 : Nat) : Int) := by have := HT9.out; rw [Int.tmod_eq_emod_of_nonneg (by omega)]; omega
  have a5 : IntKind.u8.wrap (97 + ((t9 : Nat) : Int)) = 97 + ((t9 : Nat) : Int) := by have := HT9.out; show (97 + ((t9 : Nat) : Int)) % 256 = _; omega
  have a6 : wrap32 (97 + ((t9 : Nat) : Int)) = 97 + ((t9 : Nat) : Int) := by have := HT9.out; unfold wrap32; omega
  have a7 : IntKind.i64.wrap (T : Int) = (T : Int) := by have := HT2.out; rw [IntKind.wrap_i64]; omega
  have a8 : IntKind.i64.wrap u = u := IntWalk.i64_in (by omega) (by omega)
  have hth := HG4.out.there 19 rfl
  have HTH := Lib.hid hth
  have HM := Lib.hid (HG4.out.mid [.int .u16 (idI : Nat), .int .u16 0, .bool false, .int .i64 0, .bool false, .bool false, .bool false, .bool false, .int .i64 0, .string N, .int .u16 (tm : Nat), .slice none 0 0, .slice none 0 0, .slice none 0 0, .int .i64 0, .string CL, .int .i64 (T : Nat), .bool false, .int .i64 u] rfl)
  have HBM := Lib.hid (below_setCells' (B := w.heap.size) (g := g) (by rw [HGG.out]; omega) [.int .u16 (idI : Nat), .int .u16 0, .bool false, .int .i64 0, .bool false, .bool false, .bool false, .bool false, .int .i64 0, .string N, .int .u16 (tm : Nat), .slice none 0 0, .slice none 0 0, .slice none 0 0, .int .i64 0, .string CL, .int .i64 (T : Nat), .bool false, .int .i64 u] 0 HB4.out)
  rw [← HGG.out]
  clear hth hlt hlg hbg hqb hqg x12 x13 hBq hm1 hm2 hm3
  go_wp2_with (first | refine wpList_store_mid rfl 41 _ _ rfl g 0 #[.int .u16 (idI : Nat), .int .u16 0, .bool false, .int .i64 0, .bool false, .bool false, .bool false, .bool false, .int .i64 0, .string N, .int .u16 (tm : Nat), .slice none 0 0, .slice none 0 0, .slice none 0 0, .int .i64 0, .string CL, .int .i64 (T : Nat), .bool false, .int .i64 u] rfl rfl HTH.out (by kernel_rfl) (by simp [Value.oneCell']) ?_)
  exact bodyPost_ret (v := .agg #[.int .u16 (idI : Nat), .int .u16 0, .bool false, .int .i64 0, .bool false, .bool false, .bool false, .bool false, .int .i64 0, .string N, .int .u16 (tm : Nat), .slice none 0 0, .slice none 0 0, .slice none 0 0, .int .i64 0, .string CL, .int .i64 (T : Nat), .bool false, .int .i64 u]) (results_cell1 Tryd.results5 _ _ _ g 0 _ _ rfl HM.out.range Tryd.underlying41 rfl (by kernel_rfl)) rfl ⟨rfl, HBM.out⟩
end Go.Proofs.YtpopnlbpeboiiaaDoor
