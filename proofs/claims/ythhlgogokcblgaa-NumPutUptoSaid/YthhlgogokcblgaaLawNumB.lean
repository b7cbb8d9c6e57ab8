/- The walk of NumBack: the law's Go text returns true, and writes nothing that was there. -/
import Derived.Test.YthhlgogokcblgaaLawNum

namespace Go.Proofs.Ythhlgogokcblgaa
open Go.RowKit
set_option linter.unusedVariables false
attribute [local simp] putsF isV wordOf Deps Region.binds Region.wanted Act.put AllWords
/-- The bytes of numbers laid behind others. -/
theorem n16_at (l r : List UInt8) (n : Nat) (h : n < 65536) (a : Nat) (ha : a = l.length) : n16 ⟨(l ++ (b16 n ++ r)).toArray⟩ a = n := by
  subst ha
  unfold n16 at8 b16
  simp [List.getD_eq_getElem?_getD]
  omega
theorem n32_at (l r : List UInt8) (n : Nat) (h : n < 4294967296) (a : Nat) (ha : a = l.length) : n32 ⟨(l ++ (b32 n ++ r)).toArray⟩ a = n := by
  subst ha
  unfold n32 at8 b32
  simp [List.getD_eq_getElem?_getD]
  omega
theorem len16 (ns : List Nat) : (ns.flatMap b16).length = 2 * ns.length := by induction ns with | nil => rfl | cons n r ih => simp [List.flatMap_cons, ih, b16]; omega
theorem len32 (ns : List Nat) : (ns.flatMap b32).length = 4 * ns.length := by induction ns with | nil => rfl | cons n r ih => simp [List.flatMap_cons, ih, b32]; omega
theorem n16_nth (l : List UInt8) (ns : List Nat) (h : ∀ n ∈ ns, n < 65536) (k : Nat) (hk : k < ns.length) : n16 ⟨(l ++ ns.flatMap b16).toArray⟩ (l.length + 2 * k) = ns[k] := by
  have e : ns.flatMap b16 = (ns.take k).flatMap b16 ++ (b16 ns[k] ++ (ns.drop (k + 1)).flatMap b16) := by
    rw [← List.flatMap_cons, ← List.flatMap_append, ← List.drop_eq_getElem_cons hk, List.take_append_drop]
  rw [e, ← List.append_assoc]
  refine n16_at _ _ _ (h _ (List.getElem_mem hk)) _ ?_
  rw [List.length_append, len16]; simp; omega
theorem n32_nth (l : List UInt8) (ns : List Nat) (h : ∀ n ∈ ns, n < 4294967296) (k : Nat) (hk : k < ns.length) : n32 ⟨(l ++ ns.flatMap b32).toArray⟩ (l.length + 4 * k) = ns[k] := by
  have e : ns.flatMap b32 = (ns.take k).flatMap b32 ++ (b32 ns[k] ++ (ns.drop (k + 1)).flatMap b32) := by
    rw [← List.flatMap_cons, ← List.flatMap_append, ← List.drop_eq_getElem_cons hk, List.take_append_drop]
  rw [e, ← List.append_assoc]
  refine n32_at _ _ _ (h _ (List.getElem_mem hk)) _ ?_
  rw [List.length_append, len32]; simp; omega
/-- The natural numbers of a list of a kind that has no sign. -/
theorem nats_of (k : IntKind) (zs : List Int) (h : ∀ z ∈ zs, 0 ≤ z) : ∃ ns : List Nat, zs = ns.map (fun n : Nat => (n : Int)) := ⟨zs.map Int.toNat, by
  rw [List.map_map]
  apply List.ext_getElem
  · simp
  · intro i h1 h2
    have := h zs[i] (List.getElem_mem h1)
    simp; omega⟩

theorem bytes_of (zs : List Int) (h : ∀ z ∈ zs, (Lit.int .u8 z).wf = true) : ∃ l : List UInt8, zs.map (Value.int .u8) = l.map bv := ⟨zs.map fun z => UInt8.ofNat z.toNat, by
  rw [List.map_map]
  apply List.map_congr_left
  intro z hz
  have := bounds_u8 (h z hz)
  simp only [Function.comp, bv_ofNat z.toNat (by omega)]
  rw [Int.toNat_of_nonneg this.1]⟩

set_option maxHeartbeats 1600000 in
theorem numBack_walk (w : World) (A : Option Addr) (n c : Nat) (zs : List Int) (SA : SlView w A n c (zs.map (Value.int .u16))) (hla : zs.length = n) (hwa : ∀ z ∈ zs, (Lit.int .u16 z).wf = true) (hca : c ≤ 1048576)
    (D : Option Addr) (m d : Nat) (ys : List Int) (SD : SlView w D m d (ys.map (Value.int .u32))) (hld : ys.length = m) (hwd : ∀ z ∈ ys, (Lit.int .u32 z).wf = true) (hcd : d ≤ 1048576)
    (E : Option Addr) (p q : Nat) (bs : List Int) (SE : SlView w E p q (bs.map (Value.int .u8))) (hle : bs.length = p) (hwe : ∀ z ∈ bs, (Lit.int .u8 z).wf = true) (hce : q ≤ 1048576) :
    Calls Try.prog 6 #[.slice A n c, .slice D m d, .slice E p q] w fun e w' => e = .returned (.bool true) ∧ Below w.heap.size w w' := by
  obtain ⟨ns, rfl⟩ := nats_of .u16 zs (fun z hz => (bounds_u16 (hwa z hz)).1)
  obtain ⟨ms, rfl⟩ := nats_of .u32 ys (fun z hz => (bounds_u32 (hwd z hz)).1)
  obtain ⟨bl, hbl⟩ := bytes_of bs hwe
  have hns : ∀ x ∈ ns, x < 65536 := fun x hx => by have := bounds_u16 (hwa x (List.mem_map.2 ⟨x, hx, rfl⟩)); omega
  have hms : ∀ x ∈ ms, x < 4294967296 := fun x hx => by have := bounds_u32 (hwd x (List.mem_map.2 ⟨x, hx, rfl⟩)); omega
  have hbp : bl.length = p := by rw [← hle]; have := congrArg List.length hbl; simpa using this.symm
  rw [hbl] at SE
  have hA := SA.sl
  have hD := SD.sl
  have hE := SE.sl
  have hn := SA.le
  have hm := SD.le
  have hp := SE.le
  rw [List.map_map] at hA hD
  simp only [List.length_map] at hla hld
  clear hwa hwd hwe hbl
  obtain ⟨x, hx⟩ : ∃ x, x = bl ++ ns.flatMap b16 := ⟨_, rfl⟩
  obtain ⟨y, hy⟩ : ∃ y, y = bl ++ ms.flatMap b32 := ⟨_, rfl⟩
  have hxl : x.length = p + 2 * n := by rw [hx, List.length_append, len16, hbp, hla]
  have hyl : y.length = p + 4 * m := by rw [hy, List.length_append, len32, hbp, hld]
  have HX := Lib.hid hx
  have HY := Lib.hid hy
  clear hx hy
  go_enter Try.func6, Try.ntmps6
  go_upto_region 3 with (go_at_call 13; refine (awake1_any _).mono ?_; rintro e w1 ⟨rfl, hb1⟩)
  refine wp_region_goes follows w.heap.size w
    [isV (.slice E p q), isV (.slice A n c), txt x, isV (.string ⟨x.toArray⟩), isV (.slice E p q), isV (.slice D m d), txt y, isV (.string ⟨y.toArray⟩), isV (.string ⟨x.toArray⟩), isV (.string ⟨y.toArray⟩)]
    (by kernel_rfl) (by kernel_rfl) rfl ?_ hb1 ?_ ?_
  · repeat (first | exact trivial | refine ⟨by first | exact isV_stays _ | exact one_stays _ | exact txt_stays _, ?_⟩)
  · refine ⟨?_, ?_, ?_, ?_, ?_, ?_, ?_, ?_, ?_, ?_, trivial⟩
    all_goals
      intro x wr hR hd
      simp at hd ⊢
    · go_simp
      exact next_same _ rfl rfl hR
    · go_simp
      exact next_same _ rfl rfl hR
    · go_simp
      go_at_call 14
      refine (put16_any E p q bl A n c ns _ ((hE.below hR).more hR.size) SE.none_ ((hA.below hR).more hR.size) hns (by omega)).mono ?_
      rintro e w2 ⟨g, rfl, hown, hb⟩
      rw [← HX.out] at hown
      exact next_call _ rfl ⟨_, _, _, rfl, Txt.of_own hown⟩ hR hR.size hb
    · obtain ⟨A', n', cc, hx, ht⟩ := hd
      have hv := ht.conv (P := Try.prog) 22 9 5 Try.underlying22 Try.underlying5 Try.underlying9 cc
      go_simp
      exact next_same _ rfl rfl hR
    · go_simp
      exact next_same _ rfl rfl hR
    · go_simp
      exact next_same _ rfl rfl hR
    · go_simp
      go_at_call 15
      refine (put32_any E p q bl D m d ms _ ((hE.below hR).more hR.size) SE.none_ ((hD.below hR).more hR.size) hms (by omega)).mono ?_
      rintro e w2 ⟨g, rfl, hown, hb⟩
      rw [← HY.out] at hown
      exact next_call _ rfl ⟨_, _, _, rfl, Txt.of_own hown⟩ hR hR.size hb
    · obtain ⟨A', n', cc, hx, ht⟩ := hd
      have hv := ht.conv (P := Try.prog) 22 9 5 Try.underlying22 Try.underlying5 Try.underlying9 cc
      go_simp
      exact next_same _ rfl rfl hR
    · go_simp
      exact next_same _ rfl rfl hR
    · go_simp
      exact next_same _ rfl rfl hR
  intro xs w2 hb2 hx
  simp at hx ⊢
  obtain ⟨-, -, -, -, -, -, -, -, h8, h9⟩ := hx
  have hA2 := (hA.below hb2).more hb2.size
  have hD2 := (hD.below hb2).more hb2.size
  rw [h8, h9]
  clear h8 h9
  go_wp2_with fail
  go_loopw [31] (fun i wr => ∃ k : Nat, k ≤ n ∧ i = .int .i64 k ∧ Below w.heap.size w wr) (fun i _ => n - (intOf i).toNat)
  case atStart => exact ⟨0, Nat.zero_le _, rfl, hb2⟩
  case round =>
    obtain ⟨k, hk, rfl, hbr⟩ := hrel
    by_cases hlt : k < n
    · obtain ⟨b, off, u, rfl, hb, hu, hc⟩ := (hA.below hbr).at_ hlt
      have hkl : k < ns.length := by omega
      simp only [List.getElem?_map, List.getElem?_eq_getElem hkl, Option.map_some, Option.some.injEq] at hu
      have hget := get16_yes ⟨x.toArray⟩ (p + 2 * k)
      rw [HX.out] at hget
      rw [show n16 ⟨(bl ++ ns.flatMap b16).toArray⟩ (p + 2 * k) = ns[k] by rw [← hbp]; exact n16_nth bl ns hns k hkl, ← HX.out] at hget
      subst hu
      generalize ns[k] = z at *
      have hget' := fun w => hget w (by show x.toArray.size ≤ _; simp only [List.size_toArray]; unfold maxLen; omega) (by show _ ≤ x.toArray.size; simp only [List.size_toArray]; omega)
      have HG := Lib.hid hget'
      have hz : ((z : Int) != (z : Int)) = false := by simp
      simp only [Function.comp] at hc
      clear hget hget'
      go_wp2_with (go_at_call 16; refine (HG.out _).mono ?_; rintro e w3 ⟨rfl, k3, rfl⟩)
      go_roundw
      case rel => exact ⟨k + 1, by omega, by go_num, below_drewN hbr _⟩
      case measure => simp [intOf]; omega
    · have hD2 := (hD.below hbr).more hbr.size
      have hwr : ∃ wo : World, wo = wr := ⟨_, rfl⟩
      go_wp2_with fail
      go_loopw [56] (fun i w4 => ∃ k : Nat, k ≤ m ∧ i = .int .i64 k ∧ Below w.heap.size w w4) (fun i _ => m - (intOf i).toNat)
      case atStart => exact ⟨0, Nat.zero_le _, rfl, hbr⟩
      case round =>
        obtain ⟨j, hj, rfl, hbs⟩ := hrel
        by_cases hlt2 : j < m
        · obtain ⟨b, off, u, rfl, hb, hu, hc⟩ := (hD.below hbs).at_ hlt2
          have hkl : j < ms.length := by omega
          simp only [List.getElem?_map, List.getElem?_eq_getElem hkl, Option.map_some, Option.some.injEq] at hu
          have hget := get32_yes ⟨y.toArray⟩ (p + 4 * j)
          rw [HY.out] at hget
          rw [show n32 ⟨(bl ++ ms.flatMap b32).toArray⟩ (p + 4 * j) = ms[j] by rw [← hbp]; exact n32_nth bl ms hms j hkl, ← HY.out] at hget
          subst hu
          generalize ms[j] = z at *
          have hget' := fun w => hget w (by show y.toArray.size ≤ _; simp only [List.size_toArray]; unfold maxLen; omega) (by show _ ≤ y.toArray.size; simp only [List.size_toArray]; omega)
          have HG := Lib.hid hget'
          have hz : ((z : Int) != (z : Int)) = false := by simp
          simp only [Function.comp] at hc
          clear hget hget' hwr
          go_wp2_with (go_at_call 17; refine (HG.out _).mono ?_; rintro e w3 ⟨rfl, k3, rfl⟩)
          go_roundw
          case rel => exact ⟨j + 1, by omega, by go_num, below_drewN hbs _⟩
          case measure => simp [intOf]; omega
        · have hget := fun a w h => get16_no ⟨x.toArray⟩ a w (by show x.toArray.size ≤ _; simp only [List.size_toArray]; unfold maxLen; omega) h
          have HG := Lib.hid hget
          clear hget hwr
          go_wp2_with fail
          refine (HG.out _ _ (.inr ?_)).mono ?_
          · show (x.toArray.size : Int) < _
            simp
            omega
          rintro e w3 ⟨rfl, rfl⟩
          go_wp2_with fail
          go_ret
          exact ⟨rfl, hbs⟩
end Go.Proofs.Ythhlgogokcblgaa
