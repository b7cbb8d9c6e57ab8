/- The walk of NumPut: the law's Go text returns true, and writes nothing that was there. -/
import Derived.Test.YthhlgogokcblgaaLawNumB
import Derived.Test.YthhlgogokcblgaaLawNumG
namespace Go.Proofs.Ythhlgogokcblgaa
open Go.RowKit
set_option linter.unusedVariables false
theorem Txt.take {w : World} {A : Option Addr} {n : Nat} {l : List UInt8} (h : Txt w A n l) (k : Nat) (hk : k ≤ n) : Txt w A k (l.take k) := by
  refine ⟨⟨?_, fun h0 => ?_⟩, fun h0 => by have := h.2 h0; omega⟩
  · have := h.1.1; simp at this ⊢; omega
  · obtain ⟨b, off, e, hb, hc⟩ := h.1.2 (by omega)
    refine ⟨b, off, e, hb, fun j u hu => hc j u ?_⟩
    rw [List.map_take, List.getElem?_take] at hu
    split at hu
    · exact hu
    · cases hu
theorem Txt.byte {w : World} {g off n : Nat} {l : List UInt8} (h : Txt w (some ⟨g, off, none⟩) n l) (j : Nat) (hj : j < n) : w.cell? ⟨g, off + j, none⟩ = some (.int .u8 (at8 ⟨l.toArray⟩ j : Nat)) := by
  have hl : l.length = n := by have := h.1.1; simpa using this
  have := h.1.cell j (bv l[j]) (by simp [hl, hj])
  rw [this]
  simp [bv, at8, hl, hj]
theorem at8_16 (l : List UInt8) (ns : List Nat) (h : ∀ n ∈ ns, n < 65536) (k : Nat) (hk : k < ns.length) (x : List UInt8) (hx : x = l ++ ns.flatMap b16) : at8 ⟨x.toArray⟩ (l.length + 2 * k) * 256 + at8 ⟨x.toArray⟩ (l.length + 2 * k + 1) = ns[k] := by
  subst hx; exact n16_nth l ns h k hk
theorem at8_32 (l : List UInt8) (ns : List Nat) (h : ∀ n ∈ ns, n < 4294967296) (k : Nat) (hk : k < ns.length) (x : List UInt8) (hx : x = l ++ ns.flatMap b32) : valN ⟨x.toArray⟩ (l.length + 4 * k) 4 = ns[k] := by
  subst hx; rw [valN4]; exact n32_nth l ns h k hk

set_option maxHeartbeats 3200000 in
theorem numPut_walk (w : World) (E : Option Addr) (p q : Nat) (bs : List Int) (SE : SlView w E p q (bs.map (Value.int .u8))) (hle : bs.length = p) (hwe : ∀ z ∈ bs, (Lit.int .u8 z).wf = true) (hce : q ≤ 1048576)
    (A : Option Addr) (n c : Nat) (zs : List Int) (SA : SlView w A n c (zs.map (Value.int .u16))) (hla : zs.length = n) (hwa : ∀ z ∈ zs, (Lit.int .u16 z).wf = true) (hca : c ≤ 1048576)
    (D : Option Addr) (m d : Nat) (ys : List Int) (SD : SlView w D m d (ys.map (Value.int .u32))) (hld : ys.length = m) (hwd : ∀ z ∈ ys, (Lit.int .u32 z).wf = true) (hcd : d ≤ 1048576) :
    Calls Try.prog 3 #[.slice E p q, .slice A n c, .slice D m d] w fun e w' => e = .returned (.bool true) ∧ Below w.heap.size w w' := by
  obtain ⟨ns, rfl⟩ := nats_of .u16 zs (fun z hz => (bounds_u16 (hwa z hz)).1)
  obtain ⟨ms, rfl⟩ := nats_of .u32 ys (fun z hz => (bounds_u32 (hwd z hz)).1)
  obtain ⟨bl, hbl⟩ := bytes_of bs hwe
  have hns : ∀ x ∈ ns, x < 65536 := fun x hx => by have := bounds_u16 (hwa x (List.mem_map.2 ⟨x, hx, rfl⟩)); omega
  have hms : ∀ x ∈ ms, x < 4294967296 := fun x hx => by have := bounds_u32 (hwd x (List.mem_map.2 ⟨x, hx, rfl⟩)); omega
  have hbp : bl.length = p := by rw [← hle]; have := congrArg List.length hbl; simpa using this.symm
  rw [hbl] at SE
  have hA := SA.sl
  have hD := SD.sl
  have hE := SE.sl
  have hn := SA.le
  have hm := SD.le
  have hp := SE.le
  rw [List.map_map] at hA hD
  simp only [List.length_map] at hla hld
  clear hwa hwd hwe hbl
  obtain ⟨x, hx⟩ : ∃ x, x = bl ++ ns.flatMap b16 := ⟨_, rfl⟩
  obtain ⟨y, hy⟩ : ∃ y, y = bl ++ ms.flatMap b32 := ⟨_, rfl⟩
  have hxl : x.length = p + 2 * n := by rw [hx, List.length_append, len16, hbp, hla]
  have hyl : y.length = p + 4 * m := by rw [hy, List.length_append, len32, hbp, hld]
  have tx : x.take p = bl := by rw [hx, ← hbp, List.take_left]
  have ty : y.take p = bl := by rw [hy, ← hbp, List.take_left]
  have HX := Lib.hid hx
  have HY := Lib.hid hy
  have TX := Lib.hid tx
  have TY := Lib.hid ty
  clear hx hy tx ty
  go_enter Try.func3, Try.ntmps3
  go_wp2_with (go_at_call 13; refine (awake1_any _).mono ?_; rintro e w1 ⟨rfl, hb1⟩)
  refine (put16_any E p q bl A n c ns _ ((hE.below hb1).more hb1.size) SE.none_ ((hA.below hb1).more hb1.size) hns (by omega)).mono ?_
  rintro e w2 ⟨g2, rfl, hown2, hb2⟩
  rw [← HX.out] at hown2
  have ht2 := Txt.of_own hown2
  have hB2 := below_trans hb1 hb1.size hb2
  clear hown2 hb2
  go_wp2_with fail
  refine (put32_any E p q bl D m d ms _ ((hE.below hB2).more hB2.size) SE.none_ ((hD.below hB2).more hB2.size) hms (by omega)).mono ?_
  rintro e w3 ⟨g3, rfl, hown3, hb3⟩
  rw [← HY.out] at hown3
  have ht3 := Txt.of_own hown3
  have ht2' := ht2.goes hb3
  have hB3 := below_trans hB2 hB2.size hb3
  have hE3 : Txt w3 E p bl := ⟨(hE.below hB3).more hB3.size, fun h => (SE.none_ h).1⟩
  clear hown3 hb3 ht2
  have px := ht2'.take p (by omega)
  have py := ht3.take p (by omega)
  rw [TX.out] at px
  rw [TY.out] at py
  go_wp2_with fail
  have c1 := fun k => Txt.conv (P := Try.prog) (w := w3.drewN k) px 22 9 5 Try.underlying22 Try.underlying5 Try.underlying9
  have c2 := fun k => Txt.conv (P := Try.prog) (w := w3.drewN k) py 22 9 5 Try.underlying22 Try.underlying5 Try.underlying9
  have c3 := fun k => Txt.conv (P := Try.prog) (w := w3.drewN k) hE3 22 9 5 Try.underlying22 Try.underlying5 Try.underlying9
  have w1' : IntKind.i64.wrap (2 * (n : Int)) = 2 * n := IntWalk.i64_in _ (by omega)
  have w2' : IntKind.i64.wrap ((p : Int) + 2 * n) = p + 2 * n := IntWalk.i64_in _ (by omega)
  have w3' : IntKind.i64.wrap (4 * (m : Int)) = 4 * m := IntWalk.i64_in _ (by omega)
  have w4' : IntKind.i64.wrap ((p : Int) + 4 * m) = p + 4 * m := IntWalk.i64_in _ (by omega)
  go_quiet (fail)
  clear w1' w2' w3' w4' c1 c2 c3 px py
  go_wp2_with fail
  go_loopw [68] (fun i wr => ∃ k : Nat, k ≤ n ∧ i = .int .i64 k ∧ ∃ j, wr = w3.drewN j) (fun i _ => n - (intOf i).toNat)
  case atStart => exact ⟨0, Nat.zero_le _, rfl, _, rfl⟩
  case round =>
    obtain ⟨k, hk, rfl, j, rfl⟩ := hrel
    by_cases hlt : k < n
    · obtain ⟨b, off, u, rfl, hb, hu, hc⟩ := (hA.below hB3).at_ hlt
      have hkl : k < ns.length := by omega
      simp only [List.getElem?_map, List.getElem?_eq_getElem hkl, Option.map_some, Option.some.injEq] at hu
      have hv := at8_16 bl ns hns k hkl x HX.out
      rw [hbp] at hv
      have hc1 := ht2'.byte (p + 2 * k) (by omega)
      have hc2 := ht2'.byte (p + 2 * k + 1) (by omega)
      have l1 := at8_lt ⟨x.toArray⟩ (p + 2 * k)
      have l2 := at8_lt ⟨x.toArray⟩ (p + 2 * k + 1)
      subst hu
      simp only [Function.comp, Nat.zero_add] at hc hc1 hc2
      have hz := hns _ (List.getElem_mem hkl)
      generalize ns[k] = z at *
      generalize at8 ⟨x.toArray⟩ (p + 2 * k) = t1 at *
      generalize at8 ⟨x.toArray⟩ (p + 2 * k + 1) = t2 at *
      have l1' : (t1 : Int) < 256 := by omega
      have l2' : (t2 : Int) < 256 := by omega
      have e1 : IntKind.i64.wrap ((p : Int) + 2 * k + 1) = (p : Int) + 2 * k + 1 := IntWalk.i64_in _ (by omega)
      have e2 : ((p : Int) + 2 * k + 1).toNat = p + 2 * k + 1 := by omega
      have e3 : (0 : Int) ≤ (p : Int) + 2 * k + 1 := by omega
      have e4 : ((p : Int) + 2 * k).toNat = p + 2 * k := by omega
      have e5 : IntKind.i64.wrap (t1 : Int) = t1 := IntWalk.i64_in _ (by omega)
      have e6 : IntKind.i64.wrap (t2 : Int) = t2 := IntWalk.i64_in _ (by omega)
      have e7 : IntKind.i64.wrap ((t1 : Int) * 256) = (t1 : Int) * 256 := IntWalk.i64_in _ (by omega)
      have e8 : IntKind.i64.wrap ((t1 : Int) * 256 + t2) = (z : Int) := by rw [← hv]; exact IntWalk.i64_in _ (by omega)
      have e9 : IntKind.i64.wrap (z : Int) = (z : Int) := IntWalk.i64_in _ (by omega)
      clear hv
      go_wp2_with fail
      go_quiet (fail)
      go_wp2_with fail
      go_roundw
      case rel => exact ⟨k + 1, by omega, by go_num, _, rfl⟩
      case measure => simp [intOf]; omega
    · go_wp2_with fail
      go_loopw [97] (fun i wr => ∃ k : Nat, k ≤ m ∧ i = .int .i64 k ∧ wr = w3.drewN j) (fun i _ => m - (intOf i).toNat)
      case atStart => exact ⟨0, Nat.zero_le _, rfl, rfl⟩
      case round =>
        obtain ⟨k', hk', rfl, rfl⟩ := hrel
        by_cases hlt2 : k' < m
        · obtain ⟨b, off, u, rfl, hb, hu, hc⟩ := (hD.below hB3).at_ hlt2
          have hkl : k' < ms.length := by omega
          simp only [List.getElem?_map, List.getElem?_eq_getElem hkl, Option.map_some, Option.some.injEq] at hu
          have hv := at8_32 bl ms hms k' hkl y HY.out
          rw [hbp] at hv
          subst hu
          simp only [Function.comp] at hc
          have hz := hms _ (List.getElem_mem hkl)
          generalize ms[k'] = z at *
          have HV := Lib.hid hv
          have ec : ¬ (p : Int) + 4 * m = p + 4 * k' := by omega
          clear hv
          go_wp2_with fail
          go_loopw [15, 113] (fun v i wr => ∃ t : Nat, t ≤ 4 ∧ i = .int .i64 t ∧ v = .int .i64 (valN ⟨y.toArray⟩ (p + 4 * k') t) ∧ wr = w3.drewN j) (fun _ i _ => 4 - (intOf i).toNat)
          case atStart => exact ⟨0, by omega, rfl, rfl, rfl⟩
          case round =>
            obtain ⟨t, ht, rfl, rfl, rfl⟩ := hrel
            have hq := valN_le ⟨y.toArray⟩ (p + 4 * k') t (by omega)
            by_cases hlt3 : t < 4
            · have hcb := ht3.byte (p + 4 * k' + t) (by omega)
              have l1 := at8_lt ⟨y.toArray⟩ (p + 4 * k' + t)
              have hst : valN ⟨y.toArray⟩ (p + 4 * k') (t + 1) = valN ⟨y.toArray⟩ (p + 4 * k') t * 256 + at8 ⟨y.toArray⟩ (p + 4 * k' + t) := rfl
              simp only [Nat.zero_add] at hcb
              generalize valN ⟨y.toArray⟩ (p + 4 * k') t = q1 at *
              generalize at8 ⟨y.toArray⟩ (p + 4 * k' + t) = q2 at *
              have HS := Lib.hid hst
              clear hst
              go_wp2_with fail
              go_roundw
              case rel => exact ⟨t + 1, by omega, by go_num, congrArg (Value.int IntKind.i64) (by rw [HS.out]; simp), trivial⟩
              case measure => simp [intOf]; omega
            · obtain rfl : t = 4 := by omega
              have hv := HV.out
              rw [hv] at hq ⊢
              have hzz : ((z : Int) != (z : Int)) = false := by simp
              clear hv
              go_wp2_with fail
              go_roundw
              case rel => exact ⟨k' + 1, by omega, by go_num, trivial⟩
              case measure => simp [intOf]; omega
        · go_wp2_with fail
          go_ret
          exact ⟨rfl, below_drewN hB3 _⟩
end Go.Proofs.Ythhlgogokcblgaa
