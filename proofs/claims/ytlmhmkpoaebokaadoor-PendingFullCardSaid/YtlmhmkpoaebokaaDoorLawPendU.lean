/- The walk of PendingFull. -/
import Derived.Test.YtlmhmkpoaebokaaDoorPendG
import Derived.Test.YtlmhmkpoaebokaaDoorAs
import Derived.Test.YtlmhmkpoaebokaaDoorLaid
import Derived.Outline
namespace Go.Proofs.YtlmhmkpoaebokaaDoor
open Go.RowKit
set_option linter.unusedVariables false
set_option linter.unusedSimpArgs false
set_option maxRecDepth 20000
theorem nodup_le : ∀ (L S : List Int), L.Nodup → (∀ x ∈ L, x ∈ S) → L.length ≤ S.length
  | [], S, _, _ => by simp
  | a :: L, S, hn, hs => by
    rw [List.nodup_cons] at hn
    have ha : a ∈ S := hs a (by simp)
    have h1 := nodup_le L (S.erase a) hn.2 (fun x hx => by
      have hne : x ≠ a := fun e => hn.1 (e ▸ hx)
      rw [List.mem_erase_of_ne hne]
      exact hs x (by simp [hx]))
    rw [List.length_erase_of_mem ha] at h1
    have hp : 0 < S.length := List.length_pos_of_mem ha
    simp only [List.length_cons]
    omega
theorem nodup_turn (id : Nat) : ∀ m, m ≤ 65536 → ((List.range m).map fun i => (((id + i) % 65536 : Nat) : Int)).Nodup := by
  intro m hm
  unfold List.Nodup
  rw [List.pairwise_map]
  refine (List.pairwise_lt_range (n := m)).imp_of_mem ?_
  intro a b ha hb hlt
  rw [List.mem_range] at ha hb
  omega
theorem free_not {es : List EntT} {id : Nat} {r : Int} (h : FreeR (idsE es) id r) (hl : es.length ≤ 16) : (idsE es).contains r = false := by
  rcases h with ⟨j, -, -, h2, rfl⟩ | ⟨-, h2⟩
  · exact h2
  · exfalso
    have := nodup_le ((List.range 17).map fun i => (((id + i) % 65536 : Nat) : Int)) (idsE es) (nodup_turn id 17 (by omega)) (fun x hx => by
      obtain ⟨i, hi, rfl⟩ := List.mem_map.1 hx
      rw [List.mem_range] at hi
      have := h2 i (by omega)
      simpa using this)
    simp [idsE] at this
    omega
theorem any_not {es : List EntT} {r : Int} (h : (idsE es).contains r = false) : (es.any fun x => x.1 == r) = false := by
  rw [List.any_eq_false]
  intro x hx
  simp [idsE] at h
  intro e
  have e : x.1 = r := by simpa using e
  exact h x.2.1 x.2.2.1 x.2.2.2.1 x.2.2.2.2.1 x.2.2.2.2.2 (by rw [← e]; exact hx)
/-- The times of entries. -/
def untE (es : List EntT) : List Int := es.map fun e => e.2.2.2.2.2
theorem unt_filter (es : List EntT) (q : Int → Bool) : (es.filter fun x => q x.2.2.2.2.2).length = ((untE es).filter q).length := by
  unfold untE
  rw [List.filter_map, List.length_map]
  rfl
set_option maxHeartbeats 6400000 in
theorem pendingFull_walk (w : World) (hE : Etype w) (A : Option Addr) (n c : Nat) (zs : List Int) (hV : SlView w A n c (zs.map (Value.int .u16))) (hl : zs.length = n) (hz : ∀ z ∈ zs, (Lit.int .u16 z).wf = true) (hc : c ≤ 70368744175616) :
    Calls Tryd.prog 3 #[.slice A n c] w fun e w' => e = .returned (.bool true) ∧ Below w.heap.size w w' := by
  have hle := hV.le
  have hS := hV.sl
  have HS := Lib.hid hS
  have HL := Lib.hid hl
  have HZ := Lib.hid (show ∀ z ∈ zs, 0 ≤ z ∧ z < 65536 by
    intro z hzm
    have : IntKind.u16.min ≤ z ∧ z ≤ IntKind.u16.max := by simpa [Lit.wf] using hz z hzm
    have a : IntKind.u16.min = 0 := rfl
    have b : IntKind.u16.max = 65535 := rfl
    omega)
  have HET := Lib.hid hE
  have hn : n ≤ 70368744175616 := by omega
  clear hV hl hz hc hE hle hS
  go_enter Tryd.func3, Tryd.ntmps3
  go_wp2_with fail
  refine (awake26_any _).mono ?_
  rintro e w1 ⟨rfl, hb1⟩
  have HB1 := Lib.hid hb1
  clear hb1
  go_wp2_with fail
  go_loopw [3, 4] (fun v i wr => ∃ (k : Nat) (es : List EntT), k ≤ 20 ∧ i = .int .i64 k ∧ Hid (es.length = min k 16) ∧ Hid (untE es = (List.range (min k 16)).map fun i : Nat => (i : Int)) ∧ Hid (OBM 19 w.heap.size w v es.length (flatE es) wr)) (fun _ i _ => 20 - (intOf i).toNat)
  case atStart => exact ⟨0, [], Nat.zero_le _, rfl, Lib.hid rfl, Lib.hid rfl, Lib.hid (OBM.nil HB1.out HB1.out.size)⟩
  case round =>
    obtain ⟨k, es, hk, rfl, HEL, HEU, HO⟩ := hrel
    by_cases hlt : k < 20
    · have hlt' : (k : Int) < 20 := by omega
      have hel := HEL.out
      obtain ⟨m, hm⟩ : ∃ m, m = es.length := ⟨_, rfl⟩
      have HM := Lib.hid hm
      rw [← hm] at HO
      clear hm hel
      obtain ⟨V, CC, rfl, hv1, hv2, hv3⟩ := HO.out.slice3
      have HV3 := Lib.hid hv3
      clear hv1 hv2 hv3
      have hml : m ≤ 16 := by rw [HM.out, HEL.out]; omega
      have EV : Hid (∀ w', Below wr.heap.size wr w' → EntsV w' w'.heap.size V m es) := Lib.hid (fun w' hb => by
        have h1 := (HO.out.keep hb (Nat.le_refl _)).sl
        refine ⟨h1.ents (Nat.le_refl _) HM.out.symm, HM.out.symm, fun ad had => ?_⟩
        rcases HV3.out with ⟨h, -, -⟩ | ⟨g, h, -, h2⟩
        · rw [h] at had; cases had
        · rw [h] at had; injection had with had; subst had; exact Nat.lt_of_lt_of_le h2 hb.size)
      have FR := Lib.hid (fun (w' : World) (hb : Below wr.heap.size wr w') (id : Nat) (hid : id < 65536) => free_any V m CC es id hid w' (EV.out w' hb).at_ HM.out.symm (by omega))
      have HF7 := Lib.hid (FR.out wr (Below.refl _ _) 7 (by omega))
      go_wp2_with fail
      refine HF7.out.mono ?_
      rintro e w2 ⟨r0, rfl, hr0, hb2⟩
      have HB2 := Lib.hid hb2
      clear hb2 HF7
      by_cases hkn : k < n
      · have hkn' : (k : Int) < n := by omega
        obtain ⟨bb, off, u, rfl, hbb, hx, hcell⟩ := HS.out.at_ hkn
        rw [List.getElem?_map] at hx
        obtain ⟨z, hzk⟩ : ∃ z, zs[k]? = some z := ⟨_, List.getElem?_eq_getElem (by rw [HL.out]; exact hkn)⟩
        rw [hzk] at hx
        obtain rfl := Option.some.inj hx
        have hzr := HZ.out z (List.mem_of_getElem? hzk)
        obtain ⟨zn, rfl⟩ : ∃ zn : Nat, z = zn := ⟨z.toNat, by omega⟩
        have q0 := ((HO.out.bel.cell (p := ⟨bb, off + k, none⟩) hbb).trans hcell)
        have q0 := (HB2.out.cell (p := ⟨bb, off + k, none⟩) (Nat.lt_of_lt_of_le hbb HO.out.base)).trans q0
        have HFZ := Lib.hid (FR.out w2 HB2.out zn (by omega))
        clear hx hzk hcell hr0 hzr
        go_wp2_with fail
        refine HFZ.out.mono ?_
        rintro e w3 ⟨r, rfl, hr, hb3⟩
        have HB3 := Lib.hid (below_trans HB2.out HB2.out.size hb3)
        clear hb3 q0 HFZ
        have hnot := free_not hr (by rw [← HM.out]; exact hml)
        have AD : Hid (Calls Tryd.prog 7 #[.slice V m CC, .agg #[.int .u16 r, .int .u16 0, .bool false, .int .i64 0, .bool false, .bool false, .bool false, .bool false, .int .i64 0, .string ⟨#[]⟩, .int .u16 0, .slice none 0 0, .slice none 0 0, .slice none 0 0, .int .i64 0, .string ⟨#[]⟩, .int .i64 0, .bool false, .int .i64 (k : Int)]] w3 (AddR es (r, ⟨#[]⟩, 0, ⟨#[]⟩, 0, (k : Int)) w3)) := Lib.hid (add_any V m CC es (r, ⟨#[]⟩, 0, ⟨#[]⟩, 0, (k : Int)) w3 (EV.out w3 HB3.out) (by omega))
        have HNOT := Lib.hid (any_not hnot)
        clear hr hnot
        go_wp2_with fail
        refine AD.out.mono ?_
        rintro e w4 (⟨g1, rfl, hb4⟩ | ⟨g1, g2, -⟩ | ⟨g1, g2, v', rfl, ho4⟩)
        · have hk16 : ¬ (k : Int) < 16 := by
            have := HEL.out
            omega
          have HB4 := Lib.hid (below_trans HB3.out HB3.out.size hb4)
          have NE := Lib.hid (number_errno 9 w4 (HET.out.keep (Nat.le_refl _) (below_trans HO.out.bel HO.out.base HB4.out)))
          unfold errP
          clear hb4 g1
          go_wp2_with fail
          refine NE.out.mono ?_
          rintro e w5 ⟨rfl, hb5⟩
          have HB5 := Lib.hid (below_trans HB4.out HB4.out.size hb5)
          clear hb5 NE
          go_wp2_with fail
          go_round
          case rel => exact ⟨k + 1, es, by omega, by go_num, Lib.hid (by rw [HEL.out]; omega), Lib.hid (by rw [HEU.out, show min (k + 1) 16 = min k 16 by omega]), by rw [← HM.out]; exact Lib.hid (HO.out.keep HB5.out (Nat.le_refl _))⟩
          case measure => simp [intOf]; omega
        · exfalso
          rw [HNOT.out] at g2
          cases g2
        · have hk16 : (k : Int) < 16 := by
            have := HEL.out
            omega
          have HOX := Lib.hid (ho4.out (Nat.le_trans HO.out.base HB3.out.size) (below_trans HO.out.bel HO.out.base HB3.out))
          have HLX := Lib.hid (show (es ++ [((r, ⟨#[]⟩, 0, ⟨#[]⟩, 0, (k : Int)) : EntT)]).length = es.length + 1 by simp)
          clear ho4 g1 g2
          go_wp2_with fail
          go_round
          case rel => exact ⟨k + 1, es ++ [(r, ⟨#[]⟩, 0, ⟨#[]⟩, 0, (k : Int))], by omega, by go_num, Lib.hid (by rw [HLX.out, HEL.out]; omega), Lib.hid (by
            have e1 : min k 16 = k := by omega
            have e2 : min (k + 1) 16 = k + 1 := by omega
            have e3 := HEU.out
            rw [e1] at e3
            rw [e2, List.range_succ, List.map_append, ← e3]
            unfold untE
            rw [List.map_append]; rfl), by rw [HLX.out]; exact HOX⟩
          case measure => simp [intOf]; omega
      · have hkn' : ¬ (k : Int) < n := by omega
        obtain ⟨r, hrr⟩ : ∃ r, r = r0 := ⟨_, rfl⟩
        obtain ⟨w3, hw3⟩ : ∃ x, x = w2 := ⟨_, rfl⟩
        rw [← hrr] at hr0 ⊢
        rw [← hw3] at HB2 ⊢
        have hr := hr0
        have HB3 := Lib.hid HB2.out
        clear hrr hw3 hr0
        have hnot := free_not hr (by rw [← HM.out]; exact hml)
        have AD : Hid (Calls Tryd.prog 7 #[.slice V m CC, .agg #[.int .u16 r, .int .u16 0, .bool false, .int .i64 0, .bool false, .bool false, .bool false, .bool false, .int .i64 0, .string ⟨#[]⟩, .int .u16 0, .slice none 0 0, .slice none 0 0, .slice none 0 0, .int .i64 0, .string ⟨#[]⟩, .int .i64 0, .bool false, .int .i64 (k : Int)]] w3 (AddR es (r, ⟨#[]⟩, 0, ⟨#[]⟩, 0, (k : Int)) w3)) := Lib.hid (add_any V m CC es (r, ⟨#[]⟩, 0, ⟨#[]⟩, 0, (k : Int)) w3 (EV.out w3 HB3.out) (by omega))
        have HNOT := Lib.hid (any_not hnot)
        clear hr hnot
        go_wp2_with fail
        refine AD.out.mono ?_
        rintro e w4 (⟨g1, rfl, hb4⟩ | ⟨g1, g2, -⟩ | ⟨g1, g2, v', rfl, ho4⟩)
        · have hk16 : ¬ (k : Int) < 16 := by
            have := HEL.out
            omega
          have HB4 := Lib.hid (below_trans HB3.out HB3.out.size hb4)
          have NE := Lib.hid (number_errno 9 w4 (HET.out.keep (Nat.le_refl _) (below_trans HO.out.bel HO.out.base HB4.out)))
          unfold errP
          clear hb4 g1
          go_wp2_with fail
          refine NE.out.mono ?_
          rintro e w5 ⟨rfl, hb5⟩
          have HB5 := Lib.hid (below_trans HB4.out HB4.out.size hb5)
          clear hb5 NE
          go_wp2_with fail
          go_round
          case rel => exact ⟨k + 1, es, by omega, by go_num, Lib.hid (by rw [HEL.out]; omega), Lib.hid (by rw [HEU.out, show min (k + 1) 16 = min k 16 by omega]), by rw [← HM.out]; exact Lib.hid (HO.out.keep HB5.out (Nat.le_refl _))⟩
          case measure => simp [intOf]; omega
        · exfalso
          rw [HNOT.out] at g2
          cases g2
        · have hk16 : (k : Int) < 16 := by
            have := HEL.out
            omega
          have HOX := Lib.hid (ho4.out (Nat.le_trans HO.out.base HB3.out.size) (below_trans HO.out.bel HO.out.base HB3.out))
          have HLX := Lib.hid (show (es ++ [((r, ⟨#[]⟩, 0, ⟨#[]⟩, 0, (k : Int)) : EntT)]).length = es.length + 1 by simp)
          clear ho4 g1 g2
          go_wp2_with fail
          go_round
          case rel => exact ⟨k + 1, es ++ [(r, ⟨#[]⟩, 0, ⟨#[]⟩, 0, (k : Int))], by omega, by go_num, Lib.hid (by rw [HLX.out, HEL.out]; omega), Lib.hid (by
            have e1 : min k 16 = k := by omega
            have e2 : min (k + 1) 16 = k + 1 := by omega
            have e3 := HEU.out
            rw [e1] at e3
            rw [e2, List.range_succ, List.map_append, ← e3]
            unfold untE
            rw [List.map_append]; rfl), by rw [HLX.out]; exact HOX⟩
          case measure => simp [intOf]; omega
    · have hlt' : ¬ (k : Int) < 20 := by omega
      obtain rfl : k = 20 := by omega
      have hes : es.length = 16 := by rw [HEL.out]; rfl
      have hun : untE es = (List.range 16).map fun i : Nat => (i : Int) := by rw [HEU.out]; rfl
      rw [hes] at HO
      obtain ⟨V, CC, rfl, hv1, hv2, hv3⟩ := HO.out.slice3
      have EX := Lib.hid (expire_any V 16 CC es 5 wr ⟨HO.out.sl.ents (Nat.le_refl _) hes, hes, fun ad had => by
        rcases hv3 with ⟨h, -, -⟩ | ⟨g, h, -, h2⟩
        · rw [h] at had; cases had
        · rw [h] at had; injection had with had; subst had; exact h2⟩ (by omega))
      have h6 : (es.filter fun x => decide (x.2.2.2.2.2 ≤ 5)).length = 6 := by rw [unt_filter es (fun z => decide (z ≤ 5)), hun]; decide
      have h10 : (es.filter fun x => !decide (x.2.2.2.2.2 ≤ 5)).length = 10 := by rw [unt_filter es (fun z => !decide (z ≤ 5)), hun]; decide
      rw [h6, h10] at EX
      have HB := Lib.hid HO.out.bel
      have HBS := Lib.hid HO.out.base
      clear hes hun h6 h10 hv1 hv2 hv3
      go_wp2_with fail
      refine EX.out.mono ?_
      rintro e w4 ⟨v1, v2, rfl, ho1, ho2⟩
      have HB4 := Lib.hid (below_trans HB.out HBS.out ho1.bel)
      obtain ⟨V1, C1, rfl, -, -, -⟩ := ho1.slice
      obtain ⟨V2, C2, rfl, -, -, -⟩ := ho2.slice
      clear ho1 ho2
      go_wp2_with fail
      go_ret
      exact ⟨rfl, HB4.out⟩
end Go.Proofs.YtlmhmkpoaebokaaDoor
