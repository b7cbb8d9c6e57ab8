/- The contracts of layer 8: a record that is there is not put in; one is taken out. -/
import Derived.Test.YtoacmdjbmbdjdaaDoorZonH
namespace Go.Proofs.YtoacmdjbmbdjdaaDoor
open Go.RowKit
set_option linter.unusedVariables false
set_option linter.unusedSimpArgs false
set_option maxRecDepth 20000
attribute [local simp] putsF isV wordOf Deps Region.binds Region.wanted Act.put wantedX isB
/-- An error of this number. -/
def errV (k : Int) : Value := .iface 43 (.int .i64 k)
set_option maxHeartbeats 1600000 in
theorem insert_old (A : Option Addr) (n c : Nat) (rs : List RecT) (r : RecT) (w : World) (h : Recs w A rs) (hl : rs.length = n) (hn : n ≤ maxLen) (hr : r ∈ rs) :
    Calls Tryd.prog 8 #[.slice A n c, recV r] w fun e w' => e = .returned (.tuple #[.slice none 0 0, errV 7]) ∧ Below w.heap.size w w' := by
  have HAS := Lib.hid (fun w h => has_any A n c rs r w h hl hn)
  rw [(hasB_iff _ _).2 hr] at HAS
  have HH := Lib.hid h
  unfold recV errV at *
  clear h hl hn hr
  go_enter Tryd.func8, Tryd.ntmps8
  go_wp2_with fail
  refine (HAS.out _ (HH.out.below ((Below.refl _ _).alloc (Nat.le_refl _) _))).mono ?_
  rintro e w1 ⟨rfl, hb⟩
  have HB := Lib.hid (below_alloc _ (Below.refl _ _) (Nat.le_refl _) hb)
  clear hb
  go_wp2_with fail
  exact bodyPost_ret (v := .tuple #[.slice none 0 0, .iface 43 (.int .i64 7)]) (by simp [results, Tryd.results8, go_sem]) rfl ⟨rfl, HB.out⟩
/-- So many rows that are some records, one behind the other. -/
def joinN (m : Nat) (L : List RecT) : Value → World → Prop := fun v w => ∃ g, v = .slice (some ⟨g, 0, none⟩) m m ∧ ∃ rows : List RowR, Sl w w.heap.size 1 (some ⟨g, 0, none⟩) m (rows.map rowRV) ∧ (∀ r ∈ rows, RowROk w r) ∧ allR rows = L
theorem joinN_stays (m : Nat) (L : List RecT) : ∀ v w w', joinN m L v w → Goes w w' → joinN m L v w' := by
  rintro v w w' ⟨g, rfl, rows, hS, hok, hL⟩ hb
  exact ⟨g, rfl, rows, (hS.below hb).more hb.size, fun r hr => (hok r hr).below hb, hL⟩
set_option maxHeartbeats 3200000 in
theorem delete_none (A : Option Addr) (n c : Nat) (rs : List RecT) (r : RecT) (w : World) (h : Recs w A rs) (hl : rs.length = n) (hn : n ≤ maxLen) (hr : r ∉ rs) :
    Calls Tryd.prog 12 #[.slice A n c, recV r] w fun e w' => e = .returned (.tuple #[.slice none 0 0, errV 6]) ∧ Below w.heap.size w w' := by
  have IX := Lib.hid (fun w h => index_any A n c rs r w h hl hn)
  have HH := Lib.hid h
  unfold recV errV at *
  clear h hl hn
  go_enter Tryd.func12, Tryd.ntmps12
  go_wp2_with fail
  refine (IX.out _ (HH.out.below ((Below.refl _ _).alloc (Nat.le_refl _) _))).mono ?_
  rintro e w1 ⟨i, rfl, hi, hb⟩
  rcases hi with ⟨rfl, -⟩ | ⟨k, rfl, hk, -⟩
  · have HB := Lib.hid (below_alloc _ (Below.refl _ _) (Nat.le_refl _) hb)
    clear hb hr
    go_wp2_with fail
    exact bodyPost_ret (v := .tuple #[.slice none 0 0, .iface 43 (.int .i64 6)]) (by simp [results, Tryd.results12, go_sem]) rfl ⟨rfl, HB.out⟩
  · exact absurd (List.mem_of_getElem? hk) hr
set_option maxHeartbeats 3200000 in
theorem delete_some (A : Option Addr) (n c : Nat) (rs : List RecT) (r : RecT) (w : World) (h : RowROk w (A, n, c, rs)) (hnc : n ≤ c) (hn : n ≤ 100000) (hr : r ∈ rs) (hri : Rising rs) :
    Calls Tryd.prog 12 #[.slice A n c, recV r] w fun e w' => ∃ v, e = .returned (.tuple #[v, .nilIface]) ∧ OBM 4 w.heap.size w v (lessR rs r).length (flatR (lessR rs r)) w' := by
  have hl : rs.length = n := h.len
  obtain ⟨NL, hNL⟩ : ∃ NL, (lessR rs r).length = NL := ⟨_, rfl⟩
  rw [hNL]
  have HNL := Lib.hid hNL
  clear hNL
  have IX := Lib.hid (fun w h => index_any A n c rs r w h hl (by unfold maxLen; omega))
  have HH := Lib.hid h
  have HRI := Lib.hid hri
  have HRR := Lib.hid hr
  have HL := Lib.hid hl
  unfold recV at IX ⊢
  clear h hri hr hl
  go_enter Tryd.func12, Tryd.ntmps12
  go_wp2_with fail
  refine (IX.out _ ((HH.out.sl.recs (Nat.le_refl _) HL.out).below ((Below.refl _ _).alloc (Nat.le_refl _) _))).mono ?_
  rintro e w1 ⟨i, rfl, hi, hb⟩
  rcases hi with ⟨rfl, hno⟩ | ⟨k, rfl, hk, hkn⟩
  · exact absurd HRR.out hno
  · have hkl : k < n := by have := (List.getElem?_eq_some_iff.1 hk).1; have := HL.out; omega
    have hb' := below_alloc _ (Below.refl _ _) (Nat.le_refl _) hb
    have HB := Lib.hid hb'
    have HRX := Lib.hid (HH.out.below hb')
    have HI := Lib.hid (lessR_at HRI.out hk hkn)
    have hlen : (lessR rs r).length ≤ 100000 := by
      unfold lessR
      have := List.length_filter_le (fun x => !eqB x r) rs
      have := HL.out
      omega
    have HLE := Lib.hid hlen
    obtain ⟨b, off, he, -, -⟩ := HRX.out.sl.2 (by dsimp only; omega)
    dsimp only at he
    subst he
    obtain ⟨A7, hA7⟩ : ∃ A7 : Option Addr, (if c = k + 1 then some ⟨b, off, none⟩ else some ⟨b, off + (k + 1) * 4, none⟩) = A7 := ⟨_, rfl⟩
    have HR7 : Hid (∀ wy, Below w1.heap.size w1 wy → RowROk wy (A7, n - (k + 1), c - (k + 1), rs.drop (k + 1))) := Lib.hid (fun wy hb => by
      rw [← hA7]
      by_cases hck : c = k + 1
      · rw [if_pos hck, List.drop_eq_nil_of_le (by have := HL.out; omega), show n - (k + 1) = 0 by omega]
        exact RowROk.nothing _ _ _
      · rw [if_neg hck]
        exact (HRX.out.below hb).drop (k + 1) (by omega) _)
    have hkc : k ≤ c := by omega
    have hkci : (k : Int) ≤ c := by omega
    have hk1c : k + 1 ≤ c := by omega
    have hk1ci : (k : Int) + 1 ≤ c := by omega
    have hk1n : (k : Int) + 1 ≤ n := by omega
    have hnci : (n : Int) ≤ c := by omega
    have hkneg : ¬ (k : Int) < 0 := by omega
    have htn : ((k : Int) + 1).toNat = k + 1 := by omega
    have hk0 : (0 : Int) ≤ (k : Int) + 1 := by omega
    clear hb hb' hk hkn hlen
    go_upto_region 4 with fail
    refine wp_region_goesG data_follows (fun x => by simp [putsF, Act.put]; rfl) w1.heap.size w1
      [isV (.slice (some ⟨b, off, none⟩) n c), isV (.int .i64 (k : Nat)), isV (.slice (some ⟨b, off, none⟩) k c), isV (.slice (some ⟨b, off, none⟩) n c), isV (.int .i64 (k : Nat)), isV (.int .i64 ((k : Int) + 1)), isV (.slice A7 (n - (k + 1)) (c - (k + 1))), joinN 2 (lessR rs r), ownW 4 w1.heap.size w1 NL (flatR (lessR rs r)), ownW 4 w1.heap.size w1 NL (flatR (lessR rs r)), isV .nilIface]
      (by kernel_rfl) (by kernel_rfl) (by kernel_rfl) rfl ?_ (Below.refl _ _) ?_ ?_
    · repeat (first | exact trivial | refine ⟨by first | exact isV_stays _ | exact joinN_stays _ _ | exact ownW_stays _ _ _ _ _, ?_⟩)
    · refine ⟨?_, ?_, ?_, ?_, ?_, ?_, ?_, ?_, ?_, ?_, ?_, trivial⟩
      all_goals
        intro y wy hR hd
        refine ⟨fun _ => ?_, fun hX => by simp at hX⟩
        simp at hd ⊢
      · go_simp; exact next_same _ rfl rfl hR
      · go_simp; exact next_same _ rfl rfl hR
      · obtain ⟨hd0, hd1⟩ := hd; go_simp; exact next_same _ rfl rfl hR
      · go_simp; exact next_same _ rfl rfl hR
      · go_simp; exact next_same _ rfl rfl hR
      · have hwr : IntKind.i64.wrap ((k : Int) + 1) = (k : Int) + 1 := by rw [IntKind.wrap_i64]; omega
        go_simp; exact next_same _ rfl rfl hR
      · obtain ⟨hd0, hd1⟩ := hd; go_simp; exact next_same _ rfl rfl hR
      · obtain ⟨hd0, hd1⟩ := hd
        go_simp
        refine next_alloc _ _ rfl ⟨_, rfl, [(some ⟨b, off, none⟩, k, c, rs.take k), (A7, n - (k + 1), c - (k + 1), rs.drop (k + 1))], Sl.fresh _ _ _ 2 _ rfl rfl, ?_, ?_⟩ hR hR.size
        · intro p hp
          simp at hp
          have hb' : Below wy.heap.size wy (wy.alloc (.cells #[.slice (some ⟨b, off, none⟩) k c, .slice A7 (n - (k + 1)) (c - (k + 1))] 30)) := (Below.refl _ _).alloc (Nat.le_refl _) _
          rcases hp with rfl | rfl
          · exact (((HRX.out.below hR).take k (by omega) c).below hb')
          · exact (HR7.out _ hR).below hb'
        · show rs.take k ++ (rs.drop (k + 1) ++ []) = lessR rs r
          rw [← HI.out]; simp
      · obtain ⟨g8, hx8, rows, hS, hok, hall⟩ := hd
        rw [hx8]
        go_simp
        go_at_call 17
        refine (concat_any _ 2 2 rows wy hS (by decide) hok (by rw [hall]; have := HLE.out; omega)).mono ?_
        rintro e w2 ⟨v, rfl, ho⟩
        rw [hall, HNL.out] at ho
        exact next_call _ rfl (ho.out hR.size hR) hR hR.size ho.bel
      · have hd9 : ownW 4 w1.heap.size w1 NL (flatR (lessR rs r)) (y 8) wy := by first | exact hd | exact hd.1
        go_simp; exact next_same _ rfl hd9 hR
      · go_simp; exact next_same _ rfl rfl hR
    · intro y wy hR hy
      obtain ⟨-, -, -, -, -, -, -, -, -, ho, h11, -⟩ := hy
      have h11 : y 10 = .nilIface := h11
      unfold ownW at ho
      obtain ⟨AF, cF, hF, -, -, -⟩ := ho.slice
      have HF := Lib.hid (ho.out HB.out.size HB.out)
      rw [hF] at HF
      rw [hF, h11]
      clear ho hF h11 hR
      go_wp2_with fail
      refine bodyPost_ret (v := .tuple #[.slice AF NL cF, .nilIface]) (by simp [results, Tryd.results12, go_sem]) rfl ⟨_, rfl, HF.out⟩
end Go.Proofs.YtoacmdjbmbdjdaaDoor
