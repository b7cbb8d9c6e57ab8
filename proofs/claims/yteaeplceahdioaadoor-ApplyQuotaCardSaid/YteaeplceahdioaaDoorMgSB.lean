/- Texts that walks stand on, one behind the other. -/
import Derived.Test.YteaeplceahdioaaDoorMgSA
import Derived.Test.YteaeplceahdioaaDoorView
import Derived.Test.YteaeplceahdioaaDoorNameB
namespace Go.Proofs.YteaeplceahdioaaDoor
open Go.RowKit
set_option linter.unusedVariables false
set_option linter.unusedSimpArgs false
set_option maxRecDepth 20000
attribute [local simp] putsF isV wordOf Deps Region.binds Region.wanted Act.put wantedX isB
def lowB (r q : RecT) : Bool := decide (cmpR q r < 0)
/-- Records with one more, where it stands. -/
def insR (rs : List RecT) (r : RecT) : List RecT := rs.takeWhile (lowB r) ++ r :: rs.dropWhile (lowB r)
theorem take_while {rs : List RecT} {r : RecT} {k : Nat} (h : ∀ q ∈ rs.take k, lowB r q = true) (he : ∀ q, rs[k]? = some q → lowB r q = false) : rs.takeWhile (lowB r) = rs.take k ∧ rs.dropWhile (lowB r) = rs.drop k := by
  induction rs generalizing k with
  | nil => simp
  | cons q rs ih =>
    cases k with
    | zero =>
      have := he q rfl
      simp [this]
    | succ k =>
      have hq := h q (by simp)
      have := ih (k := k) (fun p hp => h p (by simp [hp])) (fun p hp => he p (by simpa using hp))
      simp [hq, this]
theorem insR_at {rs : List RecT} {r : RecT} {k : Nat} (h : ∀ q ∈ rs.take k, lowB r q = true) (he : ∀ q, rs[k]? = some q → lowB r q = false) : insR rs r = rs.take k ++ r :: rs.drop k := by
  obtain ⟨h1, h2⟩ := take_while h he
  unfold insR; rw [h1, h2]
theorem insR_len (rs : List RecT) (r : RecT) : (insR rs r).length = rs.length + 1 := by
  have h : (rs.takeWhile (lowB r) ++ rs.dropWhile (lowB r)).length = rs.length := by rw [List.takeWhile_append_dropWhile]
  rw [List.length_append] at h
  unfold insR
  rw [List.length_append, List.length_cons]; omega
/-- A slice's beginning, and its rest, are rows. -/
theorem RowROk.take {w : World} {A : Option Addr} {n c : Nat} {rs : List RecT} (h : RowROk w (A, n, c, rs)) (k : Nat) (hk : k ≤ n) (c' : Nat) : RowROk w (A, k, c', rs.take k) := by
  have hl := h.len
  dsimp only at hl
  refine ⟨⟨by rw [flatR_len]; simp; omega, fun hk0 => ?_⟩, fun e => by have := h.none_ e; dsimp only at this ⊢; omega, by simp; omega⟩
  obtain ⟨b, off, e, hb, hc⟩ := h.sl.2 (by dsimp only at hk0 ⊢; omega)
  refine ⟨b, off, e, hb, fun j u hu => hc j u ?_⟩
  have hf : flatR rs = flatR (rs.take k) ++ flatR (rs.drop k) := by rw [← flatR_append, List.take_append_drop]
  rw [hf, List.getElem?_append_left (List.getElem?_eq_some_iff.1 hu).1]
  exact hu
theorem RowROk.drop {w : World} {b off : Nat} {n c : Nat} {rs : List RecT} (h : RowROk w (some ⟨b, off, none⟩, n, c, rs)) (k : Nat) (hk : k ≤ n) (c' : Nat) : RowROk w (some ⟨b, off + k * 4, none⟩, n - k, c', rs.drop k) := by
  have hl := h.len
  dsimp only at hl
  refine ⟨⟨by rw [flatR_len]; simp; omega, fun hk0 => ?_⟩, fun e => (by cases e), (by simp; omega)⟩
  obtain ⟨b', off', e, hb, hc⟩ := h.sl.2 (by dsimp only at hk0 ⊢; omega)
  injection e with e; injection e with e1 e2; subst e1 e2
  refine ⟨b, off + k * 4, rfl, hb, fun j u hu => ?_⟩
  have hf : flatR rs = flatR (rs.take k) ++ flatR (rs.drop k) := by rw [← flatR_append, List.take_append_drop]
  have hlen : (flatR (rs.take k)).length = k * 4 := by rw [flatR_len]; simp; omega
  have := hc (k * 4 + j) u (by rw [hf, List.getElem?_append_right (by omega), hlen]; simpa using hu)
  rwa [← Nat.add_assoc] at this
theorem RowROk.nothing (w : World) (A : Option Addr) (c : Nat) : RowROk w (A, 0, c, []) := ⟨Sl.nil _ _ _ _, fun _ => rfl, rfl⟩
theorem RowROk.one {w : World} {g : Nat} {r : RecT} (h : Cs w g (recCells r)) : RowROk w (some ⟨g, 0, none⟩, 1, 1, [r]) :=
  ⟨⟨rfl, fun _ => ⟨g, 0, rfl, h.lt, fun j u hu => by rw [Nat.zero_add]; exact h.get j u (by simpa [flatR] using hu)⟩⟩, fun e => (by cases e), rfl⟩
/-- Three rows that are some records, one behind the other. -/
def joinW (L : List RecT) : Value → World → Prop := fun v w => ∃ g, v = .slice (some ⟨g, 0, none⟩) 3 3 ∧ ∃ rows : List RowR, Sl w w.heap.size 1 (some ⟨g, 0, none⟩) 3 (rows.map rowRV) ∧ (∀ r ∈ rows, RowROk w r) ∧ allR rows = L
theorem joinW_stays (L : List RecT) : ∀ v w w', joinW L v w → Goes w w' → joinW L v w' := by
  rintro v w w' ⟨g, rfl, rows, hS, hok, hL⟩ hb
  exact ⟨g, rfl, rows, (hS.below hb).more hb.size, fun r hr => (hok r hr).below hb, hL⟩
set_option maxHeartbeats 3200000 in
theorem insert_new (A : Option Addr) (n c : Nat) (rs : List RecT) (r : RecT) (w : World) (h : RowROk w (A, n, c, rs)) (hA : A = none → n = 0 ∧ c = 0) (hnc : n ≤ c) (hcm : c ≤ maxLen) (hn : n ≤ 100000) (hr : r ∉ rs) :
    Calls Tryd.prog 40 #[.slice A n c, recV r] w fun e w' => ∃ v, e = .returned (.tuple #[v, .nilIface]) ∧ OBM 4 w.heap.size w v (n + 1) (flatR (insR rs r)) w' := by
  have hl : rs.length = n := h.len
  obtain ⟨W, hW⟩ : ∃ W, W = w.alloc (.cells #[.string r.1, .int .u16 r.2.1, .int .u32 r.2.2.1, .string r.2.2.2] 32) := ⟨_, rfl⟩
  have hC : Cs W w.heap.size [.string r.1, .int .u16 r.2.1, .int .u32 r.2.2.1, .string r.2.2.2] := by rw [hW]; exact Cs.new w _ _ _
  have hbW : Below w.heap.size w W := by rw [hW]; exact (Below.refl _ _).alloc (Nat.le_refl _) _
  have HAS := Lib.hid (fun w h => has_any A n c rs r w h hl (by unfold maxLen; omega))
  have hf := hasB_false.2 hr
  rw [hf] at HAS
  have HW := Lib.hid hW
  have HC := Lib.hid hC
  have HBW := Lib.hid hbW
  have HR := Lib.hid (h.below hbW)
  have HL := Lib.hid hl
  unfold recV at HAS ⊢
  obtain ⟨g, hg⟩ : ∃ g, g = w.heap.size := ⟨_, rfl⟩
  rw [← hg] at HC
  have HG := Lib.hid hg
  clear h hW hC hbW hl hf hr hg
  go_enter Tryd.func40, Tryd.ntmps40
  go_wp2_with fail
  rw [← HW.out, ← HG.out]
  refine (HAS.out W (HR.out.sl.recs (Nat.le_refl _) HL.out)).mono ?_
  rintro e w1 ⟨rfl, hb1⟩
  have HC1 := Lib.hid (HC.out.below hb1)
  have HR1 := Lib.hid (HR.out.below hb1)
  have HB1 := Lib.hid (below_trans HBW.out HBW.out.size hb1)
  clear hb1 HAS
  go_wp2_with fail
  go_loopw [6] (fun i wr => ∃ k : Nat, k ≤ n ∧ i = .int .i64 k ∧ Hid (∀ q ∈ rs.take k, lowB r q = true) ∧ Hid (Below w1.heap.size w1 wr)) (fun i _ => n - (intOf i).toNat)
  case atStart => exact ⟨0, Nat.zero_le _, rfl, Lib.hid (by simp), Lib.hid (Below.refl _ _)⟩
  case round =>
    obtain ⟨k, hk, rfl, HK, HB⟩ := hrel
    by_cases hlt : k < n
    · have hlt' : (k : Int) < n := by omega
      obtain ⟨q, hq⟩ : ∃ q, rs[k]? = some q := ⟨_, List.getElem?_eq_getElem (by rw [HL.out]; exact hlt)⟩
      obtain ⟨b, off, he, hb, z0, z1, z2, z3⟩ := ((HR1.out.below HB.out).sl.recs (Nat.le_refl _) HL.out) k _ hq
      dsimp only at he
      subst he
      have HZ := Lib.hid (And.intro z0 (And.intro z1 (And.intro z2 z3)))
      have HQ := Lib.hid hq
      have HHB := Lib.hid hb
      obtain ⟨m, hm⟩ : ∃ m, cmpR q r = m := ⟨_, rfl⟩
      have CM := Lib.hid (fun w => compare_any q r w)
      rw [hm] at CM
      unfold recV at CM
      have HM := Lib.hid hm
      have HC2 := Lib.hid (HC1.out.below HB.out)
      clear hq hb z0 z1 z2 z3 hm
      by_cases hm0 : m < 0
      · go_upto_region 4 with fail
        refine wp_region_goesG data_follows (fun x => by simp [putsF, Act.put]; rfl) wr.heap.size wr
          [isV (.int .i64 (k : Nat)), isV (.slice (some ⟨b, off, none⟩) n c), isV (.int .i64 (n : Nat)), isV (.bool true), isV (.bool true), isV (.slice (some ⟨b, off, none⟩) n c), isV (.int .i64 (k : Nat)), isV (.pointer (some ⟨b, off + k * 4, none⟩)), isV (.agg #[.string q.1, .int .u16 q.2.1, .int .u32 q.2.2.1, .string q.2.2.2]), isV (.agg #[.string r.1, .int .u16 r.2.1, .int .u32 r.2.2.1, .string r.2.2.2]), isV (.int .i64 m), isV (.bool true), isV (.bool true)]
          (by kernel_rfl) (by kernel_rfl) (by kernel_rfl) rfl ?_ (Below.refl _ _) ?_ ?_
        · repeat (first | exact trivial | refine ⟨isV_stays _, ?_⟩)
        · refine ⟨?_, ?_, ?_, ?_, ?_, ?_, ?_, ?_, ?_, ?_, ?_, ?_, ?_, trivial⟩
          all_goals
            intro x wx hR hd
            simp at hd ⊢
          all_goals try simp [hd]
          · go_simp; exact next_same _ rfl rfl hR
          · go_simp; exact next_same _ rfl rfl hR
          · go_simp; exact next_same _ rfl rfl hR
          · go_simp; exact next_same _ rfl rfl hR
          · go_simp; exact next_same _ rfl rfl hR
          · go_simp; exact next_same _ rfl rfl hR
          · go_simp; exact next_same _ rfl rfl hR
          · go_simp; exact next_same _ rfl rfl hR
          · have y0 := (hR.cell (p := ⟨b, off + k * 4, none⟩) HHB.out).trans HZ.out.1
            have y1 := (hR.cell (p := ⟨b, off + k * 4 + 1, none⟩) HHB.out).trans HZ.out.2.1
            have y2 := (hR.cell (p := ⟨b, off + k * 4 + 2, none⟩) HHB.out).trans HZ.out.2.2.1
            have y3 := (hR.cell (p := ⟨b, off + k * 4 + 3, none⟩) HHB.out).trans HZ.out.2.2.2
            go_simp; exact next_same _ rfl rfl hR
          · have hc := HC2.out.below hR
            have c0 := hc.get 0 _
            have c1 := hc.get 1 _
            have c2 := hc.get 2 _
            have c3 := hc.get 3 _
            clear hc
            go_simp; exact next_same _ rfl rfl hR
          · go_simp
            go_at_call 23
            refine (CM.out wx).mono ?_
            rintro e w2 ⟨rfl, hb⟩
            exact next_call _ rfl rfl hR hR.size hb
          · go_simp; exact next_same _ rfl rfl hR
          · go_simp; exact next_same _ rfl rfl hR
        · intro x wx hR hx
          simp [AllWords] at hx
          have h12 : x 12 = .bool true := by simp [hx]
          have HB2 := Lib.hid (below_trans HB.out HB.out.size hR)
          rw [h12]
          clear hx
          go_wp2_with fail
          go_round
          case rel => exact ⟨k + 1, by omega, by go_num, Lib.hid (by rw [List.take_add_one, HQ.out]; intro p hp; exact (List.mem_append.1 hp).elim (fun hp => HK.out p hp) (fun hp => by simp at hp; rw [hp]; unfold lowB; rw [HM.out]; simpa using hm0)), HB2⟩
          case measure => simp [intOf]; omega
      · have HE : Hid (∀ q, rs[k]? = some q → lowB r q = false) := Lib.hid (by
          intro p hp
          rw [HQ.out] at hp
          injection hp with hp
          rw [← hp]
          unfold lowB; rw [HM.out]; simpa using hm0)
        go_upto_region 4 with fail
        refine wp_region_goesG data_follows (fun x => by simp [putsF, Act.put]; rfl) wr.heap.size wr
          [isV (.int .i64 (k : Nat)), isV (.slice (some ⟨b, off, none⟩) n c), isV (.int .i64 (n : Nat)), isV (.bool true), isV (.bool true), isV (.slice (some ⟨b, off, none⟩) n c), isV (.int .i64 (k : Nat)), isV (.pointer (some ⟨b, off + k * 4, none⟩)), isV (.agg #[.string q.1, .int .u16 q.2.1, .int .u32 q.2.2.1, .string q.2.2.2]), isV (.agg #[.string r.1, .int .u16 r.2.1, .int .u32 r.2.2.1, .string r.2.2.2]), isV (.int .i64 m), isV (.bool false), isV (.bool false)]
          (by kernel_rfl) (by kernel_rfl) (by kernel_rfl) rfl ?_ (Below.refl _ _) ?_ ?_
        · repeat (first | exact trivial | refine ⟨isV_stays _, ?_⟩)
        · refine ⟨?_, ?_, ?_, ?_, ?_, ?_, ?_, ?_, ?_, ?_, ?_, ?_, ?_, trivial⟩
          all_goals
            intro x wx hR hd
            simp at hd ⊢
          all_goals try simp [hd]
          · go_simp; exact next_same _ rfl rfl hR
          · go_simp; exact next_same _ rfl rfl hR
          · go_simp; exact next_same _ rfl rfl hR
          · go_simp; exact next_same _ rfl rfl hR
          · go_simp; exact next_same _ rfl rfl hR
          · go_simp; exact next_same _ rfl rfl hR
          · go_simp; exact next_same _ rfl rfl hR
          · go_simp; exact next_same _ rfl rfl hR
          · have y0 := (hR.cell (p := ⟨b, off + k * 4, none⟩) HHB.out).trans HZ.out.1
            have y1 := (hR.cell (p := ⟨b, off + k * 4 + 1, none⟩) HHB.out).trans HZ.out.2.1
            have y2 := (hR.cell (p := ⟨b, off + k * 4 + 2, none⟩) HHB.out).trans HZ.out.2.2.1
            have y3 := (hR.cell (p := ⟨b, off + k * 4 + 3, none⟩) HHB.out).trans HZ.out.2.2.2
            go_simp; exact next_same _ rfl rfl hR
          · have hc := HC2.out.below hR
            have c0 := hc.get 0 _
            have c1 := hc.get 1 _
            have c2 := hc.get 2 _
            have c3 := hc.get 3 _
            clear hc
            go_simp; exact next_same _ rfl rfl hR
          · go_simp
            go_at_call 23
            refine (CM.out wx).mono ?_
            rintro e w2 ⟨rfl, hb⟩
            exact next_call _ rfl rfl hR hR.size hb
          · go_simp; exact next_same _ rfl rfl hR
          · go_simp; exact next_same _ rfl rfl hR
        · intro x wx hR hx
          simp [AllWords] at hx
          have h12 : x 12 = .bool false := by simp [hx]
          have HB2 := Lib.hid (below_trans HB.out HB.out.size hR)
          rw [h12]
          clear hx
          go_upto_region 6 with fail
          have HI := Lib.hid (insR_at HK.out HE.out)
          have HLI := Lib.hid (insR_len rs r)
          have HCX := Lib.hid (HC1.out.below HB2.out)
          have HRX := Lib.hid (HR1.out.below HB2.out)
          have HBX := Lib.hid (below_trans HB1.out HB1.out.size HB2.out)
          obtain ⟨A7, hA7⟩ : ∃ A7 : Option Addr, (if c = k then some ⟨b, off, none⟩ else some ⟨b, off + k * 4, none⟩) = A7 := ⟨_, rfl⟩
          have HR7 : Hid (∀ wy, Below wx.heap.size wx wy → RowROk wy (A7, n - k, c - k, rs.drop k)) := Lib.hid (fun wy hb => by
            rw [← hA7]
            by_cases hck : c = k
            · rw [if_pos hck, List.drop_eq_nil_of_le (by have := HL.out; omega), show n - k = 0 by omega]
              exact RowROk.nothing _ _ _
            · rw [if_neg hck]
              exact (HRX.out.below hb).drop k (by omega) _)
          have hkc : k ≤ c := by omega
          have hkci : (k : Int) ≤ c := by omega
          have hkni : (k : Int) ≤ n := by omega
          have hnci : (n : Int) ≤ c := by omega

          refine wp_region_goesG data_follows (fun x => by simp [putsF, Act.put]; rfl) wx.heap.size wx
            [isV (.slice (some ⟨b, off, none⟩) n c), isV (.int .i64 (k : Nat)), isV (.slice (some ⟨b, off, none⟩) k c), isV (.agg #[.string r.1, .int .u16 r.2.1, .int .u32 r.2.2.1, .string r.2.2.2]), litW 1 (recCells r), isV (.slice (some ⟨b, off, none⟩) n c), isV (.int .i64 (k : Nat)), isV (.slice A7 (n - k) (c - k)), joinW (insR rs r), ownW 4 wx.heap.size wx (n + 1) (flatR (insR rs r)), ownW 4 wx.heap.size wx (n + 1) (flatR (insR rs r)), isV .nilIface]
            (by kernel_rfl) (by kernel_rfl) (by kernel_rfl) rfl ?_ (Below.refl _ _) ?_ ?_
          · repeat (first | exact trivial | refine ⟨by first | exact isV_stays _ | exact litW_stays _ _ | exact joinW_stays _ | exact ownW_stays _ _ _ _ _, ?_⟩)
          · refine ⟨?_, ?_, ?_, ?_, ?_, ?_, ?_, ?_, ?_, ?_, ?_, ?_, trivial⟩
            all_goals
              intro y wy hR hd
              refine ⟨fun _ => ?_, fun hX => by simp at hX⟩
              simp at hd ⊢
            · go_simp; exact next_same _ rfl rfl hR
            · go_simp; exact next_same _ rfl rfl hR
            · obtain ⟨hd0, hd1⟩ := hd; go_simp; exact next_same _ rfl rfl hR
            · have hc := HCX.out.below hR
              have c0 := hc.get 0 _
              have c1 := hc.get 1 _
              have c2 := hc.get 2 _
              have c3 := hc.get 3 _
              clear hc
              go_simp; exact next_same _ rfl rfl hR
            · go_simp; exact next_alloc _ _ rfl (litW_new 1 _ _ _ _) hR hR.size
            · go_simp; exact next_same _ rfl rfl hR
            · go_simp; exact next_same _ rfl rfl hR
            · obtain ⟨hd0, hd1⟩ := hd; go_simp; exact next_same _ rfl rfl hR
            · obtain ⟨hd2, ⟨g4, hx4, hc4⟩, hd7⟩ := hd
              rw [hx4]
              go_simp
              refine next_alloc _ _ rfl ⟨_, rfl, [((some ⟨b, off, none⟩), k, c, rs.take k), (some ⟨g4, 0, none⟩, 1, 1, [r]), (A7, n - k, c - k, rs.drop k)], Sl.fresh _ _ _ 3 _ rfl rfl, ?_, ?_⟩ hR hR.size
              · intro p hp
                simp at hp
                have hb' : Below wy.heap.size wy (wy.alloc (.cells #[.slice (some ⟨b, off, none⟩) k c, .slice (some ⟨g4, 0, none⟩) 1 1, .slice A7 (n - k) (c - k)] 34)) := (Below.refl _ _).alloc (Nat.le_refl _) _
                rcases hp with rfl | rfl | rfl
                · exact (((HRX.out.below hR).take k (by omega) c).below hb')
                · exact (RowROk.one hc4).below hb'
                · exact (HR7.out _ hR).below hb'
              · show rs.take k ++ ([r] ++ (rs.drop k ++ [])) = insR rs r
                rw [HI.out]; simp
            · obtain ⟨g8, hx8, rows, hS, hok, hall⟩ := hd
              rw [hx8]
              go_simp
              go_at_call 64
              refine (concat_any _ 3 3 rows wy hS (by decide) hok (by rw [hall, HLI.out, HL.out]; omega)).mono ?_
              rintro e w2 ⟨v, rfl, ho⟩
              rw [hall, HLI.out, HL.out] at ho
              exact next_call _ rfl (ho.out hR.size hR) hR hR.size ho.bel
            · have hd9 : ownW 4 wx.heap.size wx (n + 1) (flatR (insR rs r)) (y 9) wy := by first | exact hd | exact hd.1
              go_simp; exact next_same _ rfl hd9 hR
            · go_simp; exact next_same _ rfl rfl hR
          · intro y wy hR hy
            obtain ⟨-, -, -, -, -, -, -, -, -, -, ho, h11, -⟩ := hy
            have h11 : y 11 = .nilIface := h11
            unfold ownW at ho
            obtain ⟨AF, cF, hF, -, -, -⟩ := ho.slice
            have HF := Lib.hid (ho.out HBX.out.size HBX.out)
            rw [hF] at HF
            rw [hF, h11]
            clear ho hF h11 hR
            go_wp2_with fail
            refine bodyPost_ret (v := .tuple #[.slice AF (n + 1) cF, .nilIface]) (by simp [results, Tryd.results40, go_sem]) rfl ⟨_, rfl, HF.out⟩
    · obtain rfl : k = n := by omega
      have hlt' : ¬ (k : Int) < k := by omega
      have HE : Hid (∀ q, rs[k]? = some q → lowB r q = false) := Lib.hid (by
        intro p hp
        have := (List.getElem?_eq_some_iff.1 hp).1
        have := HL.out
        omega)
      go_upto_region 4 with fail
      refine wp_region_goesG data_follows (fun x => by simp [putsF, Act.put]; rfl) wr.heap.size wr
        [isV (.int .i64 (k : Nat)), isV (.slice A k c), isV (.int .i64 (k : Nat)), isV (.bool false), isV (.bool false), isV undef, isV undef, isV undef, isV undef, isV undef, isV undef, isV undef, isV (.bool false)]
        (by kernel_rfl) (by kernel_rfl) (by kernel_rfl) rfl ?_ (Below.refl _ _) ?_ ?_
      · repeat (first | exact trivial | refine ⟨isV_stays _, ?_⟩)
      · refine ⟨?_, ?_, ?_, ?_, ?_, ?_, ?_, ?_, ?_, ?_, ?_, ?_, ?_, trivial⟩
        all_goals
          intro x wx hR hd
          simp at hd ⊢
        all_goals try simp [hd]
        · go_simp; exact next_same _ rfl rfl hR
        · go_simp; exact next_same _ rfl rfl hR
        · go_simp; exact next_same _ rfl rfl hR
        · go_simp; exact next_same _ rfl rfl hR
        · go_simp; exact next_same _ rfl rfl hR
        · go_simp; exact next_same _ rfl rfl hR
      · intro x wx hR hx
        simp [AllWords] at hx
        have h12 : x 12 = .bool false := by simp [hx]
        have HB2 := Lib.hid (below_trans HB.out HB.out.size hR)
        rw [h12]
        clear hx
        cases A with
        | none =>
          obtain ⟨hk0, hc0⟩ := hA rfl
          have HK0 := Lib.hid (And.intro hk0 hc0)
          clear hk0 hc0 hA
          go_upto_region 6 with fail
          have HI := Lib.hid (insR_at HK.out HE.out)
          have HLI := Lib.hid (insR_len rs r)
          have HCX := Lib.hid (HC1.out.below HB2.out)
          have HRX := Lib.hid (HR1.out.below HB2.out)
          have HBX := Lib.hid (below_trans HB1.out HB1.out.size HB2.out)
          have HR7 : Hid (∀ wy, Below wx.heap.size wx wy → RowROk wy (none, 0, c - k, rs.drop k)) := Lib.hid (fun wy hb => by
            have hd : rs.drop k = [] := List.drop_eq_nil_of_le (by have := HL.out; omega)
            rw [hd]; exact RowROk.nothing _ _ _)
          have hkc : k ≤ c := by omega
          have hkci : (k : Int) ≤ c := by omega

          refine wp_region_goesG data_follows (fun x => by simp [putsF, Act.put]; rfl) wx.heap.size wx
            [isV (.slice none k c), isV (.int .i64 (k : Nat)), isV (.slice none k c), isV (.agg #[.string r.1, .int .u16 r.2.1, .int .u32 r.2.2.1, .string r.2.2.2]), litW 1 (recCells r), isV (.slice none k c), isV (.int .i64 (k : Nat)), isV (.slice none 0 (c - k)), joinW (insR rs r), ownW 4 wx.heap.size wx (k + 1) (flatR (insR rs r)), ownW 4 wx.heap.size wx (k + 1) (flatR (insR rs r)), isV .nilIface]
            (by kernel_rfl) (by kernel_rfl) (by kernel_rfl) rfl ?_ (Below.refl _ _) ?_ ?_
          · repeat (first | exact trivial | refine ⟨by first | exact isV_stays _ | exact litW_stays _ _ | exact joinW_stays _ | exact ownW_stays _ _ _ _ _, ?_⟩)
          · refine ⟨?_, ?_, ?_, ?_, ?_, ?_, ?_, ?_, ?_, ?_, ?_, ?_, trivial⟩
            all_goals
              intro y wy hR hd
              refine ⟨fun _ => ?_, fun hX => by simp at hX⟩
              simp at hd ⊢
            · go_simp; exact next_same _ rfl rfl hR
            · go_simp; exact next_same _ rfl rfl hR
            · obtain ⟨hd0, hd1⟩ := hd; go_simp; exact next_same _ rfl rfl hR
            · have hc := HCX.out.below hR
              have c0 := hc.get 0 _
              have c1 := hc.get 1 _
              have c2 := hc.get 2 _
              have c3 := hc.get 3 _
              clear hc
              go_simp; exact next_same _ rfl rfl hR
            · go_simp; exact next_alloc _ _ rfl (litW_new 1 _ _ _ _) hR hR.size
            · go_simp; exact next_same _ rfl rfl hR
            · go_simp; exact next_same _ rfl rfl hR
            · obtain ⟨hd0, hd1⟩ := hd; go_simp; exact next_same _ rfl rfl hR
            · obtain ⟨hd2, ⟨g4, hx4, hc4⟩, hd7⟩ := hd
              rw [hx4]
              go_simp
              refine next_alloc _ _ rfl ⟨_, rfl, [(none, k, c, rs.take k), (some ⟨g4, 0, none⟩, 1, 1, [r]), (none, 0, c - k, rs.drop k)], Sl.fresh _ _ _ 3 _ rfl rfl, ?_, ?_⟩ hR hR.size
              · intro p hp
                simp at hp
                have hb' : Below wy.heap.size wy (wy.alloc (.cells #[.slice none k c, .slice (some ⟨g4, 0, none⟩) 1 1, .slice none 0 (c - k)] 34)) := (Below.refl _ _).alloc (Nat.le_refl _) _
                rcases hp with rfl | rfl | rfl
                · exact (((HRX.out.below hR).take k (by omega) c).below hb')
                · exact (RowROk.one hc4).below hb'
                · exact (HR7.out _ hR).below hb'
              · show rs.take k ++ ([r] ++ (rs.drop k ++ [])) = insR rs r
                rw [HI.out]; simp
            · obtain ⟨g8, hx8, rows, hS, hok, hall⟩ := hd
              rw [hx8]
              go_simp
              go_at_call 64
              refine (concat_any _ 3 3 rows wy hS (by decide) hok (by rw [hall, HLI.out, HL.out]; omega)).mono ?_
              rintro e w2 ⟨v, rfl, ho⟩
              rw [hall, HLI.out, HL.out] at ho
              exact next_call _ rfl (ho.out hR.size hR) hR hR.size ho.bel
            · have hd9 : ownW 4 wx.heap.size wx (k + 1) (flatR (insR rs r)) (y 9) wy := by first | exact hd | exact hd.1
              go_simp; exact next_same _ rfl hd9 hR
            · go_simp; exact next_same _ rfl rfl hR
          · intro y wy hR hy
            obtain ⟨-, -, -, -, -, -, -, -, -, -, ho, h11, -⟩ := hy
            have h11 : y 11 = .nilIface := h11
            unfold ownW at ho
            obtain ⟨AF, cF, hF, -, -, -⟩ := ho.slice
            have HF := Lib.hid (ho.out HBX.out.size HBX.out)
            rw [hF] at HF
            rw [hF, h11]
            clear ho hF h11 hR
            go_wp2_with fail
            refine bodyPost_ret (v := .tuple #[.slice AF (k + 1) cF, .nilIface]) (by simp [results, Tryd.results40, go_sem]) rfl ⟨_, rfl, HF.out⟩
        | some a =>
          rcases Nat.eq_zero_or_pos k with hk0 | hk0
          · have HK0 := Lib.hid hk0
            go_upto_region 6 with fail
            have HI := Lib.hid (insR_at HK.out HE.out)
            have HLI := Lib.hid (insR_len rs r)
            have HCX := Lib.hid (HC1.out.below HB2.out)
            have HRX := Lib.hid (HR1.out.below HB2.out)
            have HBX := Lib.hid (below_trans HB1.out HB1.out.size HB2.out)
            obtain ⟨A7, hA7⟩ : ∃ A7 : Option Addr, (if c = k then some a else some (a.add (k * 4))) = A7 := ⟨_, rfl⟩
            have HR7 : Hid (∀ wy, Below wx.heap.size wx wy → RowROk wy (A7, 0, c - k, rs.drop k)) := Lib.hid (fun wy hb => by
              have hd : rs.drop k = [] := List.drop_eq_nil_of_le (by have := HL.out; omega)
              rw [hd]; exact RowROk.nothing _ _ _)
            have hkc : k ≤ c := by omega
            have hkci : (k : Int) ≤ c := by omega
            clear hk0

            refine wp_region_goesG data_follows (fun x => by simp [putsF, Act.put]; rfl) wx.heap.size wx
              [isV (.slice (some a) k c), isV (.int .i64 (k : Nat)), isV (.slice (some a) k c), isV (.agg #[.string r.1, .int .u16 r.2.1, .int .u32 r.2.2.1, .string r.2.2.2]), litW 1 (recCells r), isV (.slice (some a) k c), isV (.int .i64 (k : Nat)), isV (.slice A7 0 (c - k)), joinW (insR rs r), ownW 4 wx.heap.size wx (k + 1) (flatR (insR rs r)), ownW 4 wx.heap.size wx (k + 1) (flatR (insR rs r)), isV .nilIface]
              (by kernel_rfl) (by kernel_rfl) (by kernel_rfl) rfl ?_ (Below.refl _ _) ?_ ?_
            · repeat (first | exact trivial | refine ⟨by first | exact isV_stays _ | exact litW_stays _ _ | exact joinW_stays _ | exact ownW_stays _ _ _ _ _, ?_⟩)
            · refine ⟨?_, ?_, ?_, ?_, ?_, ?_, ?_, ?_, ?_, ?_, ?_, ?_, trivial⟩
              all_goals
                intro y wy hR hd
                refine ⟨fun _ => ?_, fun hX => by simp at hX⟩
                simp at hd ⊢
              · go_simp; exact next_same _ rfl rfl hR
              · go_simp; exact next_same _ rfl rfl hR
              · obtain ⟨hd0, hd1⟩ := hd; go_simp; exact next_same _ rfl rfl hR
              · have hc := HCX.out.below hR
                have c0 := hc.get 0 _
                have c1 := hc.get 1 _
                have c2 := hc.get 2 _
                have c3 := hc.get 3 _
                clear hc
                go_simp; exact next_same _ rfl rfl hR
              · go_simp; exact next_alloc _ _ rfl (litW_new 1 _ _ _ _) hR hR.size
              · go_simp; exact next_same _ rfl rfl hR
              · go_simp; exact next_same _ rfl rfl hR
              · obtain ⟨hd0, hd1⟩ := hd; go_simp; exact next_same _ rfl rfl hR
              · obtain ⟨hd2, ⟨g4, hx4, hc4⟩, hd7⟩ := hd
                rw [hx4]
                go_simp
                refine next_alloc _ _ rfl ⟨_, rfl, [((some a), k, c, rs.take k), (some ⟨g4, 0, none⟩, 1, 1, [r]), (A7, 0, c - k, rs.drop k)], Sl.fresh _ _ _ 3 _ rfl rfl, ?_, ?_⟩ hR hR.size
                · intro p hp
                  simp at hp
                  have hb' : Below wy.heap.size wy (wy.alloc (.cells #[.slice (some a) k c, .slice (some ⟨g4, 0, none⟩) 1 1, .slice A7 0 (c - k)] 34)) := (Below.refl _ _).alloc (Nat.le_refl _) _
                  rcases hp with rfl | rfl | rfl
                  · exact (((HRX.out.below hR).take k (by omega) c).below hb')
                  · exact (RowROk.one hc4).below hb'
                  · exact (HR7.out _ hR).below hb'
                · show rs.take k ++ ([r] ++ (rs.drop k ++ [])) = insR rs r
                  rw [HI.out]; simp
              · obtain ⟨g8, hx8, rows, hS, hok, hall⟩ := hd
                rw [hx8]
                go_simp
                go_at_call 64
                refine (concat_any _ 3 3 rows wy hS (by decide) hok (by rw [hall, HLI.out, HL.out]; omega)).mono ?_
                rintro e w2 ⟨v, rfl, ho⟩
                rw [hall, HLI.out, HL.out] at ho
                exact next_call _ rfl (ho.out hR.size hR) hR hR.size ho.bel
              · have hd9 : ownW 4 wx.heap.size wx (k + 1) (flatR (insR rs r)) (y 9) wy := by first | exact hd | exact hd.1
                go_simp; exact next_same _ rfl hd9 hR
              · go_simp; exact next_same _ rfl rfl hR
            · intro y wy hR hy
              obtain ⟨-, -, -, -, -, -, -, -, -, -, ho, h11, -⟩ := hy
              have h11 : y 11 = .nilIface := h11
              unfold ownW at ho
              obtain ⟨AF, cF, hF, -, -, -⟩ := ho.slice
              have HF := Lib.hid (ho.out HBX.out.size HBX.out)
              rw [hF] at HF
              rw [hF, h11]
              clear ho hF h11 hR
              go_wp2_with fail
              refine bodyPost_ret (v := .tuple #[.slice AF (k + 1) cF, .nilIface]) (by simp [results, Tryd.results40, go_sem]) rfl ⟨_, rfl, HF.out⟩
          · obtain ⟨b, off, he, -, -⟩ := HR1.out.sl.2 hk0
            dsimp only at he
            injection he with he
            subst he
            go_upto_region 6 with fail
            have HI := Lib.hid (insR_at HK.out HE.out)
            have HLI := Lib.hid (insR_len rs r)
            have HCX := Lib.hid (HC1.out.below HB2.out)
            have HRX := Lib.hid (HR1.out.below HB2.out)
            have HBX := Lib.hid (below_trans HB1.out HB1.out.size HB2.out)
            obtain ⟨A7, hA7⟩ : ∃ A7 : Option Addr, (if c = k then some ⟨b, off, none⟩ else some ⟨b, off + k * 4, none⟩) = A7 := ⟨_, rfl⟩
            have HR7 : Hid (∀ wy, Below wx.heap.size wx wy → RowROk wy (A7, 0, c - k, rs.drop k)) := Lib.hid (fun wy hb => by
              rw [← hA7]
              by_cases hck : c = k
              · rw [if_pos hck, List.drop_eq_nil_of_le (by have := HL.out; omega)]
                exact RowROk.nothing _ _ _
              · rw [if_neg hck]
                have := (HRX.out.below hb).drop k (by omega) (c - k)
                rwa [Nat.sub_self] at this)
            have hkc : k ≤ c := by omega
            have hkci : (k : Int) ≤ c := by omega
            have hkni : (k : Int) ≤ k := by omega
            have hnci : (k : Int) ≤ c := by omega

            refine wp_region_goesG data_follows (fun x => by simp [putsF, Act.put]; rfl) wx.heap.size wx
              [isV (.slice (some ⟨b, off, none⟩) k c), isV (.int .i64 (k : Nat)), isV (.slice (some ⟨b, off, none⟩) k c), isV (.agg #[.string r.1, .int .u16 r.2.1, .int .u32 r.2.2.1, .string r.2.2.2]), litW 1 (recCells r), isV (.slice (some ⟨b, off, none⟩) k c), isV (.int .i64 (k : Nat)), isV (.slice A7 0 (c - k)), joinW (insR rs r), ownW 4 wx.heap.size wx (k + 1) (flatR (insR rs r)), ownW 4 wx.heap.size wx (k + 1) (flatR (insR rs r)), isV .nilIface]
              (by kernel_rfl) (by kernel_rfl) (by kernel_rfl) rfl ?_ (Below.refl _ _) ?_ ?_
            · repeat (first | exact trivial | refine ⟨by first | exact isV_stays _ | exact litW_stays _ _ | exact joinW_stays _ | exact ownW_stays _ _ _ _ _, ?_⟩)
            · refine ⟨?_, ?_, ?_, ?_, ?_, ?_, ?_, ?_, ?_, ?_, ?_, ?_, trivial⟩
              all_goals
                intro y wy hR hd
                refine ⟨fun _ => ?_, fun hX => by simp at hX⟩
                simp at hd ⊢
              · go_simp; exact next_same _ rfl rfl hR
              · go_simp; exact next_same _ rfl rfl hR
              · obtain ⟨hd0, hd1⟩ := hd; go_simp; exact next_same _ rfl rfl hR
              · have hc := HCX.out.below hR
                have c0 := hc.get 0 _
                have c1 := hc.get 1 _
                have c2 := hc.get 2 _
                have c3 := hc.get 3 _
                clear hc
                go_simp; exact next_same _ rfl rfl hR
              · go_simp; exact next_alloc _ _ rfl (litW_new 1 _ _ _ _) hR hR.size
              · go_simp; exact next_same _ rfl rfl hR
              · go_simp; exact next_same _ rfl rfl hR
              · obtain ⟨hd0, hd1⟩ := hd; go_simp; exact next_same _ rfl rfl hR
              · obtain ⟨hd2, ⟨g4, hx4, hc4⟩, hd7⟩ := hd
                rw [hx4]
                go_simp
                refine next_alloc _ _ rfl ⟨_, rfl, [((some ⟨b, off, none⟩), k, c, rs.take k), (some ⟨g4, 0, none⟩, 1, 1, [r]), (A7, 0, c - k, rs.drop k)], Sl.fresh _ _ _ 3 _ rfl rfl, ?_, ?_⟩ hR hR.size
                · intro p hp
                  simp at hp
                  have hb' : Below wy.heap.size wy (wy.alloc (.cells #[.slice (some ⟨b, off, none⟩) k c, .slice (some ⟨g4, 0, none⟩) 1 1, .slice A7 0 (c - k)] 34)) := (Below.refl _ _).alloc (Nat.le_refl _) _
                  rcases hp with rfl | rfl | rfl
                  · exact (((HRX.out.below hR).take k (by omega) c).below hb')
                  · exact (RowROk.one hc4).below hb'
                  · exact (HR7.out _ hR).below hb'
                · show rs.take k ++ ([r] ++ (rs.drop k ++ [])) = insR rs r
                  rw [HI.out]; simp
              · obtain ⟨g8, hx8, rows, hS, hok, hall⟩ := hd
                rw [hx8]
                go_simp
                go_at_call 64
                refine (concat_any _ 3 3 rows wy hS (by decide) hok (by rw [hall, HLI.out, HL.out]; omega)).mono ?_
                rintro e w2 ⟨v, rfl, ho⟩
                rw [hall, HLI.out, HL.out] at ho
                exact next_call _ rfl (ho.out hR.size hR) hR hR.size ho.bel
              · have hd9 : ownW 4 wx.heap.size wx (k + 1) (flatR (insR rs r)) (y 9) wy := by first | exact hd | exact hd.1
                go_simp; exact next_same _ rfl hd9 hR
              · go_simp; exact next_same _ rfl rfl hR
            · intro y wy hR hy
              obtain ⟨-, -, -, -, -, -, -, -, -, -, ho, h11, -⟩ := hy
              have h11 : y 11 = .nilIface := h11
              unfold ownW at ho
              obtain ⟨AF, cF, hF, -, -, -⟩ := ho.slice
              have HF := Lib.hid (ho.out HBX.out.size HBX.out)
              rw [hF] at HF
              rw [hF, h11]
              clear ho hF h11 hR
              go_wp2_with fail
              refine bodyPost_ret (v := .tuple #[.slice AF (k + 1) cF, .nilIface]) (by simp [results, Tryd.results40, go_sem]) rfl ⟨_, rfl, HF.out⟩
end Go.Proofs.YteaeplceahdioaaDoor
namespace Go.Proofs.YteaeplceahdioaaDoor
open Go.RowKit
set_option linter.unusedVariables false
set_option linter.unusedSimpArgs false
set_option maxRecDepth 20000
attribute [local simp] putsF isV wordOf Deps Region.binds Region.wanted Act.put wantedX isB
def recA8 : RecT := (⟨#[1, 97]⟩, 1, 0, ⟨#[]⟩)
def recB8 : RecT := (⟨#[1, 97]⟩, 16, 0, ⟨#[]⟩)
theorem cmp_ab : cmpR recA8 recB8 = -1 := by
  unfold cmpR
  rw [show cmpS recA8.1 recB8.1 = 0 from cmpS_is.refl _]
  rfl
theorem cmp_ba : cmpR recB8 recA8 = 1 := by rw [cmpR_is.swap, cmp_ab]; rfl
theorem ins_ab : insR [recB8] recA8 = [recA8, recB8] := by
  unfold insR
  have : lowB recA8 recB8 = false := by unfold lowB; rw [cmp_ba]; rfl
  simp [this]
theorem ab_ne : recA8 ∉ [recB8] := by
  intro h
  have h : recA8 = recB8 := by simpa using h
  have := cmp_ab
  rw [h, cmpR_is.refl] at this
  cases this
end Go.Proofs.YteaeplceahdioaaDoor
namespace Go.Proofs.YteaeplceahdioaaDoor
open Go.RowKit
set_option linter.unusedVariables false
set_option linter.unusedSimpArgs false
set_option maxRecDepth 20000
/-- How many bytes records take. -/
def sizeR (rs : List RecT) : Nat := (rs.map fun r => 10 + r.1.size + r.2.2.2.size).sum
theorem sizeR_next {rs : List RecT} {k : Nat} {r : RecT} (h : rs[k]? = some r) : sizeR (rs.take (k + 1)) = sizeR (rs.take k) + (10 + r.1.size + r.2.2.2.size) := by
  unfold sizeR; rw [List.take_add_one, h]; simp
theorem sizeR_le (rs : List RecT) (k : Nat) : sizeR (rs.take k) ≤ sizeR rs := by
  have h : sizeR rs = sizeR (rs.take k) + sizeR (rs.drop k) := by
    unfold sizeR; rw [← List.sum_append, ← List.map_append, List.take_append_drop]
  omega
set_option maxHeartbeats 1600000 in
theorem size_any (A : Option Addr) (n c : Nat) (rs : List RecT) (w : World) (h : Recs w A rs) (hl : rs.length = n) (hn : n ≤ maxLen) (hs : sizeR rs ≤ 1000000000000) :
    Calls Tryd.prog 24 #[.slice A n c] w fun e w' => e = .returned (.int .i64 (sizeR rs : Nat)) ∧ Below w.heap.size w w' := by
  unfold maxLen at hn
  have H := Lib.hid h
  have HL := Lib.hid hl
  have HS := Lib.hid hs
  clear h hl hs
  go_enter Tryd.func24, Tryd.ntmps24
  go_wp2_with fail
  go_loopw [3, 8] (fun s i wr => ∃ k m : Nat, k ≤ n ∧ i = .int .i64 k ∧ s = .int .i64 m ∧ Hid (m = sizeR (rs.take k)) ∧ Hid (Below w.heap.size w wr)) (fun _ i _ => n - (intOf i).toNat)
  case atStart => exact ⟨0, 0, Nat.zero_le _, rfl, rfl, Lib.hid (by simp [sizeR]), Lib.hid (Below.refl _ _)⟩
  case round =>
    obtain ⟨k, m, hk, rfl, rfl, HM, HB⟩ := hrel
    by_cases hlt : k < n
    · have hlt' : (k : Int) < n := by omega
      obtain ⟨r, hr⟩ : ∃ q, rs[k]? = some q := ⟨_, List.getElem?_eq_getElem (by rw [HL.out]; exact hlt)⟩
      obtain ⟨b, off, rfl, hb, z0, z1, z2, z3⟩ := (H.out.below HB.out) k _ hr
      have hnx := sizeR_next hr
      have hle := sizeR_le rs (k + 1)
      have hm := HM.out
      have hs := HS.out
      obtain ⟨M, hM⟩ : ∃ M : Nat, M = m + (10 + r.1.size + r.2.2.2.size) := ⟨_, rfl⟩
      have HM2 : Hid (M = sizeR (rs.take (k + 1))) := Lib.hid (by rw [hnx, hM, hm])
      have hb1 : M ≤ 1000000000000 := by omega
      have hb2 : (r.1.size : Int) ≤ 1000000000000 := by omega
      have hb3 : (r.2.2.2.size : Int) ≤ 1000000000000 := by omega
      have hsum : (m : Int) + (10 + (r.1.size : Int) + (r.2.2.2.size : Int)) = (M : Int) := by omega
      have hmi : (m : Int) ≤ 1000000000000 := by omega
      clear hr hnx hle hm hs hM
      go_wp2_with fail
      go_round
      case rel => exact ⟨k + 1, M, by omega, by go_num, by first | rfl | (rw [hsum]), HM2, Lib.hid (HB.out.alloc HB.out.size _)⟩
      case measure => simp [intOf]; omega
    · have hlt' : ¬ (k : Int) < n := by omega
      go_wp2_with fail
      go_ret
      exact ⟨by rw [HM.out, List.take_of_length_le (by rw [HL.out]; omega)]; rfl, HB.out⟩
def fitsR (n s : Nat) : Bool := decide (n ≤ 256) && decide (s ≤ 16384)
theorem fits_any (A : Option Addr) (n c : Nat) (rs : List RecT) (w : World) (h : Recs w A rs) (hl : rs.length = n) (hn : n ≤ maxLen) (hs : sizeR rs ≤ 1000000000000) :
    Calls Tryd.prog 34 #[.slice A n c] w fun e w' => e = .returned (.bool (fitsR n (sizeR rs))) ∧ Below w.heap.size w w' := by
  have SZ := Lib.hid (fun w h => size_any A n c rs w h hl hn hs)
  have H := Lib.hid h
  obtain ⟨S, hS⟩ : ∃ S, sizeR rs = S := ⟨_, rfl⟩
  rw [hS] at SZ hs ⊢
  unfold maxLen at hn
  clear h hl hS
  by_cases h1 : n ≤ 256
  · have h1i : (n : Int) ≤ 256 := by omega
    have h1d : decide ((n : Int) ≤ 256) = true := by simpa using h1i
    by_cases h2 : S ≤ 16384
    · have h2i : (S : Int) ≤ 16384 := by omega
      have h2d : decide ((S : Int) ≤ 16384) = true := by simpa using h2i
      have HF : Hid (fitsR n S = true) := Lib.hid (by simp [fitsR, h1, h2])
      rw [HF.out]
      go_enter Tryd.func34, Tryd.ntmps34
      go_wp2_with fail
      refine (SZ.out _ H.out).mono ?_
      rintro e w1 ⟨rfl, hb⟩
      have HB := Lib.hid hb
      clear hb
      go_wp2_with fail
      go_ret
      exact ⟨rfl, HB.out⟩
    · have h2i : ¬ (S : Int) ≤ 16384 := by omega
      have h2d : decide ((S : Int) ≤ 16384) = false := by simpa using h2i
      have HF : Hid (fitsR n S = false) := Lib.hid (by simp [fitsR, h1]; omega)
      rw [HF.out]
      go_enter Tryd.func34, Tryd.ntmps34
      go_wp2_with fail
      refine (SZ.out _ H.out).mono ?_
      rintro e w1 ⟨rfl, hb⟩
      have HB := Lib.hid hb
      clear hb
      go_wp2_with fail
      go_ret
      exact ⟨rfl, HB.out⟩
  · have h1i : ¬ (n : Int) ≤ 256 := by omega
    have h1d : decide ((n : Int) ≤ 256) = false := by simpa using h1i
    have HF : Hid (fitsR n S = false) := Lib.hid (by simp [fitsR]; omega)
    rw [HF.out]
    go_enter Tryd.func34, Tryd.ntmps34
    go_wp2_with fail
    go_ret
    exact ⟨rfl, Below.refl _ _⟩
def nameB (s : ByteArray) (r : RecT) : Bool := r.1.toList == s.toList
def atR (rs : List RecT) (s : ByteArray) : List RecT := rs.filter (nameB s)
theorem atR_yes {rs : List RecT} {s : ByteArray} {k : Nat} {r : RecT} (hr : rs[k]? = some r) (hb : nameB s r = true) : atR (rs.take (k + 1)) s = atR (rs.take k) s ++ [r] := by
  unfold atR; rw [List.take_add_one, hr]; simp [List.filter_append, hb]
theorem atR_no {rs : List RecT} {s : ByteArray} {k : Nat} {r : RecT} (hr : rs[k]? = some r) (hb : nameB s r = false) : atR (rs.take (k + 1)) s = atR (rs.take k) s := by
  unfold atR; rw [List.take_add_one, hr]; simp [List.filter_append, hb]
theorem atR_le (rs : List RecT) (s : ByteArray) (k : Nat) : (atR (rs.take k) s).length ≤ rs.length := by
  unfold atR
  have h1 := List.length_filter_le (nameB s) (rs.take k)
  have h2 := List.length_take_le k rs
  simp at h1
  omega
theorem src_one' {w : World} {ts : TypeId} (hts : Tryd.prog.underlying ts = some (.slice 32)) (r : RecT) :
    Src Tryd.prog 4 ts (.slice (some ⟨w.heap.size, 0, none⟩) 1 1) 1 (recCells r) (w.alloc (.cells #[.string r.1, .int .u16 r.2.1, .int .u32 r.2.2.1, .string r.2.2.2] 32)) := by
  refine Src.ofSlice _ hts _ 1 1 _ rfl ?_ ?_
  · exact news_at w #[.string r.1, .int .u16 r.2.1, .int .u32 r.2.2.1, .string r.2.2.2] _
  · intro u hu
    unfold recCells at hu
    simp at hu
    rcases hu with rfl | rfl | rfl | rfl <;> rfl
end Go.Proofs.YteaeplceahdioaaDoor
namespace Go.Proofs.YteaeplceahdioaaDoor
open Go.RowKit
set_option linter.unusedVariables false
set_option linter.unusedSimpArgs false
set_option maxRecDepth 20000
attribute [local simp] putsF isV wordOf Deps Region.binds Region.wanted Act.put wantedX isB
/-- What tells two strings apart, or not. -/
theorem cmpS_facts (s t : ByteArray) : (cmpS s t = 0 ∧ (s.toList == t.toList) = true) ∨ (cmpS s t = -1 ∧ (s.toList == t.toList) = false ∧ Op.bytesLess s.toList t.toList = true) ∨ (cmpS s t = 1 ∧ (s.toList == t.toList) = false ∧ Op.bytesLess s.toList t.toList = false) := by
  have hl := less_cmpB s.toList t.toList
  have hz := cmpB_zero s.toList t.toList
  have hr := cmpB_range s.toList t.toList
  unfold cmpS
  rcases hr with h | h | h
  · right; left
    refine ⟨h, ?_, by rw [hl, h]; rfl⟩
    rw [beq_eq_false_iff_ne]; intro e; rw [hz.2 e] at h; cases h
  · left; exact ⟨h, by rw [beq_iff_eq]; exact hz.1 h⟩
  · right; right
    refine ⟨h, ?_, by rw [hl, h]; rfl⟩
    rw [beq_eq_false_iff_ne]; intro e; rw [hz.2 e] at h; cases h
theorem cmpI_facts (a b : Int) : (cmpI a b = 0 ∧ (a != b) = false) ∨ (cmpI a b = -1 ∧ (a != b) = true ∧ a < b) ∨ (cmpI a b = 1 ∧ (a != b) = true ∧ ¬ a < b) := by
  unfold cmpI
  by_cases h1 : a < b
  · right; left; exact ⟨by simp [h1], by simp; omega, h1⟩
  · by_cases h2 : b < a
    · right; right; exact ⟨by simp [h1, h2], by simp; omega, h1⟩
    · left; exact ⟨by simp [h1, h2], by simp; omega⟩
set_option maxHeartbeats 3200000 in
theorem compare8_any (r r' : RecT) (w : World) : Calls Tryd.prog 30 #[recV r, recV r'] w fun e w' => e = .returned (.int .i64 (cmpR r r')) ∧ Below w.heap.size w w' := by
  obtain ⟨q, hq⟩ : ∃ q, eqB r r' = q := ⟨_, rfl⟩
  have hnq := fun w => rec_eql r r' w
  rw [hq] at hnq
  have hqz : q = true ↔ cmpR r r' = 0 := by rw [← hq, eqB_iff, cmpR_is.zero]
  have hC : cmpR r r' = thenC (cmpS r.1 r'.1) (thenC (cmpI r.2.1 r'.2.1) (thenC (cmpS r.2.2.2 r'.2.2.2) (cmpI r.2.2.1 r'.2.2.1))) := rfl
  have f0 := cmpS_facts r.1 r'.1
  have f1 := cmpI_facts r.2.1 r'.2.1
  have f2 := cmpS_facts r.2.2.2 r'.2.2.2
  have f3 := cmpI_facts r.2.2.1 r'.2.2.1
  obtain ⟨C, hCC⟩ : ∃ C, cmpR r r' = C := ⟨_, rfl⟩
  rw [hCC] at hqz hC ⊢
  unfold recV at hnq ⊢
  clear hCC hq
  rcases f0 with ⟨e0, n0⟩ | ⟨e0, n0, l0⟩ | ⟨e0, n0, l0⟩
  · rcases f1 with ⟨e1, n1⟩ | ⟨e1, n1, l1⟩ | ⟨e1, n1, l1⟩
    · rcases f2 with ⟨e2, n2⟩ | ⟨e2, n2, l2⟩ | ⟨e2, n2, l2⟩
      · rcases f3 with ⟨e3, n3⟩ | ⟨e3, n3, l3⟩ | ⟨e3, n3, l3⟩
        · obtain rfl : C = 0 := by rw [hC]; simp [thenC, e0, e1, e2, e3]
          obtain rfl : q = true := by exact hqz.2 rfl
          clear hC hqz e0 e1 e2 e3
          go_enter Tryd.func30, Tryd.ntmps30
          go_wp2_with fail
          go_ret
          exact ⟨rfl, ((Below.refl _ _).alloc (Nat.le_refl _) _).alloc (by simp) _⟩
        · obtain rfl : C = -1 := by rw [hC]; simp [thenC, e0, e1, e2, e3]
          obtain rfl : q = false := by cases q with | false => rfl | true => exact absurd (hqz.1 rfl) (by decide)
          clear hC hqz e0 e1 e2 e3
          go_enter Tryd.func30, Tryd.ntmps30
          go_wp2_with fail
          go_ret
          exact ⟨rfl, ((Below.refl _ _).alloc (Nat.le_refl _) _).alloc (by simp) _⟩
        · obtain rfl : C = 1 := by rw [hC]; simp [thenC, e0, e1, e2, e3]
          obtain rfl : q = false := by cases q with | false => rfl | true => exact absurd (hqz.1 rfl) (by decide)
          clear hC hqz e0 e1 e2 e3
          go_enter Tryd.func30, Tryd.ntmps30
          go_wp2_with fail
          go_ret
          exact ⟨rfl, ((Below.refl _ _).alloc (Nat.le_refl _) _).alloc (by simp) _⟩
      · obtain rfl : C = -1 := by rw [hC]; simp [thenC, e0, e1, e2]
        obtain rfl : q = false := by cases q with | false => rfl | true => exact absurd (hqz.1 rfl) (by decide)
        clear hC hqz e0 e1 e2
        go_enter Tryd.func30, Tryd.ntmps30
        go_wp2_with fail
        go_ret
        exact ⟨rfl, ((Below.refl _ _).alloc (Nat.le_refl _) _).alloc (by simp) _⟩
      · obtain rfl : C = 1 := by rw [hC]; simp [thenC, e0, e1, e2]
        obtain rfl : q = false := by cases q with | false => rfl | true => exact absurd (hqz.1 rfl) (by decide)
        clear hC hqz e0 e1 e2
        go_enter Tryd.func30, Tryd.ntmps30
        go_wp2_with fail
        go_ret
        exact ⟨rfl, ((Below.refl _ _).alloc (Nat.le_refl _) _).alloc (by simp) _⟩
    · obtain rfl : C = -1 := by rw [hC]; simp [thenC, e0, e1]
      obtain rfl : q = false := by cases q with | false => rfl | true => exact absurd (hqz.1 rfl) (by decide)
      clear hC hqz e0 e1
      go_enter Tryd.func30, Tryd.ntmps30
      go_wp2_with fail
      go_ret
      exact ⟨rfl, ((Below.refl _ _).alloc (Nat.le_refl _) _).alloc (by simp) _⟩
    · obtain rfl : C = 1 := by rw [hC]; simp [thenC, e0, e1]
      obtain rfl : q = false := by cases q with | false => rfl | true => exact absurd (hqz.1 rfl) (by decide)
      clear hC hqz e0 e1
      go_enter Tryd.func30, Tryd.ntmps30
      go_wp2_with fail
      go_ret
      exact ⟨rfl, ((Below.refl _ _).alloc (Nat.le_refl _) _).alloc (by simp) _⟩
  · obtain rfl : C = -1 := by rw [hC]; simp [thenC, e0]
    obtain rfl : q = false := by cases q with | false => rfl | true => exact absurd (hqz.1 rfl) (by decide)
    clear hC hqz e0
    go_enter Tryd.func30, Tryd.ntmps30
    go_wp2_with fail
    go_ret
    exact ⟨rfl, ((Below.refl _ _).alloc (Nat.le_refl _) _).alloc (by simp) _⟩
  · obtain rfl : C = 1 := by rw [hC]; simp [thenC, e0]
    obtain rfl : q = false := by cases q with | false => rfl | true => exact absurd (hqz.1 rfl) (by decide)
    clear hC hqz e0
    go_enter Tryd.func30, Tryd.ntmps30
    go_wp2_with fail
    go_ret
    exact ⟨rfl, ((Below.refl _ _).alloc (Nat.le_refl _) _).alloc (by simp) _⟩
end Go.Proofs.YteaeplceahdioaaDoor
namespace Go.Proofs.YteaeplceahdioaaDoor
open Go.RowKit
set_option linter.unusedVariables false
section
variable {P : Program} {ops : Array Oper} {Q : Exit → Act → World → Prop}
/-- A region that draws its order, by one word on all that has been done: which operations, what their slots hold, and the world. -/
theorem wp_region_jointH {id : Nat} {base : Act} {w0 : World} (hm : P.follows .mixedOrders = true) (J : (Nat → Bool) → (Nat → Value) → World → Prop)
    (hn : noTwice (ops.toList.map (·.dst)) = true) (hwf : wellFormed ops = true)
    (start : J (fun _ => false) (held base (ops.toList.map (·.dst))) w0.drew)
    (steps : ∀ i (hi : i < ops.size) (d : Nat → Bool) (x : Nat → Value) (w : World), J d x w → d i = false → (∀ e ∈ (ops[i]).after.toList, Region.binds .any e = true → d e.on = true) →
      if Region.wanted ops[i] (yielded ops (putsF x 0 (ops.toList.map (·.dst)) base).tmps) = true
      then Oper.wp P ops[i] (putsF x 0 (ops.toList.map (·.dst)) base) w (fun a' w' => ∃ v, a' = (putsF x 0 (ops.toList.map (·.dst)) base).put (ops[i]).dst v ∧ J (fun j => if j = i then true else d j) (fun j => if j = i then v else x j) w') Q
      else J (fun j => if j = i then true else d j) (fun j => if j = i then undef else x j) w)
    (fin : ∀ (d : Nat → Bool) (x : Nat → Value) (w : World), (∀ i, i < ops.size → d i = true) → J d x w → Q .normal (putsF x 0 (ops.toList.map (·.dst)) base) w) :
    (Code.region id ops true).wp P Q base w0 := by
  -- if nothing is ready all has come up
  have hall : ∀ listed : Array Bool, listed.size = ops.size → Region.ready .any ops listed = [] → ∀ i, i < ops.size → listed.getD i false = true := by
    intro listed hs hr i
    induction i using Nat.strongRecOn with
    | _ i ih =>
      intro hi
      cases hli : listed.getD i false with
      | true => rfl
      | false =>
        exfalso
        have hmem : i ∈ Region.ready .any ops listed := by
          unfold Region.ready
          rw [List.mem_filter]
          refine ⟨by simpa using hi, ?_⟩
          have hd : listed.getD i true = false := by
            simp [Array.getD, hs, hi] at hli ⊢; exact hli
          rw [hd]
          simp only [Bool.not_false, Bool.true_and, Array.getElem?_eq_getElem hi, Option.map_some, Option.getD_some]
          rw [Array.all_eq_true']
          intro e he
          by_cases hb : Region.binds .any e = true
          · have hlt : e.on < i := by
              unfold wellFormed at hwf
              rw [List.all_eq_true] at hwf
              have := hwf (ops[i], i) (by rw [List.mem_zipIdx_iff_getElem?]; simp [hi])
              simp only [Array.all_eq_true'] at this
              have := this e he
              simpa [hb] using this
            simp [hb, ih e.on hlt (by omega)]
          · simp [hb]
        rw [hr] at hmem
        cases hmem
  have main : ∀ (fuel : Nat) (listed : Array Bool) (x : Nat → Value) (w : World), listed.size = ops.size → (List.range ops.size).countP (fun i => !listed.getD i false) ≤ fuel →
      J (fun i => listed.getD i false) x w → wpAny P .any ops Q fuel listed (putsF x 0 (ops.toList.map (·.dst)) base) w := by
    intro fuel
    have hfin : ∀ (listed : Array Bool) (x : Nat → Value) (w : World), listed.size = ops.size → J (fun i => listed.getD i false) x w → Region.ready .any ops listed = [] → Q .normal (putsF x 0 (ops.toList.map (·.dst)) base) w := by
      intro listed x w hs hJ hr
      exact fin _ x w (fun i hi => hall listed hs hr i hi) hJ
    induction fuel with
    | zero =>
      intro listed x w hs hc hJ
      have hr : Region.ready .any ops listed = [] := by
        unfold Region.ready
        rw [List.filter_eq_nil_iff]
        intro i hi
        have h0 := Nat.le_zero.1 hc
        rw [List.countP_eq_zero] at h0
        have := h0 i hi
        have hi' : i < ops.size := by simpa using hi
        simp [Array.getD, hs, hi'] at this ⊢
        simp [this]
      exact ⟨hr, hfin listed x w hs hJ hr⟩
    | succ fuel ih =>
      intro listed x w hs hc hJ
      refine ⟨hfin listed x w hs hJ, fun i hi => ?_⟩
      unfold Region.ready at hi
      rw [List.mem_filter] at hi
      obtain ⟨hir, hi2⟩ := hi
      have hio : i < ops.size := by simpa using hir
      simp only [Bool.and_eq_true, Bool.not_eq_true', Array.getElem?_eq_getElem hio, Option.map_some, Option.getD_some] at hi2
      obtain ⟨hli, haft⟩ := hi2
      have hli' : listed[i]'(by omega) = false := by simpa [Array.getD, hs, hio] using hli
      have hop := steps i hio (fun i => listed.getD i false) x w hJ (by simp [Array.getD, hs, hio, hli']) (fun e he hb => by
        rw [Array.all_eq_true'] at haft
        have := haft e (by simpa using he)
        simpa [hb] using this)
      have hds : (ops.toList.map (·.dst))[i]? = some (ops[i]).dst := by simp [hio]
      have next : ∀ v w', J (fun j => if j = i then true else listed.getD j false) (fun j => if j = i then v else x j) w' → wpAny P .any ops Q fuel (listed.setIfInBounds i true) ((putsF x 0 (ops.toList.map (·.dst)) base).put (ops[i]).dst v) w' := by
        intro v w' hJ'
        have hset := putsF_set x (ops.toList.map (·.dst)) 0 i base (ops[i]).dst v hn hds
        rw [Nat.zero_add] at hset
        rw [← hset]
        have hJ2 : J (fun j => (listed.setIfInBounds i true).getD j false) (fun j => if j = i then v else x j) w' := by
          have : (fun j => (listed.setIfInBounds i true).getD j false) = (fun j => if j = i then true else listed.getD j false) := by
            funext j; exact getD_set listed i j (by omega)
          rw [this]; exact hJ'
        refine ih _ _ w' (by simpa using hs) ?_ hJ2
        have hlt : (List.range ops.size).countP (fun j => !(listed.setIfInBounds i true).getD j false) < (List.range ops.size).countP (fun j => !listed.getD j false) := by
          have hsub : ∀ (l : List Nat), (∀ j ∈ l, j < ops.size) → l.Nodup → i ∈ l → l.countP (fun j => !(listed.setIfInBounds i true).getD j false) < l.countP (fun j => !listed.getD j false) := by
            intro l
            induction l with
            | nil => intro _ _ h; cases h
            | cons y l ihl =>
              intro hlt' hnd hmem
              have hy : y < ops.size := hlt' y (by simp)
              have heq : ∀ j, j < ops.size → (listed.setIfInBounds i true).getD j false = if j = i then true else listed.getD j false := fun j _ => getD_set listed i j (by omega)
              by_cases hyi : y = i
              · subst hyi
                have hsame : l.countP (fun j => !(listed.setIfInBounds y true).getD j false) = l.countP (fun j => !listed.getD j false) := by
                  apply List.countP_congr
                  intro j hj
                  have hne : j ≠ y := fun e => by subst e; exact (List.nodup_cons.1 hnd).1 hj
                  rw [heq j (hlt' j (by simp [hj])), if_neg hne]
                rw [List.countP_cons, List.countP_cons, hsame, heq y hy, if_pos rfl]
                have : listed.getD y false = false := by simp [Array.getD, hs, hy, hli']
                simp [this]
              · have hm' : i ∈ l := by
                  rcases List.mem_cons.1 hmem with h | h
                  · exact absurd h.symm hyi
                  · exact h
                have := ihl (fun j hj => hlt' j (by simp [hj])) (List.nodup_cons.1 hnd).2 hm'
                rw [List.countP_cons, List.countP_cons, heq y hy, if_neg hyi]
                omega
          exact hsub _ (fun j hj => by simpa using hj) List.nodup_range (by simpa using hio)
        omega
      unfold wpOp
      simp only [Array.getElem?_eq_getElem hio]
      split
      · rename_i hw
        rw [if_pos hw] at hop
        exact .inl (Oper.wp_mono (fun a' w' ⟨v, e, hv⟩ => by rw [e]; exact next v w' hv) hop)
      · rename_i hw
        rw [if_neg hw] at hop
        exact next undef w hop
  refine wp_region_any hm ?_
  have h0 := putsF_held (ops.toList.map (·.dst)) 0 base (held base (ops.toList.map (·.dst))) (fun i => by simp) hn
  rw [← h0]
  refine main ops.size _ _ _ (by simp) ?_ ?_
  · refine Nat.le_trans (List.countP_le_length ..) (by simp)
  · have : (fun i => (Array.replicate ops.size false).getD i false) = fun _ => false := by
      funext i
      simp only [Array.getD, Array.size_replicate]
      split
      · simp
      · rfl
    rw [this]; exact start
def NextXR (A : Act) (dst : Option Tmp) (Ws : List WordX) (d : Nat → Bool) (i : Nat) (x : Nat → Value) (R : (Nat → Bool) → (Nat → Value) → World → Prop) (w : World) (a' : Act) (w' : World) : Prop := ∃ v, a' = A.put dst v ∧ wordX Ws (setD d i) i v w' ∧ R (setD d i) (fun j => if j = i then v else x j) w' ∧ Goes w w'
def NextKR (A : Act) (dst : Option Tmp) (Ws : List WordX) (d : Nat → Bool) (i : Nat) (x : Nat → Value) (R : (Nat → Bool) → (Nat → Value) → World → Prop) (w : World) (a' : Act) (w' : World) : Prop := ∃ v, a' = A.put dst v ∧ wordX Ws (setD d i) i v w' ∧ R (setD d i) (fun j => if j = i then v else x j) w' ∧ KeepX d i x w w' 0 Ws
/-- An operation behind which all that was said holds still of itself. -/
def OpStepXR (P : Program) (ops : Array Oper) (Q : Exit → Act → World → Prop) (Ws : List WordX) (R : (Nat → Bool) → (Nat → Value) → World → Prop) (FF : (Nat → Value) → Act) (i : Nat) (o : Oper) : Prop :=
  ∀ (d : Nat → Bool) (x : Nat → Value) (w : World), R d x w → d i = false → SrcX ops d o → Deps (wordX Ws d) x w o.after.toList →
    (wantedX o x = true → Oper.wp P o (FF x) w (NextXR (FF x) o.dst Ws d i x R w) Q) ∧ (wantedX o x = false → wordX Ws (setD d i) i undef w ∧ R (setD d i) (fun j => if j = i then undef else x j) w)
/-- An operation of which all that was said must be shown again. -/
def OpSpecXR (P : Program) (ops : Array Oper) (Q : Exit → Act → World → Prop) (Ws : List WordX) (R : (Nat → Bool) → (Nat → Value) → World → Prop) (FF : (Nat → Value) → Act) (i : Nat) (o : Oper) : Prop :=
  ∀ (d : Nat → Bool) (x : Nat → Value) (w : World), R d x w → d i = false → ClosedX ops d → SrcX ops d o → DoneX d x w 0 Ws →
    (wantedX o x = true → Oper.wp P o (FF x) w (NextKR (FF x) o.dst Ws d i x R w) Q) ∧ (wantedX o x = false → wordX Ws (setD d i) i undef w ∧ R (setD d i) (fun j => if j = i then undef else x j) w)
def OpStepsXR (P : Program) (ops : Array Oper) (Q : Exit → Act → World → Prop) (Ws : List WordX) (R : (Nat → Bool) → (Nat → Value) → World → Prop) (FF : (Nat → Value) → Act) (sp : List Nat) : Nat → List Oper → Prop
  | _, [] => True
  | i, o :: os => (sp.contains i = false → OpStepXR P ops Q Ws R FF i o) ∧ OpStepsXR P ops Q Ws R FF sp (i + 1) os
def OpSpecsXR (P : Program) (ops : Array Oper) (Q : Exit → Act → World → Prop) (Ws : List WordX) (R : (Nat → Bool) → (Nat → Value) → World → Prop) (FF : (Nat → Value) → Act) (sp : List Nat) : Nat → List Oper → Prop
  | _, [] => True
  | i, o :: os => (sp.contains i = true → OpSpecXR P ops Q Ws R FF i o) ∧ OpSpecsXR P ops Q Ws R FF sp (i + 1) os
theorem OpStepsXR.get {Ws : List WordX} {R : (Nat → Bool) → (Nat → Value) → World → Prop} {FF : (Nat → Value) → Act} {sp : List Nat} : ∀ {l : List Oper} {k : Nat}, OpStepsXR P ops Q Ws R FF sp k l → ∀ i o, l[i]? = some o → sp.contains (k + i) = false → OpStepXR P ops Q Ws R FF (k + i) o
  | [], _, _, i, o, h, _ => by simp at h
  | p :: l, k, hs, 0, o, h, hk => by simp at h; subst h; exact hs.1 hk
  | p :: l, k, hs, i + 1, o, h, hk => by
    have := OpStepsXR.get hs.2 i o (by simpa using h) (by rwa [show k + 1 + i = k + (i + 1) by omega])
    rwa [show k + 1 + i = k + (i + 1) by omega] at this
theorem OpSpecsXR.get {Ws : List WordX} {R : (Nat → Bool) → (Nat → Value) → World → Prop} {FF : (Nat → Value) → Act} {sp : List Nat} : ∀ {l : List Oper} {k : Nat}, OpSpecsXR P ops Q Ws R FF sp k l → ∀ i o, l[i]? = some o → sp.contains (k + i) = true → OpSpecXR P ops Q Ws R FF (k + i) o
  | [], _, _, i, o, h, _ => by simp at h
  | p :: l, k, hs, 0, o, h, hk => by simp at h; subst h; exact hs.1 hk
  | p :: l, k, hs, i + 1, o, h, hk => by
    have := OpSpecsXR.get hs.2 i o (by simpa using h) (by rwa [show k + 1 + i = k + (i + 1) by omega])
    rwa [show k + 1 + i = k + (i + 1) by omega] at this
theorem wp_region_expR {id : Nat} {base : Act} {w0 : World} (hm : P.follows .mixedOrders = true) {FF : (Nat → Value) → Act} (hFF : ∀ x, putsF x 0 (ops.toList.map (·.dst)) base = FF x) (R : (Nat → Bool) → (Nat → Value) → World → Prop) (Ws : List WordX) (sp : List Nat)
    (hn : noTwice (ops.toList.map (·.dst)) = true) (hg : guardsIn ops base.tmps.size = true) (hwf : wellFormed ops = true) (hlen : Ws.length = ops.size)
    (stays : AllStaysX Ws) (start : R (fun _ => false) (held base (ops.toList.map (·.dst))) w0.drew)
    (steps : OpStepsXR P ops Q Ws R FF sp 0 ops.toList) (specs : OpSpecsXR P ops Q Ws R FF sp 0 ops.toList)
    (fin : ∀ (x : Nat → Value) (w : World) (d : Nat → Bool), (∀ i, i < ops.size → d i = true) → R d x w → AllX x w 0 Ws → Q .normal (FF x) w) :
    (Code.region id ops true).wp P Q base w0 := by
  have hword : ∀ (i : Nat) d d' v w w', wordX Ws d i v w → leD d d' → Goes w w' → wordX Ws d' i v w' := by
    intro i d d' v w w' hw hd he
    unfold wordX at hw ⊢
    cases hp : Ws[i]? with
    | none => trivial
    | some p =>
      rw [hp] at hw
      exact stays.mem p (List.mem_of_getElem? hp) _ _ _ _ _ hd he hw
  refine wp_region_jointH hm (fun d x w => R d x w ∧ (∀ i, i < ops.size → d i = true → wordX Ws d i (x i) w) ∧ ClosedX ops d) hn hwf ?_ ?_ ?_
  · exact ⟨start, by simp, fun j o _ h => by cases h⟩
  · rintro i hi d x w ⟨hR, hw, hcl⟩ hd hdeps
    have hoi : ops[i]? = some ops[i] := Array.getElem?_eq_getElem hi
    have hmem : ops[i] ∈ ops.toList := by simp
    have hlt : ∀ e ∈ (ops[i]).after.toList, Region.binds .any e = true → e.on < ops.size := by
      intro e he hb
      unfold wellFormed at hwf
      rw [List.all_eq_true] at hwf
      have := hwf (ops[i], i) (by rw [List.mem_zipIdx_iff_getElem?]; simp [hi])
      simp only [Array.all_eq_true'] at this
      have := this e (by simpa using he)
      have : e.on < i := by simpa [hb] using this
      omega
    have hwant : Region.wanted ops[i] (yielded ops (putsF x 0 (ops.toList.map (·.dst)) base).tmps) = wantedX ops[i] x := wanted_eq hn hg ops[i] hmem x
    have hset : (fun j => if j = i then true else d j) = setD d i := rfl
    have put : ∀ v w', wordX Ws (setD d i) i v w' → (∀ j, j < ops.size → j ≠ i → d j = true → wordX Ws (setD d i) j (x j) w') → ∀ j, j < ops.size → setD d i j = true → wordX Ws (setD d i) j (if j = i then v else x j) w' := by
      intro v w' hv ho j hj hdj
      by_cases hji : j = i
      · subst hji; simpa using hv
      · rw [setD_ne d hji] at hdj
        rw [if_neg hji]
        exact ho j hj hji hdj
    have hcl2 : ClosedX ops (setD d i) := by
      intro j o hj hdj e he hb
      by_cases hji : j = i
      · subst hji
        rw [hoi] at hj
        obtain rfl := Option.some.inj hj
        exact setD_le d _ _ (hdeps e he hb)
      · rw [setD_ne d hji] at hdj
        exact setD_le d _ _ (hcl j o hj hdj e he hb)
    rw [hwant, hFF x, hset]
    cases hsp : sp.contains i with
    | false =>
      have hs := OpStepsXR.get steps i ops[i] (by simp [hi]) (by rw [Nat.zero_add]; exact hsp)
      rw [Nat.zero_add] at hs
      have hs := hs d x w hR hd hdeps (Deps.of (fun e he hb => hw _ (hlt e he hb) (hdeps e he hb)))
      split
      · rename_i hwt
        refine Oper.wp_mono ?_ (hs.1 hwt)
        rintro a' w' ⟨v, rfl, hv, hR', he⟩
        exact ⟨v, rfl, hR', put v w' hv (fun j hj hji hdj => hword j d _ _ w w' (hw j hj hdj) (setD_le d i) he), hcl2⟩
      · rename_i hwt
        exact ⟨(hs.2 (by simpa using hwt)).2, put undef w (hs.2 (by simpa using hwt)).1 (fun j hj hji hdj => hword j d _ _ w w (hw j hj hdj) (setD_le d i) (Below.refl _ _)), hcl2⟩
    | true =>
      have hs := OpSpecsXR.get specs i ops[i] (by simp [hi]) (by rw [Nat.zero_add]; exact hsp)
      rw [Nat.zero_add] at hs
      have hs := hs d x w hR hd hcl hdeps (doneX_of Ws 0 (fun j _ => by simp) (fun j hj hdj => hw j (by omega) hdj))
      split
      · rename_i hwt
        refine Oper.wp_mono ?_ (hs.1 hwt)
        rintro a' w' ⟨v, rfl, hv, hR', he⟩
        refine ⟨v, rfl, hR', put v w' hv (fun j hj hji hdj => ?_), hcl2⟩
        have h0 := hw j hj hdj
        unfold wordX at h0 ⊢
        cases hp : Ws[j]? with
        | none => trivial
        | some p =>
          rw [hp] at h0
          have := he.get (Ws := Ws) j p hp
          rw [Nat.zero_add] at this
          exact this hji hdj h0
      · rename_i hwt
        exact ⟨(hs.2 (by simpa using hwt)).2, put undef w (hs.2 (by simpa using hwt)).1 (fun j hj hji hdj => hword j d _ _ w w (hw j hj hdj) (setD_le d i) (Below.refl _ _)), hcl2⟩
  · rintro d x w hall ⟨hR, hw, -⟩
    rw [hFF x]
    exact fin x w d hall hR (allX_of (d := d) stays Ws 0 (fun j _ => by simp) (fun j hj => hw j (by omega) (hall j (by omega))))
end
theorem setD_false {d : Nat → Bool} {i k : Nat} (h : setD d i k = false) : d k = false := by
  cases e : d k with
  | false => rfl
  | true => have := setD_le d i k e; rw [h] at this; cases this
theorem held_next {d : Nat → Bool} {x : Nat → Value} {i k : Nat} {v u : Value} (h : d k = false → x k = u) (hk : k ≠ i) : setD d i k = false → (if k = i then v else x k) = u := fun hf => by rw [if_neg hk]; exact h (setD_false hf)
theorem held_self {d : Nat → Bool} {x : Nat → Value} {i : Nat} {v u : Value} : setD d i i = false → (if i = i then v else x i) = u := fun hf => by rw [setD_self] at hf; cases hf
theorem nextXR {A a' : Act} {dst : Option Tmp} {Ws : List WordX} {d : Nat → Bool} {i : Nat} {x : Nat → Value} {R : (Nat → Bool) → (Nat → Value) → World → Prop} {w w' : World} (v : Value) (ha : a' = A.put dst v) (hp : wordX Ws (setD d i) i v w') (hR : R (setD d i) (fun j => if j = i then v else x j) w') (he : Goes w w') : NextXR A dst Ws d i x R w a' w' := ⟨v, ha, hp, hR, he⟩
theorem nextKR {A a' : Act} {dst : Option Tmp} {Ws : List WordX} {d : Nat → Bool} {i : Nat} {x : Nat → Value} {R : (Nat → Bool) → (Nat → Value) → World → Prop} {w w' : World} (v : Value) (ha : a' = A.put dst v) (hp : wordX Ws (setD d i) i v w') (hR : R (setD d i) (fun j => if j = i then v else x j) w') (he : KeepX d i x w w' 0 Ws) : NextKR A dst Ws d i x R w a' w' := ⟨v, ha, hp, hR, he⟩
end Go.Proofs.YteaeplceahdioaaDoor
namespace Go.Proofs.YteaeplceahdioaaDoor
open Go.RowKit
set_option linter.unusedVariables false
set_option linter.unusedSimpArgs false
set_option maxRecDepth 20000
attribute [local simp] putsF isV wordOf Deps Region.binds Region.wanted Act.put wantedX isB
/-- Records with one more, unless it is there. -/
def stepS (out : List RecT) (r : RecT) : List RecT := match out.dropWhile (lowB r) with
  | q :: _ => if eqB q r then out else insR out r
  | [] => insR out r
def sortedR (rs : List RecT) : List RecT := rs.foldl stepS []
theorem sortedR_next {rs : List RecT} {k : Nat} {r : RecT} (h : rs[k]? = some r) : sortedR (rs.take (k + 1)) = stepS (sortedR (rs.take k)) r := by
  unfold sortedR; rw [List.take_add_one, h]; simp
theorem stepS_le (out : List RecT) (r : RecT) : (stepS out r).length ≤ out.length + 1 := by
  unfold stepS
  split
  · split
    · omega
    · rw [insR_len]; exact Nat.le_refl _
  · rw [insR_len]; exact Nat.le_refl _
theorem foldl_le : ∀ (rs out : List RecT), (rs.foldl stepS out).length ≤ out.length + rs.length
  | [], out => by simp
  | r :: rs, out => by
    have h1 := foldl_le rs (stepS out r)
    have h2 := stepS_le out r
    rw [List.foldl_cons, List.length_cons]; omega
theorem sortedR_le (rs : List RecT) : (sortedR rs).length ≤ rs.length := by have := foldl_le rs []; simpa [sortedR] using this
theorem step_same {out : List RecT} {r q : RecT} {k : Nat} (h : ∀ q ∈ out.take k, lowB r q = true) (he : ∀ q, out[k]? = some q → lowB r q = false) (hq : out[k]? = some q) (hb : eqB q r = true) : stepS out r = out := by
  obtain ⟨-, h2⟩ := take_while h he
  have hk := (List.getElem?_eq_some_iff.1 hq).1
  unfold stepS
  rw [h2, List.drop_eq_getElem_cons hk]
  have e : out[k] = q := by rw [List.getElem?_eq_getElem hk] at hq; injection hq
  simp only [e, hb, if_true]
theorem step_new {out : List RecT} {r : RecT} {k : Nat} (h : ∀ q ∈ out.take k, lowB r q = true) (he : ∀ q, out[k]? = some q → lowB r q = false) (hb : ∀ q, out[k]? = some q → eqB q r = false) : stepS out r = out.take k ++ r :: out.drop k := by
  obtain ⟨-, h2⟩ := take_while h he
  unfold stepS
  rw [h2]
  cases hd : out.drop k with
  | nil =>
    dsimp only
    rw [insR_at h he, hd]
  | cons q l =>
    have hk : k < out.length := by
      rcases Nat.lt_or_ge k out.length with h | h
      · exact h
      · rw [List.drop_eq_nil_of_le h] at hd; cases hd
    rw [List.drop_eq_getElem_cons hk] at hd
    injection hd with hd1 hd2
    have := hb q (by rw [List.getElem?_eq_getElem hk, hd1])
    dsimp only
    rw [this, insR_at h he, List.drop_eq_getElem_cons hk, hd1, hd2]
    simp
theorem until_mono {k i : Nat} {p : Value → World → Prop} {d : Nat → Bool} {v : Value} {w : World} (h : until_ k p d v w) : until_ k p (setD d i) v w := fun hk => h (setD_false hk)
theorem insR_split_len {out : List RecT} {r : RecT} {k : Nat} (hk : k ≤ out.length) : (out.take k ++ r :: out.drop k).length = out.length + 1 := by
  rw [List.length_append, List.length_cons, List.length_take, List.length_drop]; omega
set_option maxHeartbeats 6400000 in
theorem sorted_any (A : Option Addr) (n c : Nat) (rs : List RecT) (w : World) (h : Recs w A rs) (hl : rs.length = n) (hn : n ≤ 100000) :
    Calls Tryd.prog 13 #[.slice A n c] w fun e w' => ∃ v, e = .returned v ∧ OBM 4 w.heap.size w v (sortedR rs).length (flatR (sortedR rs)) w' := by
  obtain ⟨i0, hi, hz0, hz1, hz2⟩ := info_parts4 rec_info
  have H := Lib.hid h
  have HL := Lib.hid hl
  clear h hl
  go_enter Tryd.func13, Tryd.ntmps13
  go_wp2_with fail
  go_loopw [3, 11] (fun v i wr => ∃ k : Nat, k ≤ n ∧ i = .int .i64 k ∧ Hid (OBM 4 w.heap.size w v (sortedR (rs.take k)).length (flatR (sortedR (rs.take k))) wr)) (fun _ i _ => n - (intOf i).toNat)
  case atStart => exact ⟨0, Nat.zero_le _, rfl, Lib.hid (by simpa [sortedR, flatR] using OBM.start (sz := 4) w)⟩
  case round =>
    obtain ⟨kk, hkk, rfl, HB⟩ := hrel
    by_cases hlt0 : kk < n
    · have hlt0' : (kk : Int) < n := by omega
      obtain ⟨r, hr⟩ : ∃ q, rs[kk]? = some q := ⟨_, List.getElem?_eq_getElem (by rw [HL.out]; exact hlt0)⟩
      obtain ⟨br, ofr, rfl, hbr, z0, z1, z2, z3⟩ := (H.out.below HB.out.bel) kk _ hr
      have HNX := Lib.hid (sortedR_next hr)
      have hle := sortedR_le (rs.take kk)
      obtain ⟨out, hout⟩ : ∃ out, sortedR (rs.take kk) = out := ⟨_, rfl⟩
      rw [hout] at HNX HB hle
      obtain ⟨M, hM⟩ : ∃ M, out.length = M := ⟨_, rfl⟩
      have hM6 : M ≤ 100000 := by rw [List.length_take] at hle; have := HL.out; omega
      rw [hM] at HB
      have HM := Lib.hid hM
      obtain ⟨AO, cO, rfl, hMc, hcm, hAO⟩ := HB.out.slice3
      obtain ⟨W1, hW1⟩ : ∃ W1, W1 = wr.alloc (.cells #[.string r.1, .int .u16 r.2.1, .int .u32 r.2.2.1, .string r.2.2.2] 32) := ⟨_, rfl⟩
      obtain ⟨g, hg⟩ : ∃ g, g = wr.heap.size := ⟨_, rfl⟩
      have hC : Cs W1 g [.string r.1, .int .u16 r.2.1, .int .u32 r.2.2.1, .string r.2.2.2] := by rw [hW1, hg]; exact Cs.new wr _ _ _
      have hbW1 : Below wr.heap.size wr W1 := by rw [hW1]; exact (Below.refl _ _).alloc (Nat.le_refl _) _
      have HW1 := Lib.hid hW1
      have HG := Lib.hid hg
      have HC1 := Lib.hid hC
      have HO1 := Lib.hid (HB.out.keep hbW1 (Nat.le_refl _))
      have HR1 : Hid (RowROk W1 (AO, M, cO, out)) := Lib.hid ⟨HO1.out.sl, fun e => hAO.elim (fun h => h.2.1) (fun ⟨g, h, _⟩ => (by dsimp only at e; rw [h] at e; cases e)), HM.out⟩
      have HB1 := Lib.hid (below_trans HB.out.bel HB.out.bel.size hbW1)
      have HAO : Hid ((AO = none ∧ M = 0 ∧ cO = 0) ∨ ∃ g, AO = some ⟨g, 0, none⟩) := Lib.hid (hAO.elim (fun h => .inl ⟨h.1, h.2.1, h.2.2⟩) (fun ⟨g, h, _⟩ => .inr ⟨g, h⟩))
      clear hr hle hout hM hW1 hg hC hbW1 hAO hcm
      go_wp2_with fail
      rw [← HW1.out, ← HG.out]
      clear z0 z1 z2 z3 hbr
      go_loopw [6] (fun i wr2 => ∃ k : Nat, k ≤ M ∧ i = .int .i64 k ∧ Hid (∀ q ∈ out.take k, lowB r q = true) ∧ Hid (Below W1.heap.size W1 wr2)) (fun i _ => M - (intOf i).toNat)
      case atStart => exact ⟨0, Nat.zero_le _, rfl, Lib.hid (by simp), Lib.hid (Below.refl _ _)⟩
      case round =>
        obtain ⟨k, hk, rfl, HK, HB2⟩ := hrel
        have HC2 := Lib.hid (HC1.out.below HB2.out)
        by_cases hlt : k < M
        · have hlt' : (k : Int) < M := by omega
          obtain ⟨q, hq⟩ : ∃ q, out[k]? = some q := ⟨_, List.getElem?_eq_getElem (by rw [HM.out]; exact hlt)⟩
          obtain ⟨b, off, he, hb, y0, y1, y2, y3⟩ := ((HR1.out.below HB2.out).sl.recs (Nat.le_refl _) HM.out) k _ hq
          dsimp only at he
          subst he
          have HZ := Lib.hid (And.intro y0 (And.intro y1 (And.intro y2 y3)))
          have HQ := Lib.hid hq
          have HHB := Lib.hid hb
          obtain ⟨m, hm⟩ : ∃ m, cmpR q r = m := ⟨_, rfl⟩
          have CM := Lib.hid (fun w => compare8_any q r w)
          rw [hm] at CM
          unfold recV at CM
          have HMM := Lib.hid hm
          clear hq hb y0 y1 y2 y3 hm
          by_cases hm0 : m < 0
          · go_upto_region 6 with fail
            refine wp_region_goesG data_follows (fun x => by simp [putsF, Act.put]; rfl) wr.heap.size wr
              [isV (.int .i64 (k : Nat)), isV (.slice (some ⟨b, off, none⟩) M cO), isV (.int .i64 (M : Nat)), isV (.bool true), isV (.bool true), isV (.slice (some ⟨b, off, none⟩) M cO), isV (.int .i64 (k : Nat)), isV (.pointer (some ⟨b, off + k * 4, none⟩)), isV (.agg #[.string q.1, .int .u16 q.2.1, .int .u32 q.2.2.1, .string q.2.2.2]), isV (.agg #[.string r.1, .int .u16 r.2.1, .int .u32 r.2.2.1, .string r.2.2.2]), isV (.int .i64 m), isV (.bool true), isV (.bool true)]
              (by kernel_rfl) (by kernel_rfl) (by kernel_rfl) rfl ?_ (Below.refl _ _) ?_ ?_
            · repeat (first | exact trivial | refine ⟨isV_stays _, ?_⟩)
            · refine ⟨?_, ?_, ?_, ?_, ?_, ?_, ?_, ?_, ?_, ?_, ?_, ?_, ?_, trivial⟩
              all_goals
                intro x wx hR hd
                simp at hd ⊢
              all_goals try simp [hd]
              · go_simp; exact next_same _ rfl rfl hR
              · go_simp; exact next_same _ rfl rfl hR
              · go_simp; exact next_same _ rfl rfl hR
              · go_simp; exact next_same _ rfl rfl hR
              · go_simp; exact next_same _ rfl rfl hR
              · go_simp; exact next_same _ rfl rfl hR
              · go_simp; exact next_same _ rfl rfl hR
              · go_simp; exact next_same _ rfl rfl hR
              · have y0 := (hR.cell (p := ⟨b, off + k * 4, none⟩) HHB.out).trans HZ.out.1
                have y1 := (hR.cell (p := ⟨b, off + k * 4 + 1, none⟩) HHB.out).trans HZ.out.2.1
                have y2 := (hR.cell (p := ⟨b, off + k * 4 + 2, none⟩) HHB.out).trans HZ.out.2.2.1
                have y3 := (hR.cell (p := ⟨b, off + k * 4 + 3, none⟩) HHB.out).trans HZ.out.2.2.2
                go_simp; exact next_same _ rfl rfl hR
              · have hc := HC2.out.below hR
                have c0 := hc.get 0 _
                have c1 := hc.get 1 _
                have c2 := hc.get 2 _
                have c3 := hc.get 3 _
                clear hc
                go_simp; exact next_same _ rfl rfl hR
              · go_simp
                go_at_call 30
                refine (CM.out wx).mono ?_
                rintro e w2 ⟨rfl, hb⟩
                exact next_call _ rfl rfl hR hR.size hb
              · go_simp; exact next_same _ rfl rfl hR
              · go_simp; exact next_same _ rfl rfl hR
            · intro x wx hR hx
              simp [AllWords] at hx
              have h12 : x 12 = .bool true := by simp [hx]
              have HB3 := Lib.hid (below_trans HB2.out HB2.out.size hR)
              rw [h12]
              clear hx
              go_wp2_with fail
              go_round
              case rel => exact ⟨k + 1, by omega, by go_num, Lib.hid (by rw [List.take_add_one, HQ.out]; intro p hp; exact (List.mem_append.1 hp).elim (fun hp => HK.out p hp) (fun hp => by simp at hp; rw [hp]; unfold lowB; rw [HMM.out]; simpa using hm0)), HB3⟩
              case measure => simp [intOf]; omega
          · have HE : Hid (∀ q, out[k]? = some q → lowB r q = false) := Lib.hid (by
              intro p hp
              rw [HQ.out] at hp
              injection hp with hp
              rw [← hp]
              unfold lowB; rw [HMM.out]; simpa using hm0)
            go_upto_region 6 with fail
            refine wp_region_goesG data_follows (fun x => by simp [putsF, Act.put]; rfl) wr.heap.size wr
              [isV (.int .i64 (k : Nat)), isV (.slice (some ⟨b, off, none⟩) M cO), isV (.int .i64 (M : Nat)), isV (.bool true), isV (.bool true), isV (.slice (some ⟨b, off, none⟩) M cO), isV (.int .i64 (k : Nat)), isV (.pointer (some ⟨b, off + k * 4, none⟩)), isV (.agg #[.string q.1, .int .u16 q.2.1, .int .u32 q.2.2.1, .string q.2.2.2]), isV (.agg #[.string r.1, .int .u16 r.2.1, .int .u32 r.2.2.1, .string r.2.2.2]), isV (.int .i64 m), isV (.bool false), isV (.bool false)]
              (by kernel_rfl) (by kernel_rfl) (by kernel_rfl) rfl ?_ (Below.refl _ _) ?_ ?_
            · repeat (first | exact trivial | refine ⟨isV_stays _, ?_⟩)
            · refine ⟨?_, ?_, ?_, ?_, ?_, ?_, ?_, ?_, ?_, ?_, ?_, ?_, ?_, trivial⟩
              all_goals
                intro x wx hR hd
                simp at hd ⊢
              all_goals try simp [hd]
              · go_simp; exact next_same _ rfl rfl hR
              · go_simp; exact next_same _ rfl rfl hR
              · go_simp; exact next_same _ rfl rfl hR
              · go_simp; exact next_same _ rfl rfl hR
              · go_simp; exact next_same _ rfl rfl hR
              · go_simp; exact next_same _ rfl rfl hR
              · go_simp; exact next_same _ rfl rfl hR
              · go_simp; exact next_same _ rfl rfl hR
              · have y0 := (hR.cell (p := ⟨b, off + k * 4, none⟩) HHB.out).trans HZ.out.1
                have y1 := (hR.cell (p := ⟨b, off + k * 4 + 1, none⟩) HHB.out).trans HZ.out.2.1
                have y2 := (hR.cell (p := ⟨b, off + k * 4 + 2, none⟩) HHB.out).trans HZ.out.2.2.1
                have y3 := (hR.cell (p := ⟨b, off + k * 4 + 3, none⟩) HHB.out).trans HZ.out.2.2.2
                go_simp; exact next_same _ rfl rfl hR
              · have hc := HC2.out.below hR
                have c0 := hc.get 0 _
                have c1 := hc.get 1 _
                have c2 := hc.get 2 _
                have c3 := hc.get 3 _
                clear hc
                go_simp; exact next_same _ rfl rfl hR
              · go_simp
                go_at_call 30
                refine (CM.out wx).mono ?_
                rintro e w2 ⟨rfl, hb⟩
                exact next_call _ rfl rfl hR hR.size hb
              · go_simp; exact next_same _ rfl rfl hR
              · go_simp; exact next_same _ rfl rfl hR
            · intro x wx hR hx
              simp [AllWords] at hx
              have h12 : x 12 = .bool false := by simp [hx]
              have HB3 := Lib.hid (below_trans HB2.out HB2.out.size hR)
              rw [h12]
              clear hx
              obtain ⟨t, ht⟩ : ∃ t, eqB q r = t := ⟨_, rfl⟩
              have EQL := Lib.hid (fun w => rec_eql q r w)
              rw [ht] at EQL
              unfold recV at EQL
              have HTT := Lib.hid ht
              have HZ := Lib.hid (And.intro ((hR.cell (p := ⟨b, off + k * 4, none⟩) HHB.out).trans HZ.out.1) (And.intro ((hR.cell (p := ⟨b, off + k * 4 + 1, none⟩) HHB.out).trans HZ.out.2.1) (And.intro ((hR.cell (p := ⟨b, off + k * 4 + 2, none⟩) HHB.out).trans HZ.out.2.2.1) ((hR.cell (p := ⟨b, off + k * 4 + 3, none⟩) HHB.out).trans HZ.out.2.2.2))))
              have HHB := Lib.hid (Nat.lt_of_lt_of_le HHB.out hR.size)
              have HC2 := Lib.hid (HC2.out.below hR)
              clear ht
              go_upto_region 8 with fail
              refine wp_region_goesG data_follows (fun x => by simp [putsF, Act.put]; rfl) wx.heap.size wx
                [isV (.int .i64 (k : Nat)), isV (.slice (some ⟨b, off, none⟩) M cO), isV (.int .i64 (M : Nat)), isV (.bool true), isV (.bool true), isV (.slice (some ⟨b, off, none⟩) M cO), isV (.int .i64 (k : Nat)), isV (.pointer (some ⟨b, off + k * 4, none⟩)), isV (.agg #[.string q.1, .int .u16 q.2.1, .int .u32 q.2.2.1, .string q.2.2.2]), isV (.agg #[.string r.1, .int .u16 r.2.1, .int .u32 r.2.2.1, .string r.2.2.2]), isV (.bool t), isV (.bool t), isV (.bool t)]
                (by kernel_rfl) (by kernel_rfl) (by kernel_rfl) rfl ?_ (Below.refl _ _) ?_ ?_
              · repeat (first | exact trivial | refine ⟨isV_stays _, ?_⟩)
              · refine ⟨?_, ?_, ?_, ?_, ?_, ?_, ?_, ?_, ?_, ?_, ?_, ?_, ?_, trivial⟩
                all_goals
                  intro x wv hR hd
                  simp at hd ⊢
                all_goals try simp [hd]
                · go_simp; exact next_same _ rfl rfl hR
                · go_simp; exact next_same _ rfl rfl hR
                · go_simp; exact next_same _ rfl rfl hR
                · go_simp; exact next_same _ rfl rfl hR
                · go_simp; exact next_same _ rfl rfl hR
                · go_simp; exact next_same _ rfl rfl hR
                · go_simp; exact next_same _ rfl rfl hR
                · go_simp; exact next_same _ rfl rfl hR
                · have y0 := (hR.cell (p := ⟨b, off + k * 4, none⟩) HHB.out).trans HZ.out.1
                  have y1 := (hR.cell (p := ⟨b, off + k * 4 + 1, none⟩) HHB.out).trans HZ.out.2.1
                  have y2 := (hR.cell (p := ⟨b, off + k * 4 + 2, none⟩) HHB.out).trans HZ.out.2.2.1
                  have y3 := (hR.cell (p := ⟨b, off + k * 4 + 3, none⟩) HHB.out).trans HZ.out.2.2.2
                  go_simp; exact next_same _ rfl rfl hR
                · have hc := HC2.out.below hR
                  have c0 := hc.get 0 _
                  have c1 := hc.get 1 _
                  have c2 := hc.get 2 _
                  have c3 := hc.get 3 _
                  clear hc
                  go_simp; exact next_same _ rfl rfl hR
                · have hnq := fun w => EQL.out w
                  go_simp; exact next_same _ rfl rfl hR
                · go_simp; exact next_same _ rfl rfl hR
                · go_simp; exact next_same _ rfl rfl hR
              · intro x8 wx8 hR8 hx8
                simp [AllWords] at hx8
                have h12 : x8 12 = .bool t := by simp [hx8]
                have HB4 := Lib.hid (below_trans HB3.out HB3.out.size hR8)
                rw [h12]
                clear hx8
                have HRX := Lib.hid (HR1.out.below HB4.out)
                have HCX := Lib.hid (HC1.out.below HB4.out)
                have HBX := Lib.hid (below_trans HB1.out HB1.out.size HB4.out)
                cases t with
                | true =>
                  have HSS := Lib.hid (step_same HK.out HE.out HQ.out HTT.out)
                  have HOX := Lib.hid (HO1.out.keep HB4.out (Nat.le_refl _))
                  go_wp2_with fail
                  go_round
                  case rel => exact ⟨kk + 1, by omega, by go_num, Lib.hid (by rw [HNX.out, HSS.out, HM.out]; exact HOX.out)⟩
                  case measure => simp [intOf]; omega
                | false =>
                  have HST := Lib.hid (step_new HK.out HE.out (fun p hp => by rw [HQ.out] at hp; injection hp with hp; rw [← hp]; exact HTT.out))
                  have HT1 : Hid (Src Tryd.prog 4 34 (.slice (some ⟨b, off, none⟩) k cO) k (flatR (out.take k)) wx8) := Lib.hid (((HRX.out.take k (by omega) cO).sl.srcM (P := Tryd.prog) (c := cO) (tx := 34) (e' := 32) (by kernel_rfl) (HRX.out.take k (by omega) cO).none_ (flatR_one _)))
                  have HT1L : Hid ((flatR (out.take k)).length = k * 4) := Lib.hid ((HRX.out.take k (by omega) cO).sl.1)
                  obtain ⟨A7, hA7⟩ : ∃ A7 : Option Addr, (if cO = k then some ⟨b, off, none⟩ else some ⟨b, off + k * 4, none⟩) = A7 := ⟨_, rfl⟩
                  have HR7 : Hid (∀ wy, Below wx8.heap.size wx8 wy → RowROk wy (A7, M - k, cO - k, out.drop k)) := Lib.hid (fun wy hb => by
                    rw [← hA7]
                    by_cases hck : cO = k
                    · rw [if_pos hck, List.drop_eq_nil_of_le (by have := HM.out; omega), show M - k = 0 by omega]
                      exact RowROk.nothing _ _ _
                    · rw [if_neg hck]
                      exact (HRX.out.below hb).drop k (by omega) _)
                  have hkc : k ≤ cO := by omega
                  have hkci : (k : Int) ≤ cO := by omega
                  have hkni : (k : Int) ≤ M := by omega
                  have hnci : (M : Int) ≤ cO := by omega
                  go_wp2_with (at_builtin; go_loud (refine wpList_append_obm rfl (.const (.slice none 0 0)) _ 34 34 rfl 32 i0 _ 40 (by kernel_rfl) hi hz0 hz1 hz2 rfl (OBM.start (sz := 4) wx8) rfl rfl HT1.out HT1L.out (by unfold maxLen; omega) (by omega) ?_))
                  intro v8 wz q1 q2 q3 q4
                  replace q1 : OBM 4 wx8.heap.size wx8 v8 k (flatR (out.take k)) wz := by simpa using q1
                  have HBZ := Lib.hid q1.bel
                  have HRZ := Lib.hid (HRX.out.below q1.bel)
                  have HCZ := Lib.hid (HCX.out.below q1.bel)
                  obtain ⟨A8, c8, rfl, -, -, -⟩ := q1.slice
                  have HO8 := Lib.hid (q1.out (Nat.le_refl _) (Below.refl _ _))
                  have hsz8 := q1.bel.size
                  clear q1 q2 q3 q4
                  go_upto_region 11 with fail
                  refine wp_region_expR data_follows (fun x => by simp [putsF, Act.put]; rfl) (fun d x v => Below wx8.heap.size wx8 v ∧ wx8.heap.size ≤ v.heap.size ∧ (d 3 = false → OBM 4 wx8.heap.size wx8 (.slice A8 k c8) k (flatR (out.take k)) v) ∧ (d 8 = false → x 8 = .slice (some ⟨b, off, none⟩) M cO))
                    [isX (.slice A8 k c8), isX (.agg #[.string r.1, .int .u16 r.2.1, .int .u32 r.2.2.1, .string r.2.2.2]), until_ 3 (litW 1 (recCells r)), until_ 7 (ownW 4 wx8.heap.size wx8 (k + 1) (flatR (out.take k ++ [r]))), isX (.slice (some ⟨b, off, none⟩) M cO), isX (.int .i64 (k : Nat)), isX (.slice A7 (M - k) (cO - k)), always (ownW 4 wx8.heap.size wx8 (M + 1) (flatR (out.take k ++ r :: out.drop k))), always (ownW 4 wx8.heap.size wx8 (M + 1) (flatR (out.take k ++ r :: out.drop k)))]
                    [3, 4, 7] (by kernel_rfl) (by kernel_rfl) (by kernel_rfl) rfl ?_ ⟨HBZ.out.drew, hsz8, fun _ => HO8.out.drewN 1, fun _ => rfl⟩ ?_ ?_ ?_
                  · repeat (first | exact trivial | refine ⟨by first | exact isX_stays _ | exact until_stays (ownW_stays _ _ _ _ _) | exact until_stays (litW_stays _ _) | exact always_stays (ownW_stays _ _ _ _ _), ?_⟩)
                  · refine ⟨?_, ?_, ?_, skipped rfl, skipped rfl, ?_, ?_, skipped rfl, ?_, trivial⟩
                    all_goals
                      intro _ d x wy hR hdi hsrc hd
                      refine ⟨fun _ => ?_, fun hX => by simp at hX⟩
                      simp [wordX, isX] at hd ⊢
                    · go_simp; exact nextXR _ rfl rfl ⟨hR.1, hR.2.1, fun h => hR.2.2.1 (setD_false h), held_next hR.2.2.2 (by decide)⟩ (Below.refl _ _)
                    · have hc := HCX.out.below hR.1
                      have c0 := hc.get 0 _
                      have c1 := hc.get 1 _
                      have c2 := hc.get 2 _
                      have c3 := hc.get 3 _
                      clear hc
                      go_simp; exact nextXR _ rfl rfl ⟨hR.1, hR.2.1, fun h => hR.2.2.1 (setD_false h), held_next hR.2.2.2 (by decide)⟩ (Below.refl _ _)
                    · go_simp; exact nextXR _ rfl (until_of (litW_new 1 _ _ _ _)) ⟨hR.1.alloc hR.2.1 _, by have := hR.2.1; simp; omega, fun h => (hR.2.2.1 (setD_false h)).alloc _, held_next hR.2.2.2 (by decide)⟩ ((Below.refl _ _).alloc (Nat.le_refl _) _)
                    · go_simp; exact nextXR _ rfl rfl ⟨hR.1, hR.2.1, fun h => hR.2.2.1 (setD_false h), held_next hR.2.2.2 (by decide)⟩ (Below.refl _ _)
                    · obtain ⟨hd0, hd1⟩ := hd; go_simp; exact nextXR _ rfl rfl ⟨hR.1, hR.2.1, fun h => hR.2.2.1 (setD_false h), held_next hR.2.2.2 (by decide)⟩ (Below.refl _ _)
                    · have hd7 : ownW 4 wx8.heap.size wx8 (M + 1) (flatR (out.take k ++ r :: out.drop k)) (x 7) wy := by first | exact hd | exact hd.1
                      go_simp; exact nextXR _ rfl hd7 ⟨hR.1, hR.2.1, fun h => hR.2.2.1 (setD_false h), held_self⟩ (Below.refl _ _)
                  · refine ⟨unskipped rfl, unskipped rfl, unskipped rfl, ?_, ?_, unskipped rfl, unskipped rfl, ?_, unskipped rfl, trivial⟩
                    · intro _ d x wy hR hdi hcl hsrc hd
                      refine ⟨fun _ => ?_, fun hX => by simp at hX⟩
                      have d0 : d 0 = true := SrcX.reach (K := 3) hcl hsrc rfl 20 0 (by decide) (by kernel_rfl)
                      have d2 : d 2 = true := SrcX.reach (K := 3) hcl hsrc rfl 20 2 (by decide) (by kernel_rfl)
                      simp only [DoneX] at hd
                      have h0 : x 0 = .slice A8 k c8 := hd.1 d0
                      obtain ⟨g2, hx2, hc2⟩ := hd.2.2.1 d2 hdi
                      have ho := hR.2.2.1 hdi
                      dsimp only
                      rw [h0, hx2]
                      refine oper_append_obk _ _ _ _ rfl 32 i0 _ 40 (by kernel_rfl) hi hz0 hz1 hz2 rfl ho rfl rfl
                        (Src.ofSlice _ (e' := 32) (by kernel_rfl) ⟨g2, 0, none⟩ 1 1 (recCells r) rfl (fun j u hu => by rw [Addr.add_lit, Nat.zero_add]; exact hc2.get j u hu) (by intro u hu; unfold recCells at hu; simp at hu; rcases hu with rfl | rfl | rfl | rfl <;> rfl)) rfl (by unfold maxLen; omega) (by omega) ?_
                      intro v' w' q1 q2 q3 q4 q5
                      rw [← flatR_snoc] at q1
                      refine nextKR v' rfl (until_of q1) ⟨q1.bel, q1.base, fun h => absurd h (by simp [setD]), held_next hR.2.2.2 (by decide)⟩ ?_
                      refine ⟨fun _ _ h => h, fun _ _ h => h, fun _ _ _ => until_self, fun h => absurd rfl h, fun _ _ h => h, fun _ _ h => h, fun _ _ h => h, fun _ h7 _ => ?_, fun _ h8 _ => ?_, trivial⟩
                      · have := hcl.reach 20 3 7 (by kernel_rfl) h7
                        rw [hdi] at this; cases this
                      · have := hcl.reach 20 3 8 (by kernel_rfl) h8
                        rw [hdi] at this; cases this
                    · intro _ d x wy hR hdi hcl hsrc hd
                      refine ⟨fun _ => ?_, fun hX => by simp at hX⟩
                      have d8 : d 8 = false := by
                        cases e : d 8 with
                        | false => rfl
                        | true => have := hcl.reach 20 4 8 (by kernel_rfl) e; rw [hdi] at this; cases this
                      have hx8 := hR.2.2.2 d8
                      dsimp only
                      rw [hx8]
                      go_simp
                      refine nextKR _ rfl rfl ⟨hR.1, hR.2.1, fun h => hR.2.2.1 (setD_false h), held_next hR.2.2.2 (by decide)⟩ ?_
                      exact ⟨fun _ _ h => h, fun _ _ h => h, fun _ _ h => until_mono h, fun _ _ h => until_mono h, fun h => absurd rfl h, fun _ _ h => h, fun _ _ h => h, fun _ _ h => h, fun _ _ h => h, trivial⟩
                    · intro _ d x wy hR hdi hcl hsrc hd
                      refine ⟨fun _ => ?_, fun hX => by simp at hX⟩
                      have d3 : d 3 = true := SrcX.reach (K := 7) hcl hsrc rfl 20 3 (by decide) (by kernel_rfl)
                      have d6 : d 6 = true := SrcX.reach (K := 7) hcl hsrc rfl 20 6 (by decide) (by kernel_rfl)
                      simp only [DoneX] at hd
                      have h6 : x 6 = .slice A7 (M - k) (cO - k) := hd.2.2.2.2.2.2.1 d6
                      have ho : OBM 4 wx8.heap.size wx8 (x 3) (k + 1) (flatR (out.take k ++ [r])) wy := hd.2.2.2.1 d3 hdi
                      have h3r := HR7.out wy hR.1
                      dsimp only
                      rw [h6]
                      refine oper_append_obk _ _ _ _ rfl 32 i0 _ 40 (by kernel_rfl) hi hz0 hz1 hz2 rfl ho rfl rfl
                        (h3r.sl.srcM (P := Tryd.prog) (e' := 32) (by kernel_rfl) h3r.none_ (flatR_one _)) h3r.sl.1 (by unfold maxLen; first | omega | (dsimp only; omega)) (by first | omega | (dsimp only; omega)) ?_
                      intro v' w' q1 q2 q3 q4 q5
                      have q1' : OBM 4 wx8.heap.size wx8 v' (M + 1) (flatR (out.take k ++ r :: out.drop k)) w' := by
                        have e1 : flatR (out.take k ++ [r]) ++ flatR (out.drop k) = flatR (out.take k ++ r :: out.drop k) := by rw [← flatR_append]; simp
                        have e2 : k + 1 + (M - k) = M + 1 := by omega
                        rw [← e1, ← e2]; exact q1
                      refine nextKR v' rfl q1' ⟨q1.bel, q1.base, fun h => absurd (setD_false h) (by rw [d3]; simp), held_next hR.2.2.2 (by decide)⟩ ?_
                      refine ⟨fun _ _ h => h, fun _ _ h => h, fun _ _ _ => until_done d3, fun _ _ _ => until_self, fun _ _ h => h, fun _ _ h => h, fun _ _ h => h, fun h => absurd rfl h, fun _ h8 _ => ?_, trivial⟩
                      have := hcl.reach 20 7 8 (by kernel_rfl) h8
                      rw [hdi] at this; cases this
                  · intro x wy d hall hR hx
                    obtain ⟨-, -, -, -, -, -, -, -, ho, -⟩ := hx
                    have ho : OBM 4 wx8.heap.size wx8 (x 8) (M + 1) (flatR (out.take k ++ r :: out.drop k)) wy := ho
                    obtain ⟨AF, cF, hF, -, -, -⟩ := ho.slice
                    have HF := Lib.hid (ho.out HBX.out.size HBX.out)
                    rw [hF] at HF ⊢
                    clear ho hF hR
                    go_wp2_with fail
                    go_round
                    case rel => exact ⟨kk + 1, by omega, by go_num, Lib.hid (by rw [HNX.out, HST.out, insR_split_len (k := k) (by have := HM.out; omega), HM.out]; exact HF.out)⟩
                    case measure => simp [intOf]; omega
        · obtain rfl : k = M := by omega
          have hlt' : ¬ (k : Int) < k := by omega
          have HNO : Hid (∀ q, out[k]? = some q → False) := Lib.hid (by
            intro p hp
            have := (List.getElem?_eq_some_iff.1 hp).1
            have := HM.out
            omega)
          have HST := Lib.hid (step_new HK.out (fun p hp => (HNO.out p hp).elim) (fun p hp => (HNO.out p hp).elim))
          rcases HAO.out with ⟨rfl, hM0, hc0⟩ | ⟨gO, rfl⟩
          · have HM0 := Lib.hid (And.intro hM0 hc0)
            clear hM0 hc0
            go_upto_region 6 with fail
            refine wp_region_goesG data_follows (fun x => by simp [putsF, Act.put]; rfl) wr.heap.size wr
              [isV (.int .i64 (k : Nat)), isV (.slice none k cO), isV (.int .i64 (k : Nat)), isV (.bool false), isV (.bool false), isV undef, isV undef, isV undef, isV undef, isV undef, isV undef, isV undef, isV (.bool false)]
              (by kernel_rfl) (by kernel_rfl) (by kernel_rfl) rfl ?_ (Below.refl _ _) ?_ ?_
            · repeat (first | exact trivial | refine ⟨isV_stays _, ?_⟩)
            · refine ⟨?_, ?_, ?_, ?_, ?_, ?_, ?_, ?_, ?_, ?_, ?_, ?_, ?_, trivial⟩
              all_goals
                intro x wx hR hd
                simp at hd ⊢
              all_goals try simp [hd]
              · go_simp; exact next_same _ rfl rfl hR
              · go_simp; exact next_same _ rfl rfl hR
              · go_simp; exact next_same _ rfl rfl hR
              · go_simp; exact next_same _ rfl rfl hR
              · go_simp; exact next_same _ rfl rfl hR
              · go_simp; exact next_same _ rfl rfl hR
            · intro x wx hR hx
              simp [AllWords] at hx
              have h12 : x 12 = .bool false := by simp [hx]
              have HB3 := Lib.hid (below_trans HB2.out HB2.out.size hR)
              rw [h12]
              clear hx
              go_upto_region 8 with fail
              refine wp_region_goesG data_follows (fun x => by simp [putsF, Act.put]; rfl) wx.heap.size wx
                [isV (.int .i64 (k : Nat)), isV (.slice none k cO), isV (.int .i64 (k : Nat)), isV (.bool false), isV (.bool false), isV undef, isV undef, isV undef, isV undef, isV undef, isV undef, isV (.bool false), isV (.bool false)]
                (by kernel_rfl) (by kernel_rfl) (by kernel_rfl) rfl ?_ (Below.refl _ _) ?_ ?_
              · repeat (first | exact trivial | refine ⟨isV_stays _, ?_⟩)
              · refine ⟨?_, ?_, ?_, ?_, ?_, ?_, ?_, ?_, ?_, ?_, ?_, ?_, ?_, trivial⟩
                all_goals
                  intro x wv hR hd
                  simp at hd ⊢
                all_goals try simp [hd]
                · go_simp; exact next_same _ rfl rfl hR
                · go_simp; exact next_same _ rfl rfl hR
                · go_simp; exact next_same _ rfl rfl hR
                · go_simp; exact next_same _ rfl rfl hR
                · go_simp; exact next_same _ rfl rfl hR
                · go_simp; exact next_same _ rfl rfl hR
                · go_simp; exact next_same _ rfl rfl hR
              · intro x8 wx8 hR8 hx8
                simp [AllWords] at hx8
                have h12 : x8 12 = .bool false := by simp [hx8]
                have HB4 := Lib.hid (below_trans HB3.out HB3.out.size hR8)
                rw [h12]
                clear hx8
                have HRX := Lib.hid (HR1.out.below HB4.out)
                have HCX := Lib.hid (HC1.out.below HB4.out)
                have HBX := Lib.hid (below_trans HB1.out HB1.out.size HB4.out)
                have HT1 : Hid (Src Tryd.prog 4 34 (.slice none k cO) k (flatR (out.take k)) wx8) := Lib.hid (((HRX.out.take k (by omega) cO).sl.srcM (P := Tryd.prog) (c := cO) (tx := 34) (e' := 32) (by kernel_rfl) (HRX.out.take k (by omega) cO).none_ (flatR_one _)))
                have HT1L : Hid ((flatR (out.take k)).length = k * 4) := Lib.hid ((HRX.out.take k (by omega) cO).sl.1)
                have HR7 : Hid (∀ wy, Below wx8.heap.size wx8 wy → RowROk wy (none, 0, cO - k, out.drop k)) := Lib.hid (fun wy hb => by
                  rw [List.drop_eq_nil_of_le (by have := HM.out; omega)]
                  exact RowROk.nothing _ _ _)
                have hkc : k ≤ cO := by omega
                have hkci : (k : Int) ≤ cO := by omega
                go_wp2_with (at_builtin; go_loud (refine wpList_append_obm rfl (.const (.slice none 0 0)) _ 34 34 rfl 32 i0 _ 40 (by kernel_rfl) hi hz0 hz1 hz2 rfl (OBM.start (sz := 4) wx8) rfl rfl HT1.out HT1L.out (by unfold maxLen; omega) (by omega) ?_))
                intro v8 wz q1 q2 q3 q4
                replace q1 : OBM 4 wx8.heap.size wx8 v8 k (flatR (out.take k)) wz := by simpa using q1
                have HBZ := Lib.hid q1.bel
                have HRZ := Lib.hid (HRX.out.below q1.bel)
                have HCZ := Lib.hid (HCX.out.below q1.bel)
                obtain ⟨A8, c8, rfl, -, -, -⟩ := q1.slice
                have HO8 := Lib.hid (q1.out (Nat.le_refl _) (Below.refl _ _))
                have hsz8 := q1.bel.size
                clear q1 q2 q3 q4
                go_upto_region 11 with fail
                refine wp_region_expR data_follows (fun x => by simp [putsF, Act.put]; rfl) (fun d x v => Below wx8.heap.size wx8 v ∧ wx8.heap.size ≤ v.heap.size ∧ (d 3 = false → OBM 4 wx8.heap.size wx8 (.slice A8 k c8) k (flatR (out.take k)) v) ∧ (d 8 = false → x 8 = .slice none k cO))
                  [isX (.slice A8 k c8), isX (.agg #[.string r.1, .int .u16 r.2.1, .int .u32 r.2.2.1, .string r.2.2.2]), until_ 3 (litW 1 (recCells r)), until_ 7 (ownW 4 wx8.heap.size wx8 (k + 1) (flatR (out.take k ++ [r]))), isX (.slice none k cO), isX (.int .i64 (k : Nat)), isX (.slice none 0 (cO - k)), always (ownW 4 wx8.heap.size wx8 (k + 1) (flatR (out.take k ++ r :: out.drop k))), always (ownW 4 wx8.heap.size wx8 (k + 1) (flatR (out.take k ++ r :: out.drop k)))]
                  [3, 4, 7] (by kernel_rfl) (by kernel_rfl) (by kernel_rfl) rfl ?_ ⟨HBZ.out.drew, hsz8, fun _ => HO8.out.drewN 1, fun _ => rfl⟩ ?_ ?_ ?_
                · repeat (first | exact trivial | refine ⟨by first | exact isX_stays _ | exact until_stays (ownW_stays _ _ _ _ _) | exact until_stays (litW_stays _ _) | exact always_stays (ownW_stays _ _ _ _ _), ?_⟩)
                · refine ⟨?_, ?_, ?_, skipped rfl, skipped rfl, ?_, ?_, skipped rfl, ?_, trivial⟩
                  all_goals
                    intro _ d x wy hR hdi hsrc hd
                    refine ⟨fun _ => ?_, fun hX => by simp at hX⟩
                    simp [wordX, isX] at hd ⊢
                  · go_simp; exact nextXR _ rfl rfl ⟨hR.1, hR.2.1, fun h => hR.2.2.1 (setD_false h), held_next hR.2.2.2 (by decide)⟩ (Below.refl _ _)
                  · have hc := HCX.out.below hR.1
                    have c0 := hc.get 0 _
                    have c1 := hc.get 1 _
                    have c2 := hc.get 2 _
                    have c3 := hc.get 3 _
                    clear hc
                    go_simp; exact nextXR _ rfl rfl ⟨hR.1, hR.2.1, fun h => hR.2.2.1 (setD_false h), held_next hR.2.2.2 (by decide)⟩ (Below.refl _ _)
                  · go_simp; exact nextXR _ rfl (until_of (litW_new 1 _ _ _ _)) ⟨hR.1.alloc hR.2.1 _, by have := hR.2.1; simp; omega, fun h => (hR.2.2.1 (setD_false h)).alloc _, held_next hR.2.2.2 (by decide)⟩ ((Below.refl _ _).alloc (Nat.le_refl _) _)
                  · go_simp; exact nextXR _ rfl rfl ⟨hR.1, hR.2.1, fun h => hR.2.2.1 (setD_false h), held_next hR.2.2.2 (by decide)⟩ (Below.refl _ _)
                  · obtain ⟨hd0, hd1⟩ := hd; go_simp; exact nextXR _ rfl rfl ⟨hR.1, hR.2.1, fun h => hR.2.2.1 (setD_false h), held_next hR.2.2.2 (by decide)⟩ (Below.refl _ _)
                  · have hd7 : ownW 4 wx8.heap.size wx8 (k + 1) (flatR (out.take k ++ r :: out.drop k)) (x 7) wy := by first | exact hd | exact hd.1
                    go_simp; exact nextXR _ rfl hd7 ⟨hR.1, hR.2.1, fun h => hR.2.2.1 (setD_false h), held_self⟩ (Below.refl _ _)
                · refine ⟨unskipped rfl, unskipped rfl, unskipped rfl, ?_, ?_, unskipped rfl, unskipped rfl, ?_, unskipped rfl, trivial⟩
                  · intro _ d x wy hR hdi hcl hsrc hd
                    refine ⟨fun _ => ?_, fun hX => by simp at hX⟩
                    have d0 : d 0 = true := SrcX.reach (K := 3) hcl hsrc rfl 20 0 (by decide) (by kernel_rfl)
                    have d2 : d 2 = true := SrcX.reach (K := 3) hcl hsrc rfl 20 2 (by decide) (by kernel_rfl)
                    simp only [DoneX] at hd
                    have h0 : x 0 = .slice A8 k c8 := hd.1 d0
                    obtain ⟨g2, hx2, hc2⟩ := hd.2.2.1 d2 hdi
                    have ho := hR.2.2.1 hdi
                    dsimp only
                    rw [h0, hx2]
                    refine oper_append_obk _ _ _ _ rfl 32 i0 _ 40 (by kernel_rfl) hi hz0 hz1 hz2 rfl ho rfl rfl
                      (Src.ofSlice _ (e' := 32) (by kernel_rfl) ⟨g2, 0, none⟩ 1 1 (recCells r) rfl (fun j u hu => by rw [Addr.add_lit, Nat.zero_add]; exact hc2.get j u hu) (by intro u hu; unfold recCells at hu; simp at hu; rcases hu with rfl | rfl | rfl | rfl <;> rfl)) rfl (by unfold maxLen; omega) (by omega) ?_
                    intro v' w' q1 q2 q3 q4 q5
                    rw [← flatR_snoc] at q1
                    refine nextKR v' rfl (until_of q1) ⟨q1.bel, q1.base, fun h => absurd h (by simp [setD]), held_next hR.2.2.2 (by decide)⟩ ?_
                    refine ⟨fun _ _ h => h, fun _ _ h => h, fun _ _ _ => until_self, fun h => absurd rfl h, fun _ _ h => h, fun _ _ h => h, fun _ _ h => h, fun _ h7 _ => ?_, fun _ h8 _ => ?_, trivial⟩
                    · have := hcl.reach 20 3 7 (by kernel_rfl) h7
                      rw [hdi] at this; cases this
                    · have := hcl.reach 20 3 8 (by kernel_rfl) h8
                      rw [hdi] at this; cases this
                  · intro _ d x wy hR hdi hcl hsrc hd
                    refine ⟨fun _ => ?_, fun hX => by simp at hX⟩
                    have d8 : d 8 = false := by
                      cases e : d 8 with
                      | false => rfl
                      | true => have := hcl.reach 20 4 8 (by kernel_rfl) e; rw [hdi] at this; cases this
                    have hx8 := hR.2.2.2 d8
                    dsimp only
                    rw [hx8]
                    go_simp
                    refine nextKR _ rfl rfl ⟨hR.1, hR.2.1, fun h => hR.2.2.1 (setD_false h), held_next hR.2.2.2 (by decide)⟩ ?_
                    exact ⟨fun _ _ h => h, fun _ _ h => h, fun _ _ h => until_mono h, fun _ _ h => until_mono h, fun h => absurd rfl h, fun _ _ h => h, fun _ _ h => h, fun _ _ h => h, fun _ _ h => h, trivial⟩
                  · intro _ d x wy hR hdi hcl hsrc hd
                    refine ⟨fun _ => ?_, fun hX => by simp at hX⟩
                    have d3 : d 3 = true := SrcX.reach (K := 7) hcl hsrc rfl 20 3 (by decide) (by kernel_rfl)
                    have d6 : d 6 = true := SrcX.reach (K := 7) hcl hsrc rfl 20 6 (by decide) (by kernel_rfl)
                    simp only [DoneX] at hd
                    have h6 : x 6 = .slice none 0 (cO - k) := hd.2.2.2.2.2.2.1 d6
                    have ho : OBM 4 wx8.heap.size wx8 (x 3) (k + 1) (flatR (out.take k ++ [r])) wy := hd.2.2.2.1 d3 hdi
                    have h3r := HR7.out wy hR.1
                    dsimp only
                    rw [h6]
                    refine oper_append_obk _ _ _ _ rfl 32 i0 _ 40 (by kernel_rfl) hi hz0 hz1 hz2 rfl ho rfl rfl
                      (h3r.sl.srcM (P := Tryd.prog) (e' := 32) (by kernel_rfl) h3r.none_ (flatR_one _)) h3r.sl.1 (by unfold maxLen; first | omega | (dsimp only; omega)) (by first | omega | (dsimp only; omega)) ?_
                    intro v' w' q1 q2 q3 q4 q5
                    have q1' : OBM 4 wx8.heap.size wx8 v' (k + 1) (flatR (out.take k ++ r :: out.drop k)) w' := by
                      have e1 : flatR (out.take k ++ [r]) ++ flatR (out.drop k) = flatR (out.take k ++ r :: out.drop k) := by rw [← flatR_append]; simp
                      have e2 : k + 1 + 0 = k + 1 := by omega
                      rw [← e1, ← e2]; exact q1
                    refine nextKR v' rfl q1' ⟨q1.bel, q1.base, fun h => absurd (setD_false h) (by rw [d3]; simp), held_next hR.2.2.2 (by decide)⟩ ?_
                    refine ⟨fun _ _ h => h, fun _ _ h => h, fun _ _ _ => until_done d3, fun _ _ _ => until_self, fun _ _ h => h, fun _ _ h => h, fun _ _ h => h, fun h => absurd rfl h, fun _ h8 _ => ?_, trivial⟩
                    have := hcl.reach 20 7 8 (by kernel_rfl) h8
                    rw [hdi] at this; cases this
                · intro x wy d hall hR hx
                  obtain ⟨-, -, -, -, -, -, -, -, ho, -⟩ := hx
                  have ho : OBM 4 wx8.heap.size wx8 (x 8) (k + 1) (flatR (out.take k ++ r :: out.drop k)) wy := ho
                  obtain ⟨AF, cF, hF, -, -, -⟩ := ho.slice
                  have HF := Lib.hid (ho.out HBX.out.size HBX.out)
                  rw [hF] at HF ⊢
                  clear ho hF hR
                  go_wp2_with fail
                  go_round
                  case rel => exact ⟨kk + 1, by omega, by go_num, Lib.hid (by rw [HNX.out, HST.out, insR_split_len (k := k) (by have := HM.out; omega), HM.out]; exact HF.out)⟩
                  case measure => simp [intOf]; omega
          · have hgO : gO = gO := rfl
            go_upto_region 6 with fail
            refine wp_region_goesG data_follows (fun x => by simp [putsF, Act.put]; rfl) wr.heap.size wr
              [isV (.int .i64 (k : Nat)), isV (.slice (some ⟨gO, 0, none⟩) k cO), isV (.int .i64 (k : Nat)), isV (.bool false), isV (.bool false), isV undef, isV undef, isV undef, isV undef, isV undef, isV undef, isV undef, isV (.bool false)]
              (by kernel_rfl) (by kernel_rfl) (by kernel_rfl) rfl ?_ (Below.refl _ _) ?_ ?_
            · repeat (first | exact trivial | refine ⟨isV_stays _, ?_⟩)
            · refine ⟨?_, ?_, ?_, ?_, ?_, ?_, ?_, ?_, ?_, ?_, ?_, ?_, ?_, trivial⟩
              all_goals
                intro x wx hR hd
                simp at hd ⊢
              all_goals try simp [hd]
              · go_simp; exact next_same _ rfl rfl hR
              · go_simp; exact next_same _ rfl rfl hR
              · go_simp; exact next_same _ rfl rfl hR
              · go_simp; exact next_same _ rfl rfl hR
              · go_simp; exact next_same _ rfl rfl hR
              · go_simp; exact next_same _ rfl rfl hR
            · intro x wx hR hx
              simp [AllWords] at hx
              have h12 : x 12 = .bool false := by simp [hx]
              have HB3 := Lib.hid (below_trans HB2.out HB2.out.size hR)
              rw [h12]
              clear hx
              go_upto_region 8 with fail
              refine wp_region_goesG data_follows (fun x => by simp [putsF, Act.put]; rfl) wx.heap.size wx
                [isV (.int .i64 (k : Nat)), isV (.slice (some ⟨gO, 0, none⟩) k cO), isV (.int .i64 (k : Nat)), isV (.bool false), isV (.bool false), isV undef, isV undef, isV undef, isV undef, isV undef, isV undef, isV (.bool false), isV (.bool false)]
                (by kernel_rfl) (by kernel_rfl) (by kernel_rfl) rfl ?_ (Below.refl _ _) ?_ ?_
              · repeat (first | exact trivial | refine ⟨isV_stays _, ?_⟩)
              · refine ⟨?_, ?_, ?_, ?_, ?_, ?_, ?_, ?_, ?_, ?_, ?_, ?_, ?_, trivial⟩
                all_goals
                  intro x wv hR hd
                  simp at hd ⊢
                all_goals try simp [hd]
                · go_simp; exact next_same _ rfl rfl hR
                · go_simp; exact next_same _ rfl rfl hR
                · go_simp; exact next_same _ rfl rfl hR
                · go_simp; exact next_same _ rfl rfl hR
                · go_simp; exact next_same _ rfl rfl hR
                · go_simp; exact next_same _ rfl rfl hR
                · go_simp; exact next_same _ rfl rfl hR
              · intro x8 wx8 hR8 hx8
                simp [AllWords] at hx8
                have h12 : x8 12 = .bool false := by simp [hx8]
                have HB4 := Lib.hid (below_trans HB3.out HB3.out.size hR8)
                rw [h12]
                clear hx8
                have HRX := Lib.hid (HR1.out.below HB4.out)
                have HCX := Lib.hid (HC1.out.below HB4.out)
                have HBX := Lib.hid (below_trans HB1.out HB1.out.size HB4.out)
                have HT1 : Hid (Src Tryd.prog 4 34 (.slice (some ⟨gO, 0, none⟩) k cO) k (flatR (out.take k)) wx8) := Lib.hid (((HRX.out.take k (by omega) cO).sl.srcM (P := Tryd.prog) (c := cO) (tx := 34) (e' := 32) (by kernel_rfl) (HRX.out.take k (by omega) cO).none_ (flatR_one _)))
                have HT1L : Hid ((flatR (out.take k)).length = k * 4) := Lib.hid ((HRX.out.take k (by omega) cO).sl.1)
                obtain ⟨A7, hA7⟩ : ∃ A7 : Option Addr, (if cO = k then some ⟨gO, 0, none⟩ else some ⟨gO, k * 4, none⟩) = A7 := ⟨_, rfl⟩
                have HR7 : Hid (∀ wy, Below wx8.heap.size wx8 wy → RowROk wy (A7, 0, cO - k, out.drop k)) := Lib.hid (fun wy hb => by
                  rw [← hA7]
                  by_cases hck : cO = k
                  · rw [if_pos hck, List.drop_eq_nil_of_le (by have := HM.out; omega)]
                    exact RowROk.nothing _ _ _
                  · rw [if_neg hck]
                    have := (HRX.out.below hb).drop k (by omega) (cO - k)
                    rwa [Nat.sub_self, Nat.zero_add] at this)
                have hkc : k ≤ cO := by omega
                have hkci : (k : Int) ≤ cO := by omega
                have hkni : (k : Int) ≤ k := by omega
                have hnci : (k : Int) ≤ cO := by omega
                go_wp2_with (at_builtin; go_loud (refine wpList_append_obm rfl (.const (.slice none 0 0)) _ 34 34 rfl 32 i0 _ 40 (by kernel_rfl) hi hz0 hz1 hz2 rfl (OBM.start (sz := 4) wx8) rfl rfl HT1.out HT1L.out (by unfold maxLen; omega) (by omega) ?_))
                intro v8 wz q1 q2 q3 q4
                replace q1 : OBM 4 wx8.heap.size wx8 v8 k (flatR (out.take k)) wz := by simpa using q1
                have HBZ := Lib.hid q1.bel
                have HRZ := Lib.hid (HRX.out.below q1.bel)
                have HCZ := Lib.hid (HCX.out.below q1.bel)
                obtain ⟨A8, c8, rfl, -, -, -⟩ := q1.slice
                have HO8 := Lib.hid (q1.out (Nat.le_refl _) (Below.refl _ _))
                have hsz8 := q1.bel.size
                clear q1 q2 q3 q4
                go_upto_region 11 with fail
                refine wp_region_expR data_follows (fun x => by simp [putsF, Act.put]; rfl) (fun d x v => Below wx8.heap.size wx8 v ∧ wx8.heap.size ≤ v.heap.size ∧ (d 3 = false → OBM 4 wx8.heap.size wx8 (.slice A8 k c8) k (flatR (out.take k)) v) ∧ (d 8 = false → x 8 = .slice (some ⟨gO, 0, none⟩) k cO))
                  [isX (.slice A8 k c8), isX (.agg #[.string r.1, .int .u16 r.2.1, .int .u32 r.2.2.1, .string r.2.2.2]), until_ 3 (litW 1 (recCells r)), until_ 7 (ownW 4 wx8.heap.size wx8 (k + 1) (flatR (out.take k ++ [r]))), isX (.slice (some ⟨gO, 0, none⟩) k cO), isX (.int .i64 (k : Nat)), isX (.slice A7 0 (cO - k)), always (ownW 4 wx8.heap.size wx8 (k + 1) (flatR (out.take k ++ r :: out.drop k))), always (ownW 4 wx8.heap.size wx8 (k + 1) (flatR (out.take k ++ r :: out.drop k)))]
                  [3, 4, 7] (by kernel_rfl) (by kernel_rfl) (by kernel_rfl) rfl ?_ ⟨HBZ.out.drew, hsz8, fun _ => HO8.out.drewN 1, fun _ => rfl⟩ ?_ ?_ ?_
                · repeat (first | exact trivial | refine ⟨by first | exact isX_stays _ | exact until_stays (ownW_stays _ _ _ _ _) | exact until_stays (litW_stays _ _) | exact always_stays (ownW_stays _ _ _ _ _), ?_⟩)
                · refine ⟨?_, ?_, ?_, skipped rfl, skipped rfl, ?_, ?_, skipped rfl, ?_, trivial⟩
                  all_goals
                    intro _ d x wy hR hdi hsrc hd
                    refine ⟨fun _ => ?_, fun hX => by simp at hX⟩
                    simp [wordX, isX] at hd ⊢
                  · go_simp; exact nextXR _ rfl rfl ⟨hR.1, hR.2.1, fun h => hR.2.2.1 (setD_false h), held_next hR.2.2.2 (by decide)⟩ (Below.refl _ _)
                  · have hc := HCX.out.below hR.1
                    have c0 := hc.get 0 _
                    have c1 := hc.get 1 _
                    have c2 := hc.get 2 _
                    have c3 := hc.get 3 _
                    clear hc
                    go_simp; exact nextXR _ rfl rfl ⟨hR.1, hR.2.1, fun h => hR.2.2.1 (setD_false h), held_next hR.2.2.2 (by decide)⟩ (Below.refl _ _)
                  · go_simp; exact nextXR _ rfl (until_of (litW_new 1 _ _ _ _)) ⟨hR.1.alloc hR.2.1 _, by have := hR.2.1; simp; omega, fun h => (hR.2.2.1 (setD_false h)).alloc _, held_next hR.2.2.2 (by decide)⟩ ((Below.refl _ _).alloc (Nat.le_refl _) _)
                  · go_simp; exact nextXR _ rfl rfl ⟨hR.1, hR.2.1, fun h => hR.2.2.1 (setD_false h), held_next hR.2.2.2 (by decide)⟩ (Below.refl _ _)
                  · obtain ⟨hd0, hd1⟩ := hd; go_simp; exact nextXR _ rfl rfl ⟨hR.1, hR.2.1, fun h => hR.2.2.1 (setD_false h), held_next hR.2.2.2 (by decide)⟩ (Below.refl _ _)
                  · have hd7 : ownW 4 wx8.heap.size wx8 (k + 1) (flatR (out.take k ++ r :: out.drop k)) (x 7) wy := by first | exact hd | exact hd.1
                    go_simp; exact nextXR _ rfl hd7 ⟨hR.1, hR.2.1, fun h => hR.2.2.1 (setD_false h), held_self⟩ (Below.refl _ _)
                · refine ⟨unskipped rfl, unskipped rfl, unskipped rfl, ?_, ?_, unskipped rfl, unskipped rfl, ?_, unskipped rfl, trivial⟩
                  · intro _ d x wy hR hdi hcl hsrc hd
                    refine ⟨fun _ => ?_, fun hX => by simp at hX⟩
                    have d0 : d 0 = true := SrcX.reach (K := 3) hcl hsrc rfl 20 0 (by decide) (by kernel_rfl)
                    have d2 : d 2 = true := SrcX.reach (K := 3) hcl hsrc rfl 20 2 (by decide) (by kernel_rfl)
                    simp only [DoneX] at hd
                    have h0 : x 0 = .slice A8 k c8 := hd.1 d0
                    obtain ⟨g2, hx2, hc2⟩ := hd.2.2.1 d2 hdi
                    have ho := hR.2.2.1 hdi
                    dsimp only
                    rw [h0, hx2]
                    refine oper_append_obk _ _ _ _ rfl 32 i0 _ 40 (by kernel_rfl) hi hz0 hz1 hz2 rfl ho rfl rfl
                      (Src.ofSlice _ (e' := 32) (by kernel_rfl) ⟨g2, 0, none⟩ 1 1 (recCells r) rfl (fun j u hu => by rw [Addr.add_lit, Nat.zero_add]; exact hc2.get j u hu) (by intro u hu; unfold recCells at hu; simp at hu; rcases hu with rfl | rfl | rfl | rfl <;> rfl)) rfl (by unfold maxLen; omega) (by omega) ?_
                    intro v' w' q1 q2 q3 q4 q5
                    rw [← flatR_snoc] at q1
                    refine nextKR v' rfl (until_of q1) ⟨q1.bel, q1.base, fun h => absurd h (by simp [setD]), held_next hR.2.2.2 (by decide)⟩ ?_
                    refine ⟨fun _ _ h => h, fun _ _ h => h, fun _ _ _ => until_self, fun h => absurd rfl h, fun _ _ h => h, fun _ _ h => h, fun _ _ h => h, fun _ h7 _ => ?_, fun _ h8 _ => ?_, trivial⟩
                    · have := hcl.reach 20 3 7 (by kernel_rfl) h7
                      rw [hdi] at this; cases this
                    · have := hcl.reach 20 3 8 (by kernel_rfl) h8
                      rw [hdi] at this; cases this
                  · intro _ d x wy hR hdi hcl hsrc hd
                    refine ⟨fun _ => ?_, fun hX => by simp at hX⟩
                    have d8 : d 8 = false := by
                      cases e : d 8 with
                      | false => rfl
                      | true => have := hcl.reach 20 4 8 (by kernel_rfl) e; rw [hdi] at this; cases this
                    have hx8 := hR.2.2.2 d8
                    dsimp only
                    rw [hx8]
                    go_simp
                    refine nextKR _ rfl rfl ⟨hR.1, hR.2.1, fun h => hR.2.2.1 (setD_false h), held_next hR.2.2.2 (by decide)⟩ ?_
                    exact ⟨fun _ _ h => h, fun _ _ h => h, fun _ _ h => until_mono h, fun _ _ h => until_mono h, fun h => absurd rfl h, fun _ _ h => h, fun _ _ h => h, fun _ _ h => h, fun _ _ h => h, trivial⟩
                  · intro _ d x wy hR hdi hcl hsrc hd
                    refine ⟨fun _ => ?_, fun hX => by simp at hX⟩
                    have d3 : d 3 = true := SrcX.reach (K := 7) hcl hsrc rfl 20 3 (by decide) (by kernel_rfl)
                    have d6 : d 6 = true := SrcX.reach (K := 7) hcl hsrc rfl 20 6 (by decide) (by kernel_rfl)
                    simp only [DoneX] at hd
                    have h6 : x 6 = .slice A7 0 (cO - k) := hd.2.2.2.2.2.2.1 d6
                    have ho : OBM 4 wx8.heap.size wx8 (x 3) (k + 1) (flatR (out.take k ++ [r])) wy := hd.2.2.2.1 d3 hdi
                    have h3r := HR7.out wy hR.1
                    dsimp only
                    rw [h6]
                    refine oper_append_obk _ _ _ _ rfl 32 i0 _ 40 (by kernel_rfl) hi hz0 hz1 hz2 rfl ho rfl rfl
                      (h3r.sl.srcM (P := Tryd.prog) (e' := 32) (by kernel_rfl) h3r.none_ (flatR_one _)) h3r.sl.1 (by unfold maxLen; first | omega | (dsimp only; omega)) (by first | omega | (dsimp only; omega)) ?_
                    intro v' w' q1 q2 q3 q4 q5
                    have q1' : OBM 4 wx8.heap.size wx8 v' (k + 1) (flatR (out.take k ++ r :: out.drop k)) w' := by
                      have e1 : flatR (out.take k ++ [r]) ++ flatR (out.drop k) = flatR (out.take k ++ r :: out.drop k) := by rw [← flatR_append]; simp
                      have e2 : k + 1 + 0 = k + 1 := by omega
                      rw [← e1, ← e2]; exact q1
                    refine nextKR v' rfl q1' ⟨q1.bel, q1.base, fun h => absurd (setD_false h) (by rw [d3]; simp), held_next hR.2.2.2 (by decide)⟩ ?_
                    refine ⟨fun _ _ h => h, fun _ _ h => h, fun _ _ _ => until_done d3, fun _ _ _ => until_self, fun _ _ h => h, fun _ _ h => h, fun _ _ h => h, fun h => absurd rfl h, fun _ h8 _ => ?_, trivial⟩
                    have := hcl.reach 20 7 8 (by kernel_rfl) h8
                    rw [hdi] at this; cases this
                · intro x wy d hall hR hx
                  obtain ⟨-, -, -, -, -, -, -, -, ho, -⟩ := hx
                  have ho : OBM 4 wx8.heap.size wx8 (x 8) (k + 1) (flatR (out.take k ++ r :: out.drop k)) wy := ho
                  obtain ⟨AF, cF, hF, -, -, -⟩ := ho.slice
                  have HF := Lib.hid (ho.out HBX.out.size HBX.out)
                  rw [hF] at HF ⊢
                  clear ho hF hR
                  go_wp2_with fail
                  go_round
                  case rel => exact ⟨kk + 1, by omega, by go_num, Lib.hid (by rw [HNX.out, HST.out, insR_split_len (k := k) (by have := HM.out; omega), HM.out]; exact HF.out)⟩
                  case measure => simp [intOf]; omega
    · have hlt' : ¬ (kk : Int) < n := by omega
      go_wp2_with fail
      go_ret
      have := HB.out
      rw [List.take_of_length_le (by rw [HL.out]; omega)] at this
      exact ⟨_, rfl, this⟩
end Go.Proofs.YteaeplceahdioaaDoor
namespace Go.Proofs.YteaeplceahdioaaDoor
open Go.RowKit
set_option linter.unusedVariables false
set_option linter.unusedSimpArgs false
theorem takeWhile_all {α : Type} {p : α → Bool} : ∀ {l : List α} {a : α}, a ∈ l.takeWhile p → p a = true
  | [], _, h => by simp at h
  | x :: l, a, h => by
    by_cases hx : p x = true
    · rw [List.takeWhile_cons_of_pos hx] at h
      rcases List.mem_cons.1 h with rfl | h
      · exact hx
      · exact takeWhile_all h
    · rw [List.takeWhile_cons_of_neg hx] at h; cases h
theorem insR_has (out : List RecT) (r : RecT) : r ∈ insR out r := by unfold insR; simp
theorem insR_keeps {out : List RecT} {r q : RecT} (h : q ∈ out) : q ∈ insR out r := by
  rw [← List.takeWhile_append_dropWhile (p := lowB r) (l := out)] at h
  unfold insR
  rcases List.mem_append.1 h with h | h
  · exact List.mem_append.2 (.inl h)
  · exact List.mem_append.2 (.inr (List.mem_cons_of_mem _ h))
theorem stepS_cases (out : List RecT) (r : RecT) : (stepS out r = out ∧ r ∈ out) ∨ stepS out r = insR out r := by
  unfold stepS
  split
  · rename_i q l h
    split
    · rename_i he
      left
      refine ⟨rfl, ?_⟩
      have := (eqB_iff q r).1 he
      rw [← this]
      exact (List.dropWhile_sublist (lowB r)).mem (by rw [h]; simp)
    · right; rfl
  · right; rfl
theorem stepS_new {out : List RecT} {r : RecT} (h : r ∉ out) : stepS out r = insR out r := by
  rcases stepS_cases out r with ⟨_, h'⟩ | h'
  · exact absurd h' h
  · exact h'
theorem stepS_has (out : List RecT) (r : RecT) : r ∈ stepS out r := by
  rcases stepS_cases out r with ⟨h, h'⟩ | h
  · rw [h]; exact h'
  · rw [h]; exact insR_has _ _
theorem stepS_keeps {out : List RecT} {r q : RecT} (h : q ∈ out) : q ∈ stepS out r := by
  rcases stepS_cases out r with ⟨h', _⟩ | h'
  · rw [h']; exact h
  · rw [h']; exact insR_keeps h
theorem foldl_keeps : ∀ (rs out : List RecT) (q : RecT), q ∈ out ∨ q ∈ rs → q ∈ rs.foldl stepS out
  | [], out, q, h => by
    rcases h with h | h
    · exact h
    · cases h
  | r :: rs, out, q, h => by
    refine foldl_keeps rs (stepS out r) q ?_
    rcases h with h | h
    · exact .inl (stepS_keeps h)
    · rcases List.mem_cons.1 h with h | h
      · exact .inl (by rw [h]; exact stepS_has _ _)
      · exact .inr h
theorem sortedR_has {rs : List RecT} {q : RecT} (h : q ∈ rs) : q ∈ sortedR rs := foldl_keeps rs [] q (.inr h)
/-- In order, each once. -/
def Rising (l : List RecT) : Prop := l.Pairwise fun a b => cmpR a b < 0
theorem insR_rising {out : List RecT} {r : RecT} (h : Rising out) (hr : r ∉ out) : Rising (insR out r) := by
  unfold Rising at h ⊢
  rw [← List.takeWhile_append_dropWhile (p := lowB r) (l := out), List.pairwise_append] at h
  obtain ⟨h1, h2, h3⟩ := h
  have hlow : ∀ a ∈ out.takeWhile (lowB r), cmpR a r < 0 := by
    intro a ha
    have := takeWhile_all ha
    unfold lowB at this
    simpa using this
  have hhigh : ∀ b ∈ out.dropWhile (lowB r), cmpR r b < 0 := by
    intro b hb
    have hsub : b ∈ out := (List.dropWhile_sublist (lowB r)).mem hb
    have hne : cmpR r b ≠ 0 := by
      intro e
      have := (cmpR_is.zero _ _).1 e
      rw [this] at hr
      exact hr hsub
    -- the first of them is not lower than r
    cases hd : out.dropWhile (lowB r) with
    | nil => rw [hd] at hb; cases hb
    | cons q l =>
      have hq : lowB r q = false := by
        have := List.head?_dropWhile_not (lowB r) out
        rw [hd] at this
        simpa using this
      have hq0 : cmpR q r ≥ 0 := by unfold lowB at hq; simp at hq; omega
      have hrq : cmpR r q ≤ 0 := by have := cmpR_is.swap q r; omega
      rw [hd] at hb h2
      rcases List.mem_cons.1 hb with rfl | hb
      · omega
      · have hqb := (List.pairwise_cons.1 h2).1 b hb
        exact cmpR_is.lt_of_le_lt hrq hqb
  unfold insR
  rw [List.pairwise_append]
  refine ⟨h1, List.pairwise_cons.2 ⟨hhigh, h2⟩, fun a ha b hb => ?_⟩
  rcases List.mem_cons.1 hb with rfl | hb
  · exact hlow a ha
  · exact h3 a ha b hb
theorem stepS_old {out : List RecT} {r : RecT} (h : Rising out) (hr : r ∈ out) : stepS out r = out := by
  rw [← List.takeWhile_append_dropWhile (p := lowB r) (l := out)] at hr
  have hr2 : r ∈ out.dropWhile (lowB r) := by
    rcases List.mem_append.1 hr with h' | h'
    · have := takeWhile_all h'
      unfold lowB at this
      rw [cmpR_is.refl] at this
      simp at this
    · exact h'
  unfold Rising at h
  rw [← List.takeWhile_append_dropWhile (p := lowB r) (l := out), List.pairwise_append] at h
  obtain ⟨-, h2, -⟩ := h
  unfold stepS
  cases hd : out.dropWhile (lowB r) with
  | nil => rw [hd] at hr2; cases hr2
  | cons q l =>
    have hq : lowB r q = false := by
      have := List.head?_dropWhile_not (lowB r) out
      rw [hd] at this
      simpa using this
    have hqr : q = r := by
      rw [hd] at hr2 h2
      rcases List.mem_cons.1 hr2 with h' | h'
      · exact h'.symm
      · have := (List.pairwise_cons.1 h2).1 r h'
        unfold lowB at hq
        simp at hq
        omega
    dsimp only
    rw [(eqB_iff q r).2 hqr]
    simp
theorem foldl_rising : ∀ (rs out : List RecT), Rising out → Rising (rs.foldl stepS out)
  | [], _, h => h
  | r :: rs, out, h => by
    refine foldl_rising rs (stepS out r) ?_
    by_cases hr : r ∈ out
    · rw [stepS_old h hr]; exact h
    · rw [stepS_new hr]; exact insR_rising h hr
theorem sortedR_rising (rs : List RecT) : Rising (sortedR rs) := foldl_rising rs [] List.Pairwise.nil
/-- Records but one. -/
def lessR (z : List RecT) (s : RecT) : List RecT := z.filter fun x => !eqB x s
theorem lessR_at {z : List RecT} {s : RecT} {k : Nat} (h : Rising z) (hk : z[k]? = some s) (hn : s ∉ z.take k) : z.take k ++ z.drop (k + 1) = lessR z s := by
  have hlt := (List.getElem?_eq_some_iff.1 hk).1
  have he : z[k] = s := by rw [List.getElem?_eq_getElem hlt] at hk; injection hk
  have hz : z = z.take k ++ s :: z.drop (k + 1) := by
    conv => lhs; rw [← List.take_append_drop k z, List.drop_eq_getElem_cons hlt, he]
  have hs2 : s ∉ z.drop (k + 1) := by
    unfold Rising at h
    rw [hz, List.pairwise_append] at h
    intro hm
    have h3 := (List.pairwise_cons.1 h.2.1).1 s
    have := h3 hm
    rw [cmpR_is.refl] at this
    omega
  have f1 : ∀ l : List RecT, s ∉ l → l.filter (fun x => !eqB x s) = l := by
    intro l hl
    rw [List.filter_eq_self]
    intro x hx
    cases e : eqB x s with
    | false => rfl
    | true => rw [(eqB_iff x s).1 e] at hx; exact absurd hx hl
  unfold lessR
  conv => rhs; rw [hz]
  rw [List.filter_append, List.filter_cons, (eqB_iff s s).2 rfl, f1 _ hn, f1 _ hs2]
  simp
theorem lessR_none {z : List RecT} {s : RecT} (h : s ∉ z) : lessR z s = z := by
  unfold lessR
  rw [List.filter_eq_self]
  intro x hx
  cases e : eqB x s with
  | false => rfl
  | true => rw [(eqB_iff x s).1 e] at hx; exact absurd hx h
theorem lessR_next {z : List RecT} {s : RecT} {k : Nat} {r : RecT} (h : z[k]? = some r) : lessR (z.take (k + 1)) s = lessR (z.take k) s ++ (if eqB r s then [] else [r]) := by
  unfold lessR
  rw [List.take_add_one, h, List.filter_append]
  cases e : eqB r s <;> simp [e]
end Go.Proofs.YteaeplceahdioaaDoor
namespace Go.Proofs.YteaeplceahdioaaDoor
open Go.RowKit
set_option linter.unusedVariables false
set_option linter.unusedSimpArgs false
set_option maxRecDepth 20000
attribute [local simp] putsF isV wordOf Deps Region.binds Region.wanted Act.put wantedX isB
/-- An error of this number. -/
def errV (k : Int) : Value := .iface 40 (.int .i64 k)
set_option maxHeartbeats 1600000 in
theorem insert_old (A : Option Addr) (n c : Nat) (rs : List RecT) (r : RecT) (w : World) (h : Recs w A rs) (hl : rs.length = n) (hn : n ≤ maxLen) (hr : r ∈ rs) :
    Calls Tryd.prog 40 #[.slice A n c, recV r] w fun e w' => e = .returned (.tuple #[.slice none 0 0, errV 7]) ∧ Below w.heap.size w w' := by
  have HAS := Lib.hid (fun w h => has_any A n c rs r w h hl hn)
  rw [(hasB_iff _ _).2 hr] at HAS
  have HH := Lib.hid h
  unfold recV errV at *
  clear h hl hn hr
  go_enter Tryd.func40, Tryd.ntmps40
  go_wp2_with fail
  refine (HAS.out _ (HH.out.below ((Below.refl _ _).alloc (Nat.le_refl _) _))).mono ?_
  rintro e w1 ⟨rfl, hb⟩
  have HB := Lib.hid (below_alloc _ (Below.refl _ _) (Nat.le_refl _) hb)
  clear hb
  go_wp2_with fail
  exact bodyPost_ret (v := .tuple #[.slice none 0 0, .iface 40 (.int .i64 7)]) (by simp [results, Tryd.results40, go_sem]) rfl ⟨rfl, HB.out⟩
/-- So many rows that are some records, one behind the other. -/
def joinN (m : Nat) (L : List RecT) : Value → World → Prop := fun v w => ∃ g, v = .slice (some ⟨g, 0, none⟩) m m ∧ ∃ rows : List RowR, Sl w w.heap.size 1 (some ⟨g, 0, none⟩) m (rows.map rowRV) ∧ (∀ r ∈ rows, RowROk w r) ∧ allR rows = L
theorem joinN_stays (m : Nat) (L : List RecT) : ∀ v w w', joinN m L v w → Goes w w' → joinN m L v w' := by
  rintro v w w' ⟨g, rfl, rows, hS, hok, hL⟩ hb
  exact ⟨g, rfl, rows, (hS.below hb).more hb.size, fun r hr => (hok r hr).below hb, hL⟩
set_option maxHeartbeats 3200000 in
theorem delete_none (A : Option Addr) (n c : Nat) (rs : List RecT) (r : RecT) (w : World) (h : Recs w A rs) (hl : rs.length = n) (hn : n ≤ maxLen) (hr : r ∉ rs) :
    Calls Tryd.prog 39 #[.slice A n c, recV r] w fun e w' => e = .returned (.tuple #[.slice none 0 0, errV 6]) ∧ Below w.heap.size w w' := by
  have IX := Lib.hid (fun w h => index_any A n c rs r w h hl hn)
  have HH := Lib.hid h
  unfold recV errV at *
  clear h hl hn
  go_enter Tryd.func39, Tryd.ntmps39
  go_wp2_with fail
  refine (IX.out _ (HH.out.below ((Below.refl _ _).alloc (Nat.le_refl _) _))).mono ?_
  rintro e w1 ⟨i, rfl, hi, hb⟩
  rcases hi with ⟨rfl, -⟩ | ⟨k, rfl, hk, -⟩
  · have HB := Lib.hid (below_alloc _ (Below.refl _ _) (Nat.le_refl _) hb)
    clear hb hr
    go_wp2_with fail
    exact bodyPost_ret (v := .tuple #[.slice none 0 0, .iface 40 (.int .i64 6)]) (by simp [results, Tryd.results39, go_sem]) rfl ⟨rfl, HB.out⟩
  · exact absurd (List.mem_of_getElem? hk) hr
set_option maxHeartbeats 3200000 in
theorem delete_some (A : Option Addr) (n c : Nat) (rs : List RecT) (r : RecT) (w : World) (h : RowROk w (A, n, c, rs)) (hnc : n ≤ c) (hn : n ≤ 100000) (hr : r ∈ rs) (hri : Rising rs) :
    Calls Tryd.prog 39 #[.slice A n c, recV r] w fun e w' => ∃ v, e = .returned (.tuple #[v, .nilIface]) ∧ OBM 4 w.heap.size w v (lessR rs r).length (flatR (lessR rs r)) w' := by
  have hl : rs.length = n := h.len
  obtain ⟨NL, hNL⟩ : ∃ NL, (lessR rs r).length = NL := ⟨_, rfl⟩
  rw [hNL]
  have HNL := Lib.hid hNL
  clear hNL
  have IX := Lib.hid (fun w h => index_any A n c rs r w h hl (by unfold maxLen; omega))
  have HH := Lib.hid h
  have HRI := Lib.hid hri
  have HRR := Lib.hid hr
  have HL := Lib.hid hl
  unfold recV at IX ⊢
  clear h hri hr hl
  go_enter Tryd.func39, Tryd.ntmps39
  go_wp2_with fail
  refine (IX.out _ ((HH.out.sl.recs (Nat.le_refl _) HL.out).below ((Below.refl _ _).alloc (Nat.le_refl _) _))).mono ?_
  rintro e w1 ⟨i, rfl, hi, hb⟩
  rcases hi with ⟨rfl, hno⟩ | ⟨k, rfl, hk, hkn⟩
  · exact absurd HRR.out hno
  · have hkl : k < n := by have := (List.getElem?_eq_some_iff.1 hk).1; have := HL.out; omega
    have hb' := below_alloc _ (Below.refl _ _) (Nat.le_refl _) hb
    have HB := Lib.hid hb'
    have HRX := Lib.hid (HH.out.below hb')
    have HI := Lib.hid (lessR_at HRI.out hk hkn)
    have hlen : (lessR rs r).length ≤ 100000 := by
      unfold lessR
      have := List.length_filter_le (fun x => !eqB x r) rs
      have := HL.out
      omega
    have HLE := Lib.hid hlen
    obtain ⟨b, off, he, -, -⟩ := HRX.out.sl.2 (by dsimp only; omega)
    dsimp only at he
    subst he
    obtain ⟨A7, hA7⟩ : ∃ A7 : Option Addr, (if c = k + 1 then some ⟨b, off, none⟩ else some ⟨b, off + (k + 1) * 4, none⟩) = A7 := ⟨_, rfl⟩
    have HR7 : Hid (∀ wy, Below w1.heap.size w1 wy → RowROk wy (A7, n - (k + 1), c - (k + 1), rs.drop (k + 1))) := Lib.hid (fun wy hb => by
      rw [← hA7]
      by_cases hck : c = k + 1
      · rw [if_pos hck, List.drop_eq_nil_of_le (by have := HL.out; omega), show n - (k + 1) = 0 by omega]
        exact RowROk.nothing _ _ _
      · rw [if_neg hck]
        exact (HRX.out.below hb).drop (k + 1) (by omega) _)
    have hkc : k ≤ c := by omega
    have hkci : (k : Int) ≤ c := by omega
    have hk1c : k + 1 ≤ c := by omega
    have hk1ci : (k : Int) + 1 ≤ c := by omega
    have hk1n : (k : Int) + 1 ≤ n := by omega
    have hnci : (n : Int) ≤ c := by omega
    have hkneg : ¬ (k : Int) < 0 := by omega
    have htn : ((k : Int) + 1).toNat = k + 1 := by omega
    have hk0 : (0 : Int) ≤ (k : Int) + 1 := by omega
    clear hb hb' hk hkn hlen
    go_upto_region 4 with fail
    refine wp_region_goesG data_follows (fun x => by simp [putsF, Act.put]; rfl) w1.heap.size w1
      [isV (.slice (some ⟨b, off, none⟩) n c), isV (.int .i64 (k : Nat)), isV (.slice (some ⟨b, off, none⟩) k c), isV (.slice (some ⟨b, off, none⟩) n c), isV (.int .i64 (k : Nat)), isV (.int .i64 ((k : Int) + 1)), isV (.slice A7 (n - (k + 1)) (c - (k + 1))), joinN 2 (lessR rs r), ownW 4 w1.heap.size w1 NL (flatR (lessR rs r)), ownW 4 w1.heap.size w1 NL (flatR (lessR rs r)), isV .nilIface]
      (by kernel_rfl) (by kernel_rfl) (by kernel_rfl) rfl ?_ (Below.refl _ _) ?_ ?_
    · repeat (first | exact trivial | refine ⟨by first | exact isV_stays _ | exact joinN_stays _ _ | exact ownW_stays _ _ _ _ _, ?_⟩)
    · refine ⟨?_, ?_, ?_, ?_, ?_, ?_, ?_, ?_, ?_, ?_, ?_, trivial⟩
      all_goals
        intro y wy hR hd
        refine ⟨fun _ => ?_, fun hX => by simp at hX⟩
        simp at hd ⊢
      · go_simp; exact next_same _ rfl rfl hR
      · go_simp; exact next_same _ rfl rfl hR
      · obtain ⟨hd0, hd1⟩ := hd; go_simp; exact next_same _ rfl rfl hR
      · go_simp; exact next_same _ rfl rfl hR
      · go_simp; exact next_same _ rfl rfl hR
      · have hwr : IntKind.i64.wrap ((k : Int) + 1) = (k : Int) + 1 := by rw [IntKind.wrap_i64]; omega
        go_simp; exact next_same _ rfl rfl hR
      · obtain ⟨hd0, hd1⟩ := hd; go_simp; exact next_same _ rfl rfl hR
      · obtain ⟨hd0, hd1⟩ := hd
        go_simp
        refine next_alloc _ _ rfl ⟨_, rfl, [(some ⟨b, off, none⟩, k, c, rs.take k), (A7, n - (k + 1), c - (k + 1), rs.drop (k + 1))], Sl.fresh _ _ _ 2 _ rfl rfl, ?_, ?_⟩ hR hR.size
        · intro p hp
          simp at hp
          have hb' : Below wy.heap.size wy (wy.alloc (.cells #[.slice (some ⟨b, off, none⟩) k c, .slice A7 (n - (k + 1)) (c - (k + 1))] 34)) := (Below.refl _ _).alloc (Nat.le_refl _) _
          rcases hp with rfl | rfl
          · exact (((HRX.out.below hR).take k (by omega) c).below hb')
          · exact (HR7.out _ hR).below hb'
        · show rs.take k ++ (rs.drop (k + 1) ++ []) = lessR rs r
          rw [← HI.out]; simp
      · obtain ⟨g8, hx8, rows, hS, hok, hall⟩ := hd
        rw [hx8]
        go_simp
        go_at_call 64
        refine (concat_any _ 2 2 rows wy hS (by decide) hok (by rw [hall]; have := HLE.out; omega)).mono ?_
        rintro e w2 ⟨v, rfl, ho⟩
        rw [hall, HNL.out] at ho
        exact next_call _ rfl (ho.out hR.size hR) hR hR.size ho.bel
      · have hd9 : ownW 4 w1.heap.size w1 NL (flatR (lessR rs r)) (y 8) wy := by first | exact hd | exact hd.1
        go_simp; exact next_same _ rfl hd9 hR
      · go_simp; exact next_same _ rfl rfl hR
    · intro y wy hR hy
      obtain ⟨-, -, -, -, -, -, -, -, -, ho, h11, -⟩ := hy
      have h11 : y 10 = .nilIface := h11
      unfold ownW at ho
      obtain ⟨AF, cF, hF, -, -, -⟩ := ho.slice
      have HF := Lib.hid (ho.out HB.out.size HB.out)
      rw [hF] at HF
      rw [hF, h11]
      clear ho hF h11 hR
      go_wp2_with fail
      refine bodyPost_ret (v := .tuple #[.slice AF NL cF, .nilIface]) (by simp [results, Tryd.results39, go_sem]) rfl ⟨_, rfl, HF.out⟩
end Go.Proofs.YteaeplceahdioaaDoor
namespace Go.Proofs.YteaeplceahdioaaDoor
open Go.RowKit
set_option linter.unusedVariables false

/-- The bytes are a name's. -/
def mayL (l : List UInt8) : Prop := (nameLabels l).isSome = true
/-- A name, a byte 0, and what stands behind it. -/
def IsCut (l n t : List UInt8) : Prop := mayL n ∧ l = n ++ 0 :: t
theorem mayL_wire {n : List UInt8} (h : mayL n) : ∃ ls, n = wire ls ∧ (∀ x ∈ ls, okLabel x = true) ∧ n.length ≤ 254 := by
  unfold mayL at h
  obtain ⟨ls, hl⟩ := Option.isSome_iff_exists.1 h
  have := (nameLabels_iff _ _).1 hl
  exact ⟨ls, this.2.1, this.2.2, this.1⟩
/-- A place at which labels begin, or the name ends, if the bytes begin with one. -/
def At (l : List UInt8) (p : Nat) : Prop := ∀ ls t, (∀ x ∈ ls, okLabel x = true) → l = wire ls ++ 0 :: t → ∃ k, k ≤ ls.length ∧ p = (wire (ls.take k)).length
theorem At.start (l : List UInt8) : At l 0 := fun ls t _ _ => ⟨0, Nat.zero_le _, by simp [wire]⟩
theorem at_head {l : List UInt8} {ls : List (List UInt8)} {t : List UInt8} (hl : l = wire ls ++ 0 :: t) (k : Nat) (hk : k ≤ ls.length) {p : Nat} (hp : p = (wire (ls.take k)).length) :
    l[p]? = (wire (ls.drop k) ++ 0 :: t)[0]? := by
  have h1 : l = wire (ls.take k) ++ (wire (ls.drop k) ++ 0 :: t) := by
    rw [← List.append_assoc, ← wire_append, List.take_append_drop]; exact hl
  rw [h1, hp, List.getElem?_append_right (Nat.le_refl _), Nat.sub_self]
theorem okLabel_len {x : List UInt8} (h : okLabel x = true) : 1 ≤ x.length ∧ x.length ≤ 63 := by
  simp only [okLabel, Bool.and_eq_true, decide_eq_true_eq] at h
  exact h.1
theorem ofNat_small (n : Nat) (h : n < 256) : (UInt8.ofNat n).toNat = n := by simp; omega
theorem at_more {l : List UInt8} {ls : List (List UInt8)} {t : List UInt8} (hok : ∀ x ∈ ls, okLabel x = true) (hl : l = wire ls ++ 0 :: t) (k : Nat) (hk : k ≤ ls.length) {p : Nat} (hp : p = (wire (ls.take k)).length) (c : UInt8) (hc : l[p]? = some c) :
    (k = ls.length ∧ c = 0) ∨ ∃ x, ls[k]? = some x ∧ c.toNat = x.length ∧ 1 ≤ x.length := by
  rw [at_head hl k hk hp] at hc
  rcases Nat.lt_or_ge k ls.length with h | h
  · right
    refine ⟨ls[k], List.getElem?_eq_getElem h, ?_⟩
    rw [List.drop_eq_getElem_cons h, wire_cons] at hc
    simp only [List.cons_append, List.getElem?_cons_zero, Option.some.injEq] at hc
    have h2 := okLabel_len (hok _ (List.getElem_mem h))
    rw [← hc, ofNat_small _ (by omega)]
    exact ⟨rfl, h2.1⟩
  · left
    rw [List.drop_eq_nil_of_le h] at hc
    simp [wire] at hc
    exact ⟨by omega, hc.symm⟩
theorem At.next {l : List UInt8} {p : Nat} (h : At l p) (c : UInt8) (hc : l[p]? = some c) (h0 : c ≠ 0) : At l (p + 1 + c.toNat) := by
  intro ls t hok hl
  obtain ⟨k, hk, hp⟩ := h ls t hok hl
  rcases at_more hok hl k hk hp c hc with ⟨_, h1⟩ | ⟨x, hx, hcx, _⟩
  · exact absurd h1 h0
  · have hlt := (List.getElem?_eq_some_iff.1 hx).1
    refine ⟨k + 1, by omega, ?_⟩
    have hx2 : ls[k] = x := (List.getElem?_eq_some_iff.1 hx).2
    rw [List.take_succ_eq_append_getElem hlt, wire_append, hx2, List.length_append, ← hp, hcx]
    simp [wire]; omega
theorem At.stop {l : List UInt8} {p : Nat} (h : At l p) (hc : l[p]? = some 0) (n t : List UInt8) (hn : IsCut l n t) : n = l.take p ∧ t = l.drop (p + 1) := by
  obtain ⟨ls, rfl, hok, _⟩ := mayL_wire hn.1
  obtain ⟨k, hk, hp⟩ := h ls t hok hn.2
  rcases at_more hok hn.2 k hk hp 0 hc with ⟨h1, _⟩ | ⟨x, hx, hcx, h1⟩
  · have h2 : ls.take k = ls := by rw [h1, List.take_length]
    rw [h2] at hp
    rw [hn.2, hp]
    constructor
    · simp
    · rw [List.drop_append, List.drop_eq_nil_of_le (by omega)]; simp
  · simp at hcx; omega
theorem At.over {l : List UInt8} {p : Nat} (h : At l p) (hp : l.length ≤ p) (n t : List UInt8) (hn : IsCut l n t) : False := by
  obtain ⟨ls, rfl, hok, _⟩ := mayL_wire hn.1
  obtain ⟨k, hk, hpk⟩ := h ls t hok hn.2
  have h1 : (wire ls).length = (wire (ls.take k)).length + (wire (ls.drop k)).length := by rw [← List.length_append, ← wire_append, List.take_append_drop]
  have h2 : l.length = (wire ls).length + (t.length + 1) := by rw [hn.2]; simp
  omega
theorem cut_here {l : List UInt8} {p : Nat} (hc : l[p]? = some 0) (hm : mayL (l.take p)) : IsCut l (l.take p) (l.drop (p + 1)) := by
  refine ⟨hm, ?_⟩
  obtain ⟨hp, hz⟩ := List.getElem?_eq_some_iff.1 hc
  conv => lhs; rw [← List.take_append_drop p l, List.drop_eq_getElem_cons hp, hz]
theorem At.one {l n t n' t' : List UInt8} (h : IsCut l n t) (h' : IsCut l n' t') : n = n' ∧ t = t' := by
  obtain ⟨ls, rfl, hok, _⟩ := mayL_wire h.1
  obtain ⟨ls', rfl, hok', _⟩ := mayL_wire h'.1
  suffices ∀ (a b : List (List UInt8)), (∀ x ∈ a, okLabel x = true) → (∀ x ∈ b, okLabel x = true) → wire a ++ 0 :: t = wire b ++ 0 :: t' → wire a = wire b ∧ t = t' from this _ _ hok hok' (h.2.symm.trans h'.2)
  intro a
  induction a with
  | nil =>
    intro b _ hb he
    cases b with
    | nil => simp [wire] at he; exact ⟨rfl, he⟩
    | cons y b =>
      have h1 := okLabel_len (hb y (by simp))
      rw [wire_cons] at he
      simp [wire] at he
      have h2 := congrArg UInt8.toNat he.1
      simp at h2; omega
  | cons x a ih =>
    intro b ha hb he
    have h1 := okLabel_len (ha x (by simp))
    cases b with
    | nil =>
      rw [wire_cons] at he
      simp [wire] at he
      have h2 := congrArg UInt8.toNat he.1
      simp at h2; omega
    | cons y b =>
      have h2 := okLabel_len (hb y (by simp))
      rw [wire_cons, wire_cons] at he
      simp only [List.cons_append, List.cons.injEq, List.append_assoc] at he
      have h3 := congrArg UInt8.toNat he.1
      rw [ofNat_small _ (by omega), ofNat_small _ (by omega)] at h3
      have h4 := List.append_inj he.2 h3
      obtain ⟨h5, h6⟩ := ih b (fun z hz => ha z (by simp [hz])) (fun z hz => hb z (by simp [hz])) h4.2
      rw [wire_cons, wire_cons, h5, h4.1]
      exact ⟨rfl, h6⟩
/-- The data of an SOA: two names, and twenty bytes. -/
def IsSoa (l a b t : List UInt8) : Prop := IsCut l a (b ++ 0 :: t) ∧ mayL b ∧ t.length = 20
theorem IsSoa.one {l a b t a' b' t' : List UInt8} (h : IsSoa l a b t) (h' : IsSoa l a' b' t') : a = a' ∧ b = b' ∧ t = t' := by
  obtain ⟨h1, h2⟩ := At.one h.1 h'.1
  obtain ⟨h3, h4⟩ := At.one (l := b ++ 0 :: t) ⟨h.2.1, rfl⟩ ⟨h'.2.1, h2⟩
  exact ⟨h1, h3, h4⟩
end Go.Proofs.YteaeplceahdioaaDoor
